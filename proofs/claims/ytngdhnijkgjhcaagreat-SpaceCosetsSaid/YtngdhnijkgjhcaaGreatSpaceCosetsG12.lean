/- Contracts of functions of the program, and what they lean on: M23, M24, S1, S2, S3, S4, S5, S6, S7, S8, S9, S10, S11, S12. -/
import Derived.Test.YtngdhnijkgjhcaaGreatSpaceCosetsG11
set_option linter.unusedVariables false
set_option linter.unusedSimpArgs false
namespace Go.Proofs.YtngdhnijkgjhcaaGreat
section
variable {p m v : Nat} {P M : Int} {mf : List Int} {X Y : List (List Int)} {C D : Int} {w wy : Nat}
theorem Jy1 {n k : Nat} {a b : List Int} (ha : Asc n a) (hb : Asc n b) (h1 : ∀ i, i < a.length -> ∃ j, j < b.length /\ vo b j = vo a i) (h2 : ∀ j, j < b.length -> ∃ i, i < a.length /\ vo a i = vo b j) : ∀ k, k < a.length -> k < b.length /\ vo a k = vo b k := by
  intro k
  induction k using Nat.strongRecOn with
  | ind k ih =>
    intro hk
    obtain ⟨j, hj, e⟩ := h1 k hk
    have hjk : k <= j := by
      rcases Nat.lt_or_ge j k with h | h
      . have h3 := (ih j h (by omega)).2
        have h4 := ha.2 j k h hk
        omega
      . exact h
    have hkb : k < b.length := by omega
    refine ⟨hkb, ?_⟩
    obtain ⟨i, hi, e2⟩ := h2 k hkb
    rcases Nat.lt_trichotomy i k with h | h | h
    . have h3 := (ih i h hi).2
      have h4 := hb.2 i k h hkb
      omega
    . rw [<- e2, h]
    . have h3 := ha.2 k i h hi
      rcases Nat.lt_or_ge k j with h5 | h5
      . have := hb.2 k j h5 hj; omega
      . rw [show k = j by omega] at e2 ⊢; omega
theorem Jy0 {n : Nat} {a b : List Int} (ha : Asc n a) (hb : Asc n b) (h1 : ∀ i, i < a.length -> ∃ j, j < b.length /\ vo b j = vo a i) (h2 : ∀ j, j < b.length -> ∃ i, i < a.length /\ vo a i = vo b j) : a = b := by
 have k1 := Jy1 (k := 0) ha hb h1 h2; have k2 := Jy1 (k := 0) hb ha h2 h1; refine QR ?_ fun i hi => (k1 i hi).2; rcases Nat.lt_trichotomy a.length b.length with h | h | h
 .have := (k2 a.length h).1; omega
 .exact h
 .have := (k1 b.length h).1; omega
theorem Jka (hF : FV P M mf p m v) (hs : shp C X) (he : Els p m X) {a : Nat -> Nat} (ha : ∀ c, a c < p ^ m) (hA : ∀ f, Lin p m v C.toNat f -> Ann p m f (Qb p m v C X) -> f a = 0) {c : Nat} (hc : c < C.toNat) :
    a c = fs p m (fun i => JD p m (dv p v) (a (vo (J8 p m v C X) i).toNat) (en p m (row (Qb p m v C X) i) c)) (J8 p m v C X).length := by
  have R := hF.ring
  have q1 : 1 < p ^ m := R.q2
  have hp : 0 < p := by have := hF.p2; omega
  have hasc := YZ (p := p) (m := m) (v := v) C X
  have hcl := Yg (p := p) (m := m) (v := v) hs
  have hneg : ∀ y, y < p ^ m -> QN p m y < p ^ m := fun y _ => Ya hp y
  have L := Qbj (w := C.toNat) hF (c := c) (r := (J8 p m v C X).length) (pv := fun i => (vo (J8 p m v C X) i).toNat) (nR := fun i => QN p m (en p m (row (Qb p m v C X) i) c)) hc (fun i hi => by have := hasc.1 i hi; show (vo (J8 p m v C X) i).toNat < _; omega) (fun i => hneg _ (Q1 hF _ _))
  have hann := hA _ L (fun s hsl => by
    show cof _ _ _ _ _ _ _ (en p m (row (Qb p m v C X) s)) = 0
    unfold cof
    have hsr : s < (J8 p m v C X).length := by omega
    have hd : ∀ i, i < (J8 p m v C X).length -> en p m (row (Qb p m v C X) s) (vo (J8 p m v C X) i).toNat = if s = i then 1 else 0 := fun i hi => by
      have := Jdm hF hs he hi hsr
      by_cases e : s = i
      . rw [if_pos e] at this ⊢; exact Jdj hF q1 this
      . rw [if_neg e] at this ⊢; exact Jdj hF (by omega) this
    have h9 := Jhc hF (f := fun i => JD p m (dv p v) (QN p m (en p m (row (Qb p m v C X) i) c)) (en p m (row (Qb p m v C X) s) (vo (J8 p m v C X) i).toNat)) (j := s) (R.Ml _ _) _ hsr fun i hi hne => by
      show JD p m (dv p v) _ _ = 0
      rw [hd i hi, if_neg (fun e => hne e.symm), R.M0 (hneg _ (Q1 hF _ _))]
    show J3 p m _ (fs p m (fun i => JD p m (dv p v) (QN p m (en p m (row (Qb p m v C X) i) c)) (en p m (row (Qb p m v C X) s) (vo (J8 p m v C X) i).toNat)) (J8 p m v C X).length) = 0
    rw [h9]
    show J3 p m _ (JD p m (dv p v) _ _) = 0
    rw [hd s hsr, if_pos rfl, R.M1 (hneg _ (Q1 hF _ _))]
    exact Ye hp (Q1 hF _ _))
  unfold cof at hann
  have hG := Jdi hF (fun i => JD p m (dv p v) (a (vo (J8 p m v C X) i).toNat) (en p m (row (Qb p m v C X) i) c)) (J8 p m v C X).length
  have hN := Jdi hF (fun i => JD p m (dv p v) (QN p m (en p m (row (Qb p m v C X) i) c)) (a (vo (J8 p m v C X) i).toNat)) (J8 p m v C X).length
  have hGN : J3 p m (fs p m (fun i => JD p m (dv p v) (a (vo (J8 p m v C X) i).toNat) (en p m (row (Qb p m v C X) i) c)) (J8 p m v C X).length) (fs p m (fun i => JD p m (dv p v) (QN p m (en p m (row (Qb p m v C X) i) c)) (a (vo (J8 p m v C X) i).toNat)) (J8 p m v C X).length) = 0 := by
    have h1 := Jon hF (f := fun i => JD p m (dv p v) (a (vo (J8 p m v C X) i).toNat) (en p m (row (Qb p m v C X) i) c)) (h := fun i => JD p m (dv p v) (QN p m (en p m (row (Qb p m v C X) i) c)) (a (vo (J8 p m v C X) i).toNat)) (x := 1) (fun i => R.Ml _ _) (fun i => R.Ml _ _) q1 (J8 p m v C X).length
    rw [R.Mc q1 hN, R.M1 hN] at h1
    rw [<- h1]
    refine Jbr hF _ fun i hi => ?_
    show J3 p m (JD p m (dv p v) _ _) (JD p m (dv p v) 1 (JD p m (dv p v) _ _)) = 0
    have ha' := ha (vo (J8 p m v C X) i).toNat
    have hb := Q1 hF (row (Qb p m v C X) i) c
    rw [R.Mc q1 (R.Ml _ _), R.M1 (R.Ml _ _), R.Mc (hneg _ hb) ha', <- R.Md ha' hb (hneg _ hb), Ye hp hb, R.M0 ha']
  have hx := ha c
  generalize fs p m (fun i => JD p m (dv p v) (a (vo (J8 p m v C X) i).toNat) (en p m (row (Qb p m v C X) i) c)) (J8 p m v C X).length = G1 at *
  generalize fs p m (fun i => JD p m (dv p v) (QN p m (en p m (row (Qb p m v C X) i) c)) (a (vo (J8 p m v C X) i).toNat)) (J8 p m v C X).length = N1 at *
  generalize a c = b at *
  calc b = J3 p m b (J3 p m G1 N1) := by rw [hGN, R.Az hx]
    _ = J3 p m G1 (J3 p m b N1) := by rw [<- R.Aa hx hG hN, R.Ac b G1, R.Aa hG hx hN]
    _ = G1 := by rw [hann, R.Az hG]
theorem Jxo (hF : FV P M mf p m v) (hX : shp C X) (eX : Els p m X) (hY : shp C Y) (eY : Els p m Y) (h : ∀ f, Lin p m v C.toNat f -> Ann p m f Y -> Ann p m f X) : ∀ t, t < (J8 p m v C X).length -> ∃ j, j < (J8 p m v C Y).length /\ vo (J8 p m v C Y) j = vo (J8 p m v C X) t := by
  intro t ht
  have R := hF.ring
  have q1 : 1 < p ^ m := R.q2
  have hq : 0 < p ^ m := by omega
  have pX := YZ (p := p) (m := m) (v := v) C X
  have pY := YZ (p := p) (m := m) (v := v) C Y
  have lX := Yg (p := p) (m := m) (v := v) hX
  have hk := fun f (L : Lin p m v C.toNat f) (h1 : Ann p m f (Qb p m v C Y)) => (Jdp hF hX eX L).2 (h f L ((Jdp hF hY eY L).1 h1)) t (by omega)
  have ht' := pX.1 t ht
  have hc := Jka hF hY eY (a := en p m (row (Qb p m v C X) t)) (fun c => Q1 hF _ c) hk (c := (vo (J8 p m v C X) t).toNat) (by omega)
  have hu := Jdm hF hX eX (i := t) (t := t) ht ht
  rw [if_pos rfl] at hu
  rw [Jdj hF (z := 1) q1 hu] at hc
  refine Classical.byContradiction fun hno => ?_
  rw [Jbr hF _ fun i hi => ?_] at hc
  . omega
  show JD p m (dv p v) (en p m (row (Qb p m v C X) t) (vo (J8 p m v C Y) i).toNat) (en p m (row (Qb p m v C Y) i) (vo (J8 p m v C X) t).toNat) = 0
  have hi' := pY.1 i hi
  rcases Int.lt_trichotomy (vo (J8 p m v C Y) i) (vo (J8 p m v C X) t) with h1 | h1 | h1
  . rw [Jdj hF (z := 0) hq (Jhj hF hX eX ht (c := (vo (J8 p m v C Y) i).toNat) (by omega)), R.Mc hq (Q1 hF _ _), R.M0 (Q1 hF _ _)]
  . exact absurd ⟨i, hi, h1⟩ hno
  . rw [Jdj hF (z := 0) hq (Jhj hF hY eY hi (c := (vo (J8 p m v C X) t).toNat) (by omega)), R.M0 (Q1 hF _ _)]
theorem Jyr (hF : FV P M mf p m v) (hX : shp C X) (eX : Els p m X) (hY : shp C Y) (eY : Els p m Y) (h : ∀ f, Lin p m v C.toNat f -> (Ann p m f X ↔ Ann p m f Y)) : J8 p m v C X = J8 p m v C Y /\ Qb p m v C X = Qb p m v C Y := by
 have R := hF.ring; have q1 : 1 < p ^ m := R.q2; have hq : 0 < p ^ m := by omega
 have pX := YZ (p := p) (m := m) (v := v) C X; have pY := YZ (p := p) (m := m) (v := v) C Y; have lX := Yg (p := p) (m := m) (v := v) hX; have lY := Yg (p := p) (m := m) (v := v) hY; have sX := YC (p := p) (m := m) (v := v) hX; have sY := YC (p := p) (m := m) (v := v) hY; have e : J8 p m v C X = J8 p m v C Y := Jy0 pX pY (Jxo hF hX eX hY eY fun f L => (h f L).2) (Jxo hF hY eY hX eX fun f L => (h f L).1); refine ⟨e, Qa3 (w := C.toNat) (by rw [lX, lY, e]) (YY hF eX) (YY hF eY) (fun t ht => ⟨Qk sX ht, Qk sY (by rw [lY, <- e, <- lX]; exact ht)⟩) fun t c ht hc => ?_⟩; have ht' : t < (J8 p m v C Y).length := by rw [<- e, <- lX]; exact ht
 have hk := fun f (L : Lin p m v C.toNat f) (h1 : Ann p m f (Qb p m v C Y)) => (Jdp hF hX eX L).2 ((h f L).2 ((Jdp hF hY eY L).1 h1)) t ht; have hc' := Jka hF hY eY (a := en p m (row (Qb p m v C X) t)) (fun c => Q1 hF _ c) hk (c := c) hc; rw [hc']; have hd : ∀ i, i < (J8 p m v C Y).length -> en p m (row (Qb p m v C X) t) (vo (J8 p m v C Y) i).toNat = if t = i then 1 else 0 := fun i hi => by
  have := Jdm hF hX eX (i := i) (t := t) (by rw [e]; exact hi) (by rw [e]; exact ht'); rw [e] at this; by_cases e' : t = i
  .rw [if_pos e'] at this ⊢; exact Jdj hF q1 this
  .rw [if_neg e'] at this ⊢; exact Jdj hF hq this
 rw [Jhc hF (f := fun i => JD p m (dv p v) (en p m (row (Qb p m v C X) t) (vo (J8 p m v C Y) i).toNat) (en p m (row (Qb p m v C Y) i) c)) (j := t) (R.Ml _ _) _ ht' fun i hi hne => by
  show JD p m (dv p v) _ _ = 0; rw [hd i hi, if_neg (fun q => hne q.symm), R.Mc hq (Q1 hF _ _), R.M0 (Q1 hF _ _)]]
 show JD p m (dv p v) _ _ = _; rw [hd t ht', if_pos rfl, R.Mc q1 (Q1 hF _ _), R.M1 (Q1 hF _ _)]
end
end Go.Proofs.YtngdhnijkgjhcaaGreat
set_option linter.unusedVariables false
set_option linter.unusedSimpArgs false
namespace Go.Proofs.YtngdhnijkgjhcaaGreat
section
variable {p m v : Nat} {P M : Int} {mf : List Int} {X Y : List (List Int)} {C D : Int} {w wy : Nat}
theorem Qbs {a o : List Int} {x : Int} (h : x ≠ 0) : adm p m v a x o = adx p m v a x o := by unfold adx; rw [if_neg h]
end
end Go.Proofs.YtngdhnijkgjhcaaGreat
set_option linter.unusedVariables false
set_option linter.unusedSimpArgs false
namespace Go.Proofs.YtngdhnijkgjhcaaGreat
variable {P M : Int} {mf : List Int} {p m v : Nat} {C : Int} {X Y : List (List Int)}
structure Cnl (C : Nat) (X : List (List Int)) (q : Nat -> Nat) : Prop where
  lt : ∀ i, i < X.length -> q i < C
  one : ∀ i, i < X.length -> ∀ t, t < X.length -> vo (row X t) (q i) = if t = i then 1 else 0
  lf : ∀ i, i < X.length -> ∀ c, c < q i -> vo (row X i) c = 0
  asc : ∀ i j, i < j -> j < X.length -> q i < q j
def Jv6 (C : Int) (X : List (List Int)) : Prop := ∃ q, Cnl C.toNat X q
theorem Jdq (a o : List Int) : adx p m v a 0 o = a := by unfold adx; rw [if_pos rfl]
theorem ng_0 (hF : FV P M mf p m v) : Ng p m 0 = 0 := (Jjw hF ⟨by omega, by
 have := hF.ring.q2; have h : (0 : Int) < ((p ^ m : Nat) : Int) := by exact_mod_cast (by omega : 0 < p ^ m)
 exact h⟩).2 rfl
theorem Qbg (hF : FV P M mf p m v) {S : ES} {k : Nat} (he : Els p m S.X) (hj : S.pv.length < S.X.length) (h1 : ∀ t, t < S.X.length -> vo (row S.X t) k = if t = S.pv.length then 1 else 0) : (es1 p m v k S.pv.length S.pv.length S).X = S.X := by
 rw [Jcg]; have e1 : swq S.X S.pv.length S.pv.length = S.X := by unfold swq; rw [if_pos rfl]
 rw [e1]; have e2 : scq p m v S.X S.pv.length (vo (row S.X S.pv.length) k) = S.X := by
  unfold scq; rw [h1 _ hj, if_pos rfl, Jx5 hF, Jxa hF (Ql he _)]; refine QD (by simp) fun i hi => ?_; rw [Qi]; split
  .rename_i h; rw [h.1]
  .rfl
 rw [e2]; refine QD (by rw [Zb]) fun i hi => ?_; rw [Zb] at hi; rw [Zw hi]; split
 .rfl
 .rename_i hne
  rw [h1 i hi, if_neg hne, ng_0 hF, Jdq]
theorem Jma (hF : FV P M mf p m v) {q : Nat -> Nat} {w wy : Nat} {Y : List (List Int)} {d : Int} (hq : Cnl w X q) (he : Els p m X) : ∀ k, k <= w -> (elim p m v k ⟨X, Y, [], d⟩).X = X /\ ∃ j, j <= X.length /\ (∀ i, i < j -> q i < k) /\ (∀ i, j <= i -> i < X.length -> k <= q i) /\ (elim p m v k ⟨X, Y, [], d⟩).pv = (List.range j).map fun i => ((q i : Nat) : Int)
 | 0, _ => ⟨rfl, 0, Nat.zero_le _, fun i h => absurd h (Nat.not_lt_zero i), fun i _ _ => Nat.zero_le _, rfl⟩
 | k + 1, hk => by
  obtain ⟨h1, j, hj, h2, h3, h4⟩ := Jma hF (Y := Y) (d := d) (wy := wy) hq he k (by omega); rw [QW]; generalize elim p m v k ⟨X, Y, [], d⟩ = S at h1 h4 ⊢; have hl : S.pv.length = j := by rw [h4]; simp
  unfold Yf; rw [hl, h1]; by_cases hjn : j < X.length
  .by_cases hqk : q j = k
   .have hn : nz X k j = j := (Jl3 (Nat.le_refl _) hj (fun t a b => by omega) (fun hh => by
     have := hq.one j hh j hh; rw [hqk, if_pos rfl] at this; rw [this]; decide)).symm
    rw [hn, if_pos ⟨hjn, hjn⟩]; have e := Qbg (k := k) hF (S := S) (by rw [h1]; exact he) (by rw [hl, h1]; exact hjn) (fun t ht => by
     rw [h1] at ht ⊢; rw [hl, <- hqk]; exact hq.one j hjn t ht)
    rw [hl] at e; refine ⟨e.trans h1, j + 1, hjn, fun i hi => ?_, fun i a b => ?_, ?_⟩
    .rcases Nat.lt_or_ge i j with h | h
     .have := h2 i h; omega
     .have : i = j := by omega
      subst this; omega
    .have := hq.asc j i (by omega) b; omega
    .show S.pv ++ [(k : Int)] = _; rw [h4, List.range_succ, List.map_append, List.map_cons, List.map_nil, hqk]
   .have hlt : k < q j := by have := h3 j (Nat.le_refl _) hjn; omega
    have hz : ∀ t, j <= t -> t < X.length -> vo (row X t) k = 0 := fun t a b => hq.lf t b k (by
     rcases Nat.lt_or_ge j t with h | h
     .have := hq.asc j t h b; omega
     .have : t = j := by omega
      subst this; exact hlt)
    have hn : ¬ nz X k j < X.length := fun hh => (Jaj X k j hj).2.2 hh (hz _ (Jrh X k j) hh); rw [if_neg (fun hh => hn hh.2)]; refine ⟨h1, j, hj, fun i hi => by have := h2 i hi; omega, fun i a b => ?_, h4⟩; rcases Nat.lt_or_ge j i with h | h
    .have := hq.asc j i h b; omega
    .have : i = j := by omega
     subst this; omega
  .rw [if_neg (fun hh => hjn hh.1)]; exact ⟨h1, j, hj, fun i hi => by have := h2 i hi; omega, fun i a b => by omega, h4⟩
theorem Jke (hF : FV P M mf p m v) (hs : shp C X) (he : Els p m X) {q : Nat -> Nat} (hq : Cnl C.toNat X q) : Qb p m v C X = X /\ J8 p m v C X = (List.range X.length).map fun i => ((q i : Nat) : Int) := by
 obtain ⟨h1, j, hj, h2, h3, h4⟩ := Jma (wy := 0) (Y := List.replicate X.length []) (d := 1) hF hq he C.toNat (Nat.le_refl _); have e : j = X.length := by
  rcases Nat.lt_or_ge j X.length with h | h
  .have := h3 j (Nat.le_refl _) h; have := hq.lt j h; omega
  .omega
 subst e; have hP : J8 p m v C X = (List.range X.length).map fun i => ((q i : Nat) : Int) := h4; refine ⟨?_, hP⟩; show (elim p m v C.toNat ⟨X, List.replicate X.length [], [], 1⟩).X.take (elim p m v C.toNat ⟨X, List.replicate X.length [], [], 1⟩).pv.length = X; rw [h1, h4, List.length_map, List.length_range, List.take_length]
theorem Jbc (hs : shp C X) {i : Nat} (hi : i < (J8 p m v C X).length) : (((vo (J8 p m v C X) i).toNat : Nat) : Int) = vo (J8 p m v C X) i /\ (vo (J8 p m v C X) i).toNat < C.toNat := by
 have h := (YZ (p := p) (m := m) (v := v) C X).1 i hi; omega
theorem Jhk (hF : FV P M mf p m v) (hs : shp C X) (he : Els p m X) : Cnl C.toNat (Qb p m v C X) fun i => (vo (J8 p m v C X) i).toNat := by
 have hl := Yg (p := p) (m := m) (v := v) hs; refine ⟨fun i hi => (Jbc hs (by omega)).2, fun i hi t ht => Jdm hF hs he (by omega) (by omega), fun i hi c hc => ?_, fun i j hij hj => ?_⟩
 .exact Jhj hF hs he (by omega) (by have := (Jbc (p := p) (m := m) (v := v) hs (i := i) (by omega)).1; omega)
 .have h := (YZ (p := p) (m := m) (v := v) C X).2 i j hij (by omega); have h1 := (Jbc (p := p) (m := m) (v := v) hs (i := i) (by omega)).1; have h2 := (Jbc (p := p) (m := m) (v := v) hs (i := j) (by omega)).1; omega
theorem Qbl (hF : FV P M mf p m v) (hs : shp C X) (he : Els p m X) : Qb p m v C (Qb p m v C X) = Qb p m v C X /\ J8 p m v C (Qb p m v C X) = J8 p m v C X := by
 have h := Jke hF (YC hs) (YY hF he) (Jhk hF hs he); refine ⟨h.1, h.2.trans ?_⟩; have hl := Yg (p := p) (m := m) (v := v) hs; refine List.ext_getElem (by simp [hl]) fun i h1 h2 => ?_; simp only [List.getElem_map, List.getElem_range]; rw [(Jbc hs h2).1]; unfold vo; rw [List.getD_eq_getElem?_getD, List.getElem?_eq_getElem h2]; rfl
theorem Jyn (hF : FV P M mf p m v) (hs : shp C X) (he : Els p m X) : Jv6 C X ↔ Qb p m v C X = X :=
 ⟨fun ⟨q, hq⟩ => (Jke hF hs he hq).1, fun h => ⟨_, by have := Jhk hF hs he; rwa [h] at this⟩⟩
theorem Cnl.len {w : Nat} {q : Nat -> Nat} (h : Cnl w X q) : X.length <= w := by
  have : ∀ k, k <= X.length -> k = 0 ∨ k <= q (k - 1) + 1 := by
    intro k
    induction k with
    | zero => intro _; exact .inl rfl
    | succ k ih =>
      intro hk
      refine .inr ?_
      rcases ih (by omega) with h0 | h1
      . subst h0; omega
      . rcases Nat.eq_zero_or_pos k with h0 | h0
        . subst h0; omega
        . have := h.asc (k - 1) k (by omega) (by omega)
          rw [Nat.add_sub_cancel]; omega
  rcases this X.length (Nat.le_refl _) with h0 | h1
  . omega
  . rcases Nat.eq_zero_or_pos X.length with h0 | h0
    . omega
    . have := h.lt (X.length - 1) (by omega); omega
end Go.Proofs.YtngdhnijkgjhcaaGreat
set_option linter.unusedVariables false
set_option linter.unusedSimpArgs false
namespace Go.Proofs.YtngdhnijkgjhcaaGreat
variable {P M : Int} {mf : List Int} {p m v : Nat} {C : Int} {X Y : List (List Int)} {w : Nat}
def Sb (p m : Nat) (x y : Int) : Int := ((J3 p m (inE (p ^ m) x) (QN p m (inE (p ^ m) y)) : Nat) : Int)
def sbx (p m v : Nat) (a : List Int) (x : Int) (o : List Int) : List Int := if x = 0 then a else (List.range a.length).map fun i => if i < o.length then Sb p m (vo a i) (Ml p m v x (vo o i)) else vo a i
theorem el_ad0 (hF : FV P M mf p m v) {a : Int} (ha : El p m a) {z : Int} (hz : inE (p ^ m) z = 0) : Ad p m a z = a := by
 unfold Ad; rw [hz, hF.ring.Az (JZ (by have := hF.ring.q2; omega) _), Zl ha]
theorem ml_z (hF : FV P M mf p m v) {x z : Int} (hz : inE (p ^ m) z = 0 ∨ inE (p ^ m) x = 0) : Ml p m v x z = 0 := by
 have hq : 0 < p ^ m := by have := hF.ring.q2; omega
 unfold Ml; rcases hz with h | h
 .rw [h, hF.ring.M0 (JZ hq _)]; rfl
 .rw [h, hF.ring.Mc hq (JZ hq _), hF.ring.M0 (JZ hq _)]; rfl
theorem Jg8 (hF : FV P M mf p m v) : inE (p ^ m) 0 = 0 := Qv (x := 0) (by have := hF.ring.q2; omega)
theorem adm_el (hF : FV P M mf p m v) {a o : List Int} {x : Int} (ha : Elr p m a) : adm p m v a x o = adx p m v a x o := by
 by_cases h : x = 0
 .subst h; rw [Jdq]; refine List.ext_getElem (by rw [Jbw]) fun i h1 h2 => ?_; have e : vo (adm p m v a 0 o) i = vo a i := by
   rw [Jac h2]; split
   .rfl
   .exact el_ad0 hF (ZL ha h2) (by rw [ml_z hF (.inr (Jg8 hF)), Jg8 hF])
  unfold vo at e
  rwa [List.getD_eq_getElem?_getD, List.getElem?_eq_getElem h1, List.getD_eq_getElem?_getD, List.getElem?_eq_getElem h2] at e
 .exact Qbs h
theorem neg_ml (hF : FV P M mf p m v) {x y : Nat} (hx : x < p ^ m) (hy : y < p ^ m) : QN p m (JD p m (dv p v) x y) = JD p m (dv p v) (QN p m x) y := by
 have R := hF.ring; have hp : 0 < p := by have := hF.p2; omega
 have hn := Ya (m := m) hp x; have h1 : J3 p m (JD p m (dv p v) x y) (JD p m (dv p v) (QN p m x) y) = 0 := by
  rw [R.Mc hx hy, R.Mc hn hy, <- R.Md hy hx hn, Ye hp hx, R.M0 hy]
 have h2 := Ye (m := m) hp (R.Ml x y); have h3 := R.Ml (QN p m x) y; have h4 := Ya (m := m) hp (JD p m (dv p v) x y); have h5 : J3 p m (J3 p m (JD p m (dv p v) (QN p m x) y) (JD p m (dv p v) x y)) (QN p m (JD p m (dv p v) x y)) = JD p m (dv p v) (QN p m x) y := by
  rw [R.Aa h3 (R.Ml x y) h4, h2, R.Az h3]
 rw [R.Ac (JD p m (dv p v) (QN p m x) y), h1, R.Ac, R.Az h4] at h5; exact h5
theorem Jl6 (hF : FV P M mf p m v) {x : Nat} (h : x < p ^ m) : inE (p ^ m) ((x : Nat) : Int) = x := Qv h
theorem Qag (hF : FV P M mf p m v) {a o : List Int} {x : Int} (ha : Elr p m a) (hx : El p m x) : sbx p m v a x o = adx p m v a (Ng p m x) o := by
 have R := hF.ring; have hp : 0 < p := by have := hF.p2; omega
 have hq : 0 < p ^ m := by have := R.q2; omega
 unfold sbx; by_cases h : x = 0
 .subst h; rw [if_pos rfl, ng_0 hF, Jdq]
 .rw [if_neg h]; have hn : Ng p m x ≠ 0 := fun e => h ((Jjw hF hx).1 e); unfold adx; rw [if_neg hn]; refine List.ext_getElem (by simp [adm]) fun i h1 h2 => ?_; simp only [List.length_map, List.length_range] at h1; simp only [adm, List.getElem_map, List.getElem_range]; have hai : El p m (vo a i) := ZL ha h1; by_cases ho : vo o i = 0
  .rw [if_pos ho, ho]; split
   .unfold Sb; rw [ml_z hF (.inl (Jg8 hF)), Jg8 hF]; have : QN p m 0 = 0 := by
     have h0 := Ye (m := m) hp hq; rw [R.Ac, R.Az (Ya hp 0)] at h0; exact h0
    rw [this, R.Az (JZ hq _), Zl hai]
   .rfl
  .have hi : i < o.length := by
    rcases Nat.lt_or_ge i o.length with hh | hh
    .exact hh
    .exact absurd (Jca hh) ho
   rw [if_pos hi, if_neg ho]; unfold Sb Ad Ml Ng; rw [Jl6 hF (R.Ml _ _), Jl6 hF (R.Ml _ _), Jl6 hF (Ya hp _), neg_ml hF (JZ hq _) (JZ hq _)]
def rsd (p m v : Nat) (Q : Nat -> Nat) (X : List (List Int)) (u : List Int) : Nat -> List Int
  | 0 => u
  | k + 1 => adx p m v (rsd p m v Q X u k) (Ng p m (vo u (Q k))) (row X k)
theorem Q0 (Q : Nat -> Nat) (u : List Int) : ∀ k, (rsd p m v Q X u k).length = u.length
 | 0 => rfl
 | k + 1 => by rw [rsd, ZD, Q0 Q u k]
theorem Y7 (hp : 0 < p) (Q : Nat -> Nat) {u : List Int} (hu : Elr p m u) : ∀ k, Elr p m (rsd p m v Q X u k)
 | 0 => hu
 | k + 1 => Jbv hp (Y7 hp Q hu k)
theorem Jxi (hF : FV P M mf p m v) {Q : Nat -> Nat} {u : List Int} {c : Nat} (hc : c < u.length) : ∀ k, en p m (rsd p m v Q X u k) c = J3 p m (en p m u c) (fs p m (fun i => JD p m (dv p v) (inE (p ^ m) (Ng p m (vo u (Q i)))) (en p m (row X i) c)) k)
 | 0 => by
  have R := hF.ring; show en p m u c = J3 p m (en p m u c) 0; rw [R.Az (Q1 hF u c)]
 | k + 1 => by
  have R := hF.ring; rw [rsd, Jhf hF (by rw [Q0]; exact hc), Jxi hF hc k, R.Aa (Q1 hF u c) (Jdi hF _ k) (R.Ml _ _)]; rfl
theorem Y6 (hF : FV P M mf p m v) {f : (Nat -> Nat) -> Nat} (L : Lin p m v w f) {Q : Nat -> Nat} {u : List Int} (hu : u.length = w) (hX : Ann p m f X) : ∀ k, k <= X.length -> f (en p m (rsd p m v Q X u k)) = f (en p m u)
 | 0, _ => rfl
 | k + 1, hk => by
  have R := hF.ring; rw [rsd, L.adx hF (by rw [Q0]; exact hu), hX k (by omega), R.M0 (JZ (by have := R.q2; omega) _), R.Az (L.lt _), Y6 hF L hu hX k (by omega)]
theorem Jl9 (hF : FV P M mf p m v) {l : List Int} {c : Nat} (h : El p m (vo l c)) : en p m l c = 0 ↔ vo l c = 0 := by
 unfold en; constructor
 .intro h0; have := Zl h; rw [h0] at this; exact this.symm
 .intro h0; rw [h0, Jg8 hF]
theorem ZA (hF : FV P M mf p m v) {l : List Int} (h : Elr p m l) (c : Nat) : El p m (vo l c) := by
 rcases Nat.lt_or_ge c l.length with hc | hc
 .exact ZL h hc
 .rw [Jca hc]; have := hF.ring.q2; exact ⟨by omega, by exact_mod_cast (by omega : 0 < p ^ m)⟩
theorem Jxh (hF : FV P M mf p m v) {Q : Nat -> Nat} (hlt : ∀ j, j < X.length -> Q j < w) (hone : ∀ j, j < X.length -> ∀ t, t < X.length -> vo (row X t) (Q j) = if t = j then 1 else 0) {u : List Int} (hu : u.length = w) (he : Elr p m u) {j : Nat} (hj : j < X.length) : vo (rsd p m v Q X u X.length) (Q j) = 0 := by
  have R := hF.ring
  have hp : 0 < p := by have := hF.p2; omega
  have hq1 : 1 < p ^ m := by have := R.q2; omega
  refine (Jl9 hF (ZA hF (Y7 hp Q he _) _)).1 ?_
  rw [Jxi hF (by rw [hu]; exact hlt j hj)]
  have e1 : inE (p ^ m) 1 = 1 := Qv (x := 1) hq1
  have hs : fs p m (fun i => JD p m (dv p v) (inE (p ^ m) (Ng p m (vo u (Q i)))) (en p m (row X i) (Q j))) X.length = inE (p ^ m) (Ng p m (vo u (Q j))) := by
    refine (Jhc hF (f := fun i => JD p m (dv p v) (inE (p ^ m) (Ng p m (vo u (Q i)))) (en p m (row X i) (Q j))) (j := j) (R.Ml _ _) X.length hj (fun i hi hne => ?_)).trans ?_
    . show JD p m (dv p v) _ (inE (p ^ m) (vo (row X i) (Q j))) = 0
      rw [hone j hj i hi, if_neg hne, Jg8 hF, R.M0 (JZ (by omega) _)]
    . show JD p m (dv p v) _ (inE (p ^ m) (vo (row X j) (Q j))) = _
      rw [hone j hj j hj, if_pos rfl, e1, R.M1 (JZ (by omega) _)]
  rw [hs]
  unfold Ng en
  rw [Jl6 hF (Ya hp _), Ye hp (JZ (by omega) _)]
theorem Jjc (hF : FV P M mf p m v) {Q : Nat -> Nat} (hq : Cnl w X Q) {u : List Int} (hu : u.length = w) (he : Elr p m u) {j : Nat} (hj : j < X.length) : vo (rsd p m v Q X u X.length) (Q j) = 0 := Jxh hF hq.lt hq.one hu he hj
def Sp (p m v w : Nat) (X : List (List Int)) (u : List Int) : Prop := ∀ f, Lin p m v w f -> Ann p m f X -> f (en p m u) = 0
theorem sp_rsd (hF : FV P M mf p m v) (hs : shp C X) (he : Els p m X) {Q : Nat -> Nat} (hq : Cnl C.toNat X Q) {u : List Int} (hu : u.length = C.toNat) (hue : Elr p m u) : Sp p m v C.toNat X u ↔ ∀ c, c < C.toNat -> vo (rsd p m v Q X u X.length) c = 0 := by
 have R := hF.ring; have hp : 0 < p := by have := hF.p2; omega
 obtain ⟨hX, hP⟩ := Jke hF hs he hq; constructor
 .intro h c hc; refine (Jl9 hF (ZA hF (Y7 hp Q hue _) _)).1 ?_; rw [Jka hF hs he (a := en p m (rsd p m v Q X u X.length)) (Q1 hF _) (fun f L hf => by
   rw [hX] at hf; rw [Y6 hF L hu hf X.length (Nat.le_refl _)]; exact h f L hf) hc]
  refine Jbr hF _ fun i hi => ?_; have hi' : i < X.length := by rw [hP] at hi; simpa using hi
  have e : (vo (J8 p m v C X) i).toNat = Q i := by rw [hP, Jd3 hi']; simp
  rw [e, hX]; have : en p m (rsd p m v Q X u X.length) (Q i) = 0 := (Jl9 hF (ZA hF (Y7 hp Q hue _) _)).2 (Jjc hF hq hu hue hi'); rw [this, R.Mc (by have := R.q2; omega) (Q1 hF _ _), R.M0 (Q1 hF _ _)]
 .intro h f L hf; rw [<- Y6 hF L hu hf X.length (Nat.le_refl _) (Q := Q)]; exact Jl4 hF L fun c hc => (Jl9 hF (ZA hF (Y7 hp Q hue _) _)).2 (h c hc)
end Go.Proofs.YtngdhnijkgjhcaaGreat
set_option linter.unusedVariables false
set_option linter.unusedSimpArgs false
namespace Go.Proofs.YtngdhnijkgjhcaaGreat
variable {P M : Int} {mf : List Int} {p m v g : Nat} {C : Int} {X Y : List (List Int)} {F : GFv}
theorem Jz8 {l : List Int} {pf : Int -> (Bool -> Prop) -> Prop} {f : Int -> Bool} {Q : Int -> Prop} (hl : l.length <= 1000000) (hp : ∀ x (R : Bool -> Prop), R (f x) -> pf x R)
  (h1 : ∀ k : Nat, k < l.length -> f (vo l k) = true -> (∀ j, j < k -> f (vo l j) = false) -> Q (k : Int)) (h2 : (∀ j, j < l.length -> f (vo l j) = false) -> Q (-1)) : Zd l pf Q := by
 refine ⟨fun z => ∃ k : Nat, z = k /\ k <= l.length /\ ∀ j, j < k -> f (vo l j) = false, fun z => (l.length - z).toNat, ⟨0, rfl, Nat.zero_le _, fun j hj => by omega⟩, ?_⟩; rintro _ ⟨k, rfl, hk, hv⟩; dsimp only; refine ⟨fun hlt => ⟨⟨by omega, by omega⟩, hp _ _ ⟨fun hb => h1 k (by omega) hb hv, fun hb => ⟨JB (by omega) (by omega), ⟨k + 1, by push_cast; rfl, by omega, fun j hj => ?_⟩, by omega⟩⟩⟩, fun hge => h2 fun j hj => hv j (by omega)⟩; rcases Nat.lt_or_ge j k with h | h
 .exact hv j h
 .have : j = k := by omega
  subst this; exact hb
theorem Jnj {l : List Int} {Q : Int -> Prop} (hl : l.length <= 1000000)
  (h1 : ∀ k : Nat, k < l.length -> vo l k ≠ 0 -> (∀ j, j < k -> vo l j = 0) -> Q (k : Int)) (h2 : (∀ j, j < l.length -> vo l j = 0) -> Q (-1)) : Zd l (fun xc Qc => Yq xc Qc) Q :=
 Jz8 (f := fun x => decide (x ≠ 0)) hl (fun x R hR => hR) (fun k hk hb hv => h1 k hk (of_decide_eq_true hb) fun j hj => Classical.not_not.1 (of_decide_eq_false (hv j hj))) (fun hv => h2 fun j hj => Classical.not_not.1 (of_decide_eq_false (hv j hj)))
theorem Cnl.lead {w : Nat} {q : Nat -> Nat} (h : Cnl w X q) {t k : Nat} (ht : t < X.length) (hk : vo (row X t) k ≠ 0) (hz : ∀ j, j < k -> vo (row X t) j = 0) : q t = k := by
  rcases Nat.lt_trichotomy (q t) k with h1 | h1 | h1
  . have := hz _ h1
    rw [h.one t ht t ht, if_pos rfl] at this; exact absurd this (by decide)
  . exact h1
  . exact absurd (h.lf t ht k h1) hk
theorem Jhy {Q : Bool -> Prop} (hs : shp C X) (h1 : Jv6 C X -> Q true) (h2 : ¬ Jv6 C X -> Q false) : YS C X Q := by
 obtain ⟨hX, hC, hCe⟩ := Q4 hs; have hw : ∀ t, t < X.length -> (row X t).length = C.toNat := fun t ht => Qk hs ht; refine ⟨fun last z => ∃ t : Nat, z = t /\ t <= X.length /\ ∃ q : Nat -> Nat, (∀ i, i < t -> q i < C.toNat /\ (∀ s, s < X.length -> vo (row X s) (q i) = if s = i then 1 else 0) /\ ∀ c, c < q i -> vo (row X i) c = 0) /\ (∀ i j, i < j -> j < t -> q i < q j) /\ (t = 0 -> last = -1) /\ ∀ u, t = u + 1 -> last = (q u : Int), fun _ z => (X.length - z).toNat, ⟨0, rfl, Nat.zero_le _, fun _ => 0, fun i hi => absurd hi (Nat.not_lt_zero i), fun i j _ hj => absurd hj (Nat.not_lt_zero j), fun _ => rfl, fun u hu => by omega⟩, ?_⟩; rintro last _ ⟨t, rfl, ht, q, hq1, hq2, hl0, hl1⟩; dsimp only; refine ⟨fun hlt => ?_, fun hge => ?_⟩
 .have htl : t < X.length := by omega
  have hwt := hw t htl; refine ⟨⟨by omega, by omega⟩, ?_⟩; show Zd (row X t) _ _; have hlast : ∀ q', Cnl C.toNat X q' -> ∀ u, t = u + 1 -> last = (q' u : Int) := fun q' hq' u hu => by
   have hul : u < X.length := by omega
   have := hq'.lead (t := u) (k := q u) hul (by rw [(hq1 u (by omega)).2.1 u hul, if_pos rfl]; decide) (hq1 u (by omega)).2.2; rw [this]; exact hl1 u hu
  refine Jnj (by omega) (fun k hk hne hz => ?_) (fun hz => ?_)
  .have hkq : ∀ q', Cnl C.toNat X q' -> q' t = k := fun q' hq' => hq'.lead htl hne hz; refine ⟨fun hle => h2 ?_, fun hgt => ?_⟩
   .rintro ⟨q', hq'⟩; rcases Nat.eq_zero_or_pos t with h0 | h0
    .have := hl0 h0; omega
    .have e1 := hlast q' hq' (t - 1) (by omega); have e2 := hq'.asc (t - 1) t (by omega) htl; have e3 := hkq q' hq'; omega
   .refine ⟨⟨by omega, by show (k : Int) < ((row X t).length : Nat); omega⟩, fun hn1 => h2 ?_, fun h1' => ?_⟩
    .rintro ⟨q', hq'⟩; have := hq'.one t htl t htl; rw [hkq q' hq', if_pos rfl] at this; exact hn1 this
    .have hone : vo (row X t) k = 1 := Classical.not_not.1 h1'; refine ⟨fun z => ∃ u : Nat, z = u /\ u <= X.length /\ ∀ j, j < u -> j ≠ t -> vo (row X j) k = 0, fun z => (X.length - z).toNat, ⟨0, rfl, Nat.zero_le _, fun j hj => absurd hj (Nat.not_lt_zero j)⟩, ?_⟩; rintro _ ⟨u, rfl, hu, hju⟩; dsimp only; refine ⟨fun hlt2 => ?_, fun hge2 => ?_⟩
     .have hul : u < X.length := by omega
      have hwu := hw u hul; refine ⟨fun _ => u = t ∨ vo (row X u) k = 0, ⟨⟨by omega, by omega⟩, fun hne2 => ⟨⟨by omega, by show (k : Int) < ((row X u).length : Nat); omega⟩, fun hnz => h2 ?_, fun hz2 => .inr (Classical.not_not.1 hz2)⟩, fun he => .inl (by have := Classical.not_not.1 he; omega)⟩, ?_⟩
      .rintro ⟨q', hq'⟩; have := hq'.one t htl u hul; rw [hkq q' hq', if_neg (by omega)] at this; exact hnz this
      .intro b hb; refine ⟨JB (by omega) (by omega), ⟨u + 1, by push_cast; rfl, by omega, fun j hj hne2 => ?_⟩, by omega⟩; rcases Nat.lt_or_ge j u with h | h
       .exact hju j h hne2
       .have : j = u := by omega
        subst this; exact hb.resolve_left hne2
     .obtain ⟨q2, e1, e2⟩ : ∃ q2 : Nat -> Nat, q2 t = k /\ ∀ i, i ≠ t -> q2 i = q i := ⟨fun i => if i = t then k else q i, if_pos rfl, fun i h => if_neg h⟩
      refine ⟨JB (by omega) (by omega), ⟨t + 1, by push_cast; rfl, by omega, q2, fun i hi => ?_, fun i j hij hj => ?_, fun h0 => by omega, fun u hu => ?_⟩, by omega⟩
      .by_cases hit : i = t
       .subst hit; rw [e1]; refine ⟨by omega, fun s hs' => ?_, fun c hc => hz c hc⟩; by_cases hsi : s = i
        .subst hsi; rw [if_pos rfl]; exact hone
        .rw [if_neg hsi]; exact hju s (by omega) hsi
       .rw [e2 i hit]; exact hq1 i (by omega)
      .have hit : i ≠ t := by omega
       rw [e2 i hit]; by_cases hjt : j = t
       .subst hjt; rw [e1]; have hlu := hl1 (j - 1) (by omega); have : q i <= q (j - 1) := by
         rcases Nat.lt_or_ge i (j - 1) with h | h
         .exact Nat.le_of_lt (hq2 i (j - 1) h (by omega))
         .have : i = j - 1 := by omega
          rw [this]; exact Nat.le_refl _
        omega
       .rw [e2 j hjt]; exact hq2 i j hij (by omega)
      .have : u = t := by omega
       subst this; rw [e1]
  .have hge : (-1 : Int) <= last := by
    rcases Nat.eq_zero_or_pos t with h0 | h0
    .rw [hl0 h0]; exact Int.le_refl _
    .have := hl1 (t - 1) (by omega); omega
   refine ⟨fun _ => h2 ?_, fun hgt => absurd hge hgt⟩; rintro ⟨q', hq'⟩; have := hq'.one t htl t htl; rw [hz (q' t) (by have := hq'.lt t htl; omega), if_pos rfl] at this; exact absurd this (by decide)
 .have : t = X.length := by omega
  subst this; exact h1 ⟨q, fun i hi => (hq1 i hi).1, fun i hi t ht => (hq1 i hi).2.1 t ht, fun i hi => (hq1 i hi).2.2, hq2⟩
open Classical in
noncomputable def sck (P M : Int) (mf : List Int) (C : Int) (X : List (List Int)) : Int := if mck P M mf C X ≠ 0 then mck P M mf C X else if Jv6 C X then 0 else 5
theorem Jw8 (h : mck P M mf C X ≠ 0) : sck P M mf C X = mck P M mf C X := if_pos h
theorem Jw9 (h : mck P M mf C X = 0) (h2 : ¬ Jv6 C X) : sck P M mf C X = 5 := by unfold sck; rw [if_neg (fun hh => hh h), if_neg h2]
theorem Jnw (h : mck P M mf C X = 0) (h2 : Jv6 C X) : sck P M mf C X = 0 := by unfold sck; rw [if_neg (fun hh => hh h), if_pos h2]
theorem ZO {Q : Int -> Prop} (h : Q (sck P M mf C X)) : YG P M mf C X Q := by
 refine Jkz ⟨fun hne => by rw [Jw8 hne] at h; exact h, fun he => ?_⟩; have h0 : mck P M mf C X = 0 := Classical.not_not.1 he; obtain ⟨hV, hs, hE⟩ := Ja6 h0; refine Jhy hs (fun hc => ?_) (fun hc => ?_)
 .rw [Jnw h0 hc] at h; exact ⟨fun hb => (by cases hb), fun _ => h⟩
 .rw [Jw9 h0 hc] at h; exact ⟨fun _ => h, fun hb => by cases hb⟩
theorem QQ {a b : List Int} {Q : Bool -> Prop} (ha : a.length <= 1000000) (h1 : a = b -> Q true) (h2 : a ≠ b -> Q false) : QF a b Q := by
 refine ⟨fun hne => h2 fun e => hne (by rw [e]), fun he => ?_⟩; have hl : a.length = b.length := by have := Classical.not_not.1 he; omega
 refine ⟨fun z => ∃ t : Nat, z = t /\ t <= a.length /\ ∀ j, j < t -> vo a j = vo b j, fun z => (a.length - z).toNat, ⟨0, rfl, Nat.zero_le _, fun j hj => absurd hj (Nat.not_lt_zero j)⟩, ?_⟩; rintro _ ⟨t, rfl, ht, hj⟩; dsimp only; refine ⟨fun hlt => ⟨⟨by omega, by omega⟩, ⟨by omega, by omega⟩, fun hne => h2 fun e => hne (by rw [e]), fun heq => ⟨JB (by omega) (by omega), ⟨t + 1, by push_cast; rfl, by omega, fun j hj' => ?_⟩, by omega⟩⟩, fun hge => h1 ?_⟩
 .rcases Nat.lt_or_ge j t with h | h
  .exact hj j h
  .have : j = t := by omega
   subst this; exact Classical.not_not.1 heq
 .refine List.ext_getElem hl fun i i1 i2 => ?_; have := hj i (by omega); unfold vo at this
  rwa [List.getD_eq_getElem?_getD, List.getElem?_eq_getElem i1, List.getD_eq_getElem?_getD, List.getElem?_eq_getElem i2] at this
theorem Yu {X Y : List (List Int)} {Q : Bool -> Prop} (hX : X.length <= 1000000) (hr : ∀ t, t < X.length -> (row X t).length <= 1000000) (h1 : X = Y -> Q true) (h2 : X ≠ Y -> Q false) : QP X Y Q := by
 refine ⟨fun hne => h2 fun e => hne (by rw [e]), fun he => ?_⟩; have hl : X.length = Y.length := by have := Classical.not_not.1 he; omega
 refine ⟨fun z => ∃ t : Nat, z = t /\ t <= X.length /\ ∀ j, j < t -> row X j = row Y j, fun z => (X.length - z).toNat, ⟨0, rfl, Nat.zero_le _, fun j hj => absurd hj (Nat.not_lt_zero j)⟩, ?_⟩; rintro _ ⟨t, rfl, ht, hj⟩; dsimp only; refine ⟨fun hlt => ⟨⟨by omega, by omega⟩, ⟨by omega, by omega⟩, ?_⟩, fun hge => h1 (QD hl fun i hi => hj i (by omega))⟩; have htl : t < X.length := by omega
 by_cases e : row X t = row Y t
 .refine ⟨true, QQ (hr t htl) (fun _ => rfl) (fun hne => absurd e hne), fun hb => (by cases hb), fun _ => ⟨JB (by omega) (by omega), ⟨t + 1, by push_cast; rfl, by omega, fun j hj' => ?_⟩, by omega⟩⟩; rcases Nat.lt_or_ge j t with h | h
  .exact hj j h
  .have : j = t := by omega
   subst this; exact e
 .exact ⟨false, QQ (hr t htl) (fun e' => absurd e' e) (fun _ => rfl), fun _ => h2 fun e' => e (by rw [e']), fun hb => (by cases hb)⟩
theorem Jsi {Q : Int -> Prop} (h : Q (sck P M mf C X)) : Jby P M mf C X Q := by
 refine Jic ⟨fun hne => by rw [Jw8 hne] at h; exact h, fun he => ?_⟩; have h0 : mck P M mf C X = 0 := Classical.not_not.1 he; obtain ⟨hV, hs, hE⟩ := Ja6 h0; obtain ⟨p', m', v', hF, hE'⟩ := hE; refine Jwe hF hs hE' ?_; have hcl := YC (p := p') (m := m') (v := v') hs; refine Yu (by have := Yi hcl; omega) (fun t ht => by have := Qk hcl ht; have := Q4 hs; omega) (fun e => ?_) (fun e => ?_)
 .rw [Jnw h0 ((Jyn hF hs hE').2 e)] at h; exact ⟨fun hb => (by cases hb), fun _ => h⟩
 .rw [Jw9 h0 (fun hc => e ((Jyn hF hs hE').1 hc))] at h; exact ⟨fun _ => h, fun hb => by cases hb⟩
end Go.Proofs.YtngdhnijkgjhcaaGreat
set_option linter.unusedVariables false
set_option linter.unusedSimpArgs false
namespace Go.Proofs.YtngdhnijkgjhcaaGreat
variable {P M : Int} {mf : List Int} {p m v g : Nat} {C : Int} {X Y : List (List Int)} {F : GFv}
def pvl (q : Nat -> Nat) (n : Nat) : List Int := (List.range n).map fun i => ((q i : Nat) : Int)
theorem Yj (q : Nat -> Nat) (n : Nat) : (pvl q n).length = n := by simp [pvl]
theorem Jgd {q : Nat -> Nat} {n i : Nat} (h : i < n) : vo (pvl q n) i = (q i : Int) := Jd3 h
theorem Jky {q : Nat -> Nat} {Q : List Int -> Prop} (hs : shp C X) (hq : Cnl C.toNat X q) (h : Q (pvl q X.length)) : Z3 C X Q := by
 obtain ⟨hX, hC, hCe⟩ := Q4 hs; refine ⟨⟨by omega, by omega, by omega⟩, fun x z => ∃ t : Nat, z = t /\ t <= X.length /\ x.length = X.length /\ ∀ j, j < t -> vo x j = (q j : Int), fun _ z => (X.length - z).toNat, ⟨0, rfl, Nat.zero_le _, by simp, fun j hj => absurd hj (Nat.not_lt_zero j)⟩, ?_⟩; rintro x _ ⟨t, rfl, ht, hx, hj⟩; dsimp only; refine ⟨fun hlt => ?_, fun hge => ?_⟩
 .have htl : t < X.length := by omega
  refine ⟨⟨by omega, by omega⟩, ?_⟩; show Zd (row X t) _ _; refine Jnj (by have := Qk hs htl; omega) (fun k hk hne hz => ?_) (fun hz => ?_)
  .have e := hq.lead htl hne hz; refine ⟨⟨by omega, by omega⟩, JB (by omega) (by omega), ⟨t + 1, by push_cast; rfl, by omega, by rw [Qo, List.length_set]; exact hx, fun j hj' => ?_⟩, by omega⟩; rw [Qo, Qj]; by_cases e2 : t = j
   .subst e2; rw [if_pos ⟨rfl, by omega⟩, e]
   .rw [if_neg (fun hh => e2 hh.1)]; exact hj j (by omega)
  .have h1 := hq.one t htl t htl; rw [hz (q t) (by have := hq.lt t htl; have := Qk hs htl; omega), if_pos rfl] at h1; exact absurd h1 (by decide)
 .have : x = pvl q X.length := QR (by rw [hx, Yj]) fun i hi => by rw [hj i (by omega), Jgd (by omega)]
  rw [this]; exact h
theorem w_Sub {x y : Int} {Q : Int -> Prop} (K : GFk F p m v g) (h : Q (Sb p m x y)) : Jsf F x y Q := by
 refine Jqz K (v_Add K ?_); rw [Qv (Ya (by have := K.fv.p2; omega) _)]; exact h
theorem Jwk {a o : List Int} {x : Int} {k : Nat} (h0 : x ≠ 0) (hk : k < a.length) : vo (sbx p m v a x o) k = if k < o.length then Sb p m (vo a k) (Ml p m v x (vo o k)) else vo a k := by
 unfold sbx; rw [if_neg h0, Jd3 hk]
theorem Qaf (a o : List Int) (x : Int) : (sbx p m v a x o).length = a.length := by
 unfold sbx; split
 .rfl
 .simp
theorem Jnf {a o : List Int} {x : Int} {Q : List Int -> Prop} (K : GFk F p m v g) (hl : o.length <= a.length) (ha : a.length <= 1000000) (h : Q (sbx p m v a x o)) : Jat F a x o Q := by
 refine ⟨fun h0 => by unfold sbx at h; rwa [if_pos h0] at h, fun h0 => ?_⟩; refine ⟨fun y z => ∃ t : Nat, z = t /\ t <= o.length /\ y.length = a.length /\ ∀ k, k < a.length -> vo y k = if k < t then vo (sbx p m v a x o) k else vo a k, fun y z => (o.length - z).toNat, ⟨0, rfl, Nat.zero_le _, rfl, fun k hk => by simp⟩, ?_⟩; rintro y _ ⟨t, rfl, ht, hy, hk⟩; dsimp only; rw [JT, JT]; refine ⟨fun hlt => ⟨⟨by omega, by omega⟩, ⟨by omega, by omega⟩, _, Jk6 K rfl, _, w_Sub K rfl, ⟨by omega, by omega⟩, JB (by omega) (by omega), ⟨t + 1, by push_cast; rfl, by omega, by rw [Qo, List.length_set]; exact hy, fun k hk' => ?_⟩, by omega⟩, fun hge => ?_⟩
 .rw [Qo, Qj]; by_cases e : t = k
  .subst e; rw [if_pos ⟨rfl, by omega⟩, if_pos (by omega), Jwk h0 hk', if_pos (by omega), hk t hk', if_neg (by omega)]; rfl
  .rw [if_neg (fun h => e h.1), hk k hk']; by_cases hkt : k < t
   .rw [if_pos hkt, if_pos (by omega)]
   .rw [if_neg hkt, if_neg (by omega)]
 .have : y = sbx p m v a x o := QR (by rw [hy, Qaf]) fun k hk' => by
   rw [hk k (by omega)]; split
   .rfl
   .rw [Jwk h0 (by omega), if_neg (by omega)]
  rw [this]; exact h
theorem Jc3 {l : List (List Int)} {q : Nat -> Nat} {Q : List (List Int) -> Prop} (hF : FV P M mf p m v) (hs : shp C X) (hq : Cnl C.toNat X q) (hl : l.length <= 1000) (hw : ∀ t, t < l.length -> (row l t).length = C.toNat) (hE : Els p m l)
  (h : Q (l.map fun u => rsd p m v q X u X.length)) : YH P M mf C X l Q := by
 obtain ⟨hX, hC, hCe⟩ := Q4 hs; refine v_New (fun hV => absurd ⟨p, m, v, hF⟩ hV) fun F p' m' v' g' K e1 e2 e3 => ?_; have hF' : FV P M mf p' m' v' := by rw [<- e1, <- e2, <- e3]; exact K.fv
 obtain ⟨rfl, rfl, rfl⟩ := hF.uniq3 hF'; have hp : 0 < p := by have := hF.p2; omega
 refine Jky hs hq ?_; refine ⟨⟨by omega, by omega, by omega⟩, fun x z => ∃ t : Nat, z = t /\ t <= l.length /\ x.length = l.length /\ ∀ j, j < t -> row x j = rsd p m v q X (row l j) X.length, fun _ z => (l.length - z).toNat, ⟨0, rfl, Nat.zero_le _, by simp, fun j hj => absurd hj (Nat.not_lt_zero j)⟩, ?_⟩; rintro x _ ⟨t, rfl, ht, hx, hj⟩; dsimp only; refine ⟨fun hlt => ?_, fun hge => ?_⟩
 .have htl : t < l.length := by omega
  have hwt := hw t htl; have hgl : gl l (t : Int) = row l t := rfl; rw [hgl]; refine ⟨⟨by omega, by omega⟩, Jc7 (by omega) ⟨⟨by omega, by omega⟩, ?_⟩⟩; refine ⟨fun y z => ∃ s : Nat, z = s /\ s <= X.length /\ y.length = l.length /\ row y t = rsd p m v q X (row l t) s /\ ∀ j, j < t -> row y j = row x j, fun _ z => (X.length - z).toNat, ⟨0, rfl, Nat.zero_le _, by rw [Zv]; exact hx, ?_, fun j hj' => ?_⟩, ?_⟩
  .show row (x.set t (row l t)) t = _; rw [Qi, if_pos ⟨rfl, by omega⟩]; rfl
  .show row (x.set t (row l t)) j = _; rw [Qi, if_neg (fun hh => by omega)]
  rintro y _ ⟨s, rfl, hsx, hy, hyt, hyj⟩; dsimp only; refine ⟨fun hlt2 => ?_, fun hge2 => ?_⟩
  .have hsl : s < X.length := by rw [Yj] at hlt2; omega
   have e : gi (pvl q X.length) (s : Int) = (q s : Int) := Jgd hsl; have hqs := hq.lt s hsl; rw [e]; refine ⟨⟨by omega, by rw [Yj]; omega⟩, ⟨by omega, by omega⟩, ⟨by omega, by omega⟩, ⟨by omega, by omega⟩, ?_⟩; have e4 : gi (row l t) (q s : Int) = vo (row l t) (q s) := rfl; have e5 : gl X (s : Int) = row X s := rfl; have e6 : gl y (t : Int) = row y t := rfl; rw [e4, e5, e6]; have hrow : (row X s).length = C.toNat := Qk hs hsl; have hyl : (row y t).length = C.toNat := by rw [hyt, Q0]; exact hwt
   have hyE : Elr p m (row y t) := by rw [hyt]; exact Y7 hp q (Ql hE t) s
   refine Jnf K (by omega) (by omega) ?_; have hx1 : El p m (vo (row l t) (q s)) := ZL (Ql hE t) (by omega); rw [Qag hF hyE hx1, hyt]; refine ⟨JB (by omega) (by omega), ⟨s + 1, by push_cast; rfl, by omega, by rw [Zv]; exact hy, ?_, fun j hj' => ?_⟩, by rw [Yj] at hlt2; omega⟩
   .show row (y.set t _) t = _; rw [Qi, if_pos ⟨rfl, by omega⟩]; rfl
   .show row (y.set t _) j = _; rw [Qi, if_neg (fun hh => by omega)]; exact hyj j hj'
  .rw [Yj] at hge2; have hsx' : s = X.length := by omega
   subst hsx'; refine ⟨JB (by omega) (by omega), ⟨t + 1, by push_cast; rfl, by omega, hy, fun j hj' => ?_⟩, by omega⟩; by_cases e : j = t
   .subst e; exact hyt
   .rw [hyj j (by omega)]; exact hj j (by omega)
 .have : x = l.map fun u => rsd p m v q X u X.length := QD (by simp [hx]) fun i hi => by
   rw [hj i (by omega)]; unfold row; rw [List.getD_eq_getElem?_getD, List.getD_eq_getElem?_getD, List.getElem?_map, List.getElem?_eq_getElem (by omega : i < l.length)]; rfl
  rw [this]; exact h
theorem w_rNeg {x : Int} {Q : Int -> Prop} (hF : FV P M mf p m v) (h : Q (Ng p m x)) : Jew P M mf x Q := Jwt hF h
def zr (u : List Int) : Prop := ∀ c, c < u.length -> vo u c = 0
theorem Jie {l : List (List Int)} {Q : Bool -> Prop} (hl : l.length <= 1000000) (hw : ∀ t, t < l.length -> (row l t).length <= 1000000) (h1 : (∀ t, t < l.length -> zr (row l t)) -> Q true) (h2 : (¬ ∀ t, t < l.length -> zr (row l t)) -> Q false) : Z8 l Q := by
 refine ⟨fun z => ∃ t : Nat, z = t /\ t <= l.length /\ ∀ j, j < t -> zr (row l j), fun z => (l.length - z).toNat, ⟨0, rfl, Nat.zero_le _, fun j hj => absurd hj (Nat.not_lt_zero j)⟩, ?_⟩; rintro _ ⟨t, rfl, ht, hj⟩; dsimp only; refine ⟨fun hlt => ⟨⟨by omega, by omega⟩, ?_⟩, fun hge => h1 fun j hj' => hj j (by omega)⟩; have htl : t < l.length := by omega
 show Q7 (row l t) _ _; refine Jnj (hw t htl) (fun k hk hne _ => ⟨fun _ => h2 fun hz => hne (hz t htl k hk), fun hb => ?_⟩) (fun hz => ⟨fun hb => absurd (of_decide_eq_true hb) (by decide), fun _ => ⟨JB (by omega) (by omega), ⟨t + 1, by push_cast; rfl, by omega, fun j hj' => ?_⟩, by omega⟩⟩)
 .have := of_decide_eq_false hb; omega
 .rcases Nat.lt_or_ge j t with h | h
  .exact hj j h
  .rw [show j = t by omega]; exact hz
end Go.Proofs.YtngdhnijkgjhcaaGreat
set_option linter.unusedVariables false
set_option linter.unusedSimpArgs false
namespace Go.Proofs.YtngdhnijkgjhcaaGreat
variable {P M : Int} {mf : List Int} {p m v g : Nat} {C Ca Cb : Int} {X Y a b : List (List Int)} {F : GFv}
noncomputable def prk (P M : Int) (mf : List Int) (Ca : Int) (a : List (List Int)) (Cb : Int) (b : List (List Int)) : Int := if sck P M mf Ca a ≠ 0 then sck P M mf Ca a else if sck P M mf Cb b ≠ 0 then sck P M mf Cb b else if Ca ≠ Cb then 10 else 0
theorem Jaz {Q : Int -> Prop} (h : Q (prk P M mf Ca a Cb b)) : Yr P M mf Ca a Cb b Q := by
 unfold prk at h; refine ZO ⟨fun h1 => by rwa [if_pos h1] at h, fun h1 => ZO ⟨fun h2 => by rwa [if_neg h1, if_pos h2] at h, fun h2 => ⟨fun h3 => by rwa [if_neg h1, if_neg h2, if_pos h3] at h, fun h3 => by rwa [if_neg h1, if_neg h2, if_neg h3] at h⟩⟩⟩
structure Sg (P M : Int) (mf : List Int) (p m v : Nat) (C : Int) (X : List (List Int)) (q : Nat -> Nat) : Prop where
  f : FV P M mf p m v
  s : shp C X
  e : Els p m X
  q : Cnl C.toNat X q
theorem Sg.mk0 {q : Nat -> Nat} (G : Sg P M mf p m v C X q) : mck P M mf C X = 0 := Jcs ⟨p, m, v, G.f⟩ G.s ((QM G.f).2 G.e)
theorem Sg.sck {q : Nat -> Nat} (G : Sg P M mf p m v C X q) : sck P M mf C X = 0 := Jnw G.mk0 ⟨q, G.q⟩
def rdl (p m v : Nat) (q : Nat -> Nat) (X l : List (List Int)) : List (List Int) := l.map fun u => rsd p m v q X u X.length
theorem Jdb (q : Nat -> Nat) (X l : List (List Int)) : (rdl p m v q X l).length = l.length := by simp [rdl]
theorem Jbj {q : Nat -> Nat} {X l : List (List Int)} {t : Nat} (h : t < l.length) : row (rdl p m v q X l) t = rsd p m v q X (row l t) X.length := by
 unfold rdl row; rw [List.getD_eq_getElem?_getD, List.getD_eq_getElem?_getD, List.getElem?_map, List.getElem?_eq_getElem h]; rfl
theorem Jjb {l : List (List Int)} (hC : 0 <= C /\ C <= 256) (hl : l.length <= 256) (hw : ∀ t, t < l.length -> (row l t).length = C.toNat) : shp C l := by
 unfold shp; refine ⟨hC.1, hC.2, by omega, fun r hr => ?_⟩; obtain ⟨t, ht, rfl⟩ := Jak hr; have := hw t ht; omega
theorem Je4 (hs : shp C X) : 0 <= C /\ C <= 256 := by have := Q4 hs; omega
theorem Jfs {q : Nat -> Nat} {l : List (List Int)} (hs : shp C l) : shp C (rdl p m v q X l) :=
 Jjb (Je4 hs) (by rw [Jdb]; exact Yi hs) fun t ht => by rw [Jdb] at ht; rw [Jbj ht, Q0]; exact Qk hs ht
theorem Jjg (hF : FV P M mf p m v) {q : Nat -> Nat} {l : List (List Int)} (he : Els p m l) : Els p m (rdl p m v q X l) := Jap fun t ht => by
 rw [Jdb] at ht; rw [Jbj ht]; exact Y7 (by have := hF.p2; omega) q (Ql he t) _
def ain (p m v : Nat) (q : Nat -> Nat) (X l : List (List Int)) : Prop := ∀ t, t < l.length -> zr (rsd p m v q X (row l t) X.length)
theorem Jru {q : Nat -> Nat} {X l : List (List Int)} : (∀ t, t < (rdl p m v q X l).length -> zr (row (rdl p m v q X l) t)) ↔ ain p m v q X l := by
 unfold ain; rw [Jdb]; exact ⟨fun h t ht => by have := h t ht; rwa [Jbj ht] at this, fun h t ht => by rw [Jbj ht]; exact h t ht⟩
theorem Jn0 {q r : Nat -> Nat} (G : Sg P M mf p m v Ca a q) (H : Sg P M mf p m v Cb b r) (e : Ca = Cb) : prk P M mf Ca a Cb b = 0 := by
 unfold prk; rw [if_neg (fun hh => hh G.sck), if_neg (fun hh => hh H.sck), if_neg (fun hh => hh e)]
theorem Jk3 {q r : Nat -> Nat} {Q : Bool × Int -> Prop} (G : Sg P M mf p m v C a q) (H : Sg P M mf p m v C b r) (h1 : ain p m v r b a -> Q (true, 0)) (h2 : ¬ ain p m v r b a -> Q (false, 0)) : Jbg P M mf C a C b Q := by
 refine Jaz ?_; rw [Jn0 G H rfl]; refine ⟨fun hh => absurd rfl hh, fun _ => Jc3 H.f H.s H.q (by have := Yi G.s; omega) (fun t ht => Qk G.s ht) G.e ?_⟩; have hsh := Jfs (p := p) (m := m) (v := v) (q := r) (X := b) G.s; exact Jie (l := rdl p m v r b a) (by have := Yi hsh; omega) (fun t ht => by have := Qk hsh ht; have := Q4 hsh; omega) (fun hz => h1 (Jru.1 hz)) (fun hz => h2 fun hh => hz (Jru.2 hh))
theorem Jng {l : List (List Int)} {Q : Int × List (List Int) × Int -> Prop} (hF : FV P M mf p m v) (hs : shp C l) (he : Els p m l) (h : Q (C, Qb p m v C l, 0)) : Jev P M mf C l Q := by
 have h0 : mck P M mf C l = 0 := Jcs ⟨p, m, v, hF⟩ hs ((QM hF).2 he); refine Je1 (fun hh => absurd h0 hh) fun p' m' v' hF' _ _ _ => ?_; obtain ⟨rfl, rfl, rfl⟩ := hF.uniq3 hF'; exact h
theorem Jnl {q r : Nat -> Nat} {Q : Int × List (List Int) × Int -> Prop} (G : Sg P M mf p m v C a q) (H : Sg P M mf p m v C b r) (h1 : ain p m v r b a -> Q (C, Qb p m v C (rdl p m v q a b), 0)) (h2 : ¬ ain p m v r b a -> Q (0, [], 11)) : Jax P M mf C a C b Q := by
 refine Jk3 G H (fun hin => ⟨fun hh => absurd rfl hh, fun _ => ⟨fun hb => (by cases hb), fun _ => ?_⟩⟩) (fun hin => ⟨fun hh => absurd rfl hh, fun _ => ⟨fun _ => h2 hin, fun hb => by cases hb⟩⟩); exact ⟨rdl p m v q a b, Jc3 G.f G.s G.q (by have := Yi H.s; omega) (fun t ht => Qk H.s ht) H.e rfl, _, _, _, Jng G.f (Jfs H.s) (Jjg G.f H.e) rfl, h1 hin⟩
theorem w_few {Q : Bool -> Prop} (h1 : Ca <= 20 -> Cb <= 20 -> a.length <= 150 -> b.length <= 150 -> Q true) (h2 : Q false) : Jsd Ca a Cb b Q := by
 refine ⟨fun hA => ⟨fun hB => Jwd (by omega) (fun _ ha _ => ⟨fun _ => Jwd (by omega) (fun _ hb _ => h1 hA hB (by omega) (by omega)) h2, fun hb => (by cases hb)⟩) ⟨fun hb => (by cases hb), fun _ => h2⟩, fun _ => h2⟩, fun _ => h2⟩
end Go.Proofs.YtngdhnijkgjhcaaGreat
set_option linter.unusedVariables false
set_option linter.unusedSimpArgs false
namespace Go.Proofs.YtngdhnijkgjhcaaGreat
variable {P M : Int} {mf : List Int} {p m v g w : Nat} {C Ca Cb : Int} {X Y a b : List (List Int)}
theorem Jfr (A B : List (List Int)) (t : Nat) : row (A ++ B) t = if t < A.length then row A t else row B (t - A.length) := by
 unfold row; rw [List.getD_eq_getElem?_getD, List.getElem?_append]; split <;> rw [List.getD_eq_getElem?_getD]
theorem Jrt {f : (Nat -> Nat) -> Nat} {A B : List (List Int)} : Ann p m f (A ++ B) ↔ Ann p m f A /\ Ann p m f B := by
 unfold Ann; rw [List.length_append]; refine ⟨fun h => ⟨fun t ht => ?_, fun t ht => ?_⟩, fun h t ht => ?_⟩
 .have := h t (by omega); rwa [Jfr, if_pos ht] at this
 .have := h (A.length + t) (by omega); rwa [Jfr, if_neg (by omega), Nat.add_sub_cancel_left] at this
 .rw [Jfr]; split
  .rename_i hh; exact h.1 t hh
  .exact h.2 _ (by omega)
theorem Jfy {A B : List (List Int)} (hA : shp C A) (hB : shp C B) (h : A.length + B.length <= 256) : shp C (A ++ B) :=
 Jjb (Je4 hA) (by rw [List.length_append]; exact h) fun t ht => by
  rw [List.length_append] at ht; rw [Jfr]; split
  .exact Qk hA (by assumption)
  .exact Qk hB (by omega)
theorem Jfz {A B : List (List Int)} (hA : Els p m A) (hB : Els p m B) : Els p m (A ++ B) := fun r hr => by
 rcases List.mem_append.1 hr with h | h
 .exact hA r h
 .exact hB r h
theorem Jrs (hF : FV P M mf p m v) {f : (Nat -> Nat) -> Nat} (L : Lin p m v w f) {q : Nat -> Nat} {l : List (List Int)} (hw : ∀ t, t < l.length -> (row l t).length = w) (hX : Ann p m f X) : Ann p m f (rdl p m v q X l) ↔ Ann p m f l := by
 unfold Ann; rw [Jdb]; refine ⟨fun h t ht => ?_, fun h t ht => ?_⟩
 .have := h t ht; rwa [Jbj ht, Y6 hF L (hw t ht) hX X.length (Nat.le_refl _)] at this
 .rw [Jbj ht, Y6 hF L (hw t ht) hX X.length (Nat.le_refl _)]; exact h t ht
theorem Jys (hF : FV P M mf p m v) (hs : shp C X) (he : Els p m X) : (Qb p m v C X).length <= C.toNat := (Jhk hF hs he).len
theorem sum_eq (hF : FV P M mf p m v) {q : Nat -> Nat} (ha : shp C a) (ea : Els p m a) (hb : shp C b) (eb : Els p m b) (hl : a.length + C.toNat <= 256) (hl2 : a.length + b.length <= 256) :
  Qb p m v C (a ++ Qb p m v C (rdl p m v q a b)) = Qb p m v C (a ++ b) := by
 have h1 := Jfs (p := p) (m := m) (v := v) (q := q) (X := a) hb; have h2 := Jjg (X := a) (q := q) hF eb; have h3 := Jys hF h1 h2; refine (Jyr hF (Jfy ha (YC h1) (by omega)) (Jfz ea (YY hF h2)) (Jfy ha hb hl2) (Jfz ea eb) fun f L => ?_).2; rw [Jrt, Jrt, Jdp hF h1 h2 L]; exact ⟨fun ⟨u1, u2⟩ => ⟨u1, (Jrs hF L (fun t ht => Qk hb ht) u1).1 u2⟩, fun ⟨u1, u2⟩ => ⟨u1, (Jrs hF L (fun t ht => Qk hb ht) u1).2 u2⟩⟩
theorem w_sum {q : Nat -> Nat} {Q : Int × List (List Int) × Int -> Prop} (G : Sg P M mf p m v C a q) (hb : shp C b) (eb : Els p m b) (hl : a.length + C.toNat <= 256) (hl2 : a.length + b.length <= 256) (h : Q (C, Qb p m v C (a ++ b), 0)) : Jm3 P M mf C a C b Q := by
 have h1 := Jfs (p := p) (m := m) (v := v) (q := q) (X := a) hb; have h2 := Jjg (X := a) (q := q) G.f eb; have h3 := Jys G.f h1 h2; refine ⟨fun c x e => c = C /\ x = Qb p m v C (rdl p m v q a b) /\ e = 0, ⟨rdl p m v q a b, Jc3 G.f G.s G.q (by have := Yi hb; omega) (fun t ht => Qk hb ht) eb rfl, _, _, _, Jng G.f h1 h2 rfl, rfl, rfl, rfl⟩, ?_⟩; rintro c x e ⟨rfl, rfl, rfl⟩; refine ⟨fun hh => absurd rfl hh, fun _ => ⟨a ++ Qb p m v c (rdl p m v q a b), ⟨?_, ?_, ?_⟩, _, _, _, Jng G.f (Jfy G.s (YC h1) (by omega)) (Jfz G.e (YY G.f h2)) rfl, ?_⟩⟩
 .simp; omega
 .simp
 .simp
 .rw [sum_eq G.f G.s G.e hb eb hl hl2]; exact h
theorem w_Sum {q r : Nat -> Nat} {Q : Int × List (List Int) × Int -> Prop} (G : Sg P M mf p m v C a q) (H : Sg P M mf p m v C b r) (hC : C <= 100) (h : Q (C, Qb p m v C (a ++ b), 0)) : Jse P M mf C a C b Q := by
 have h1 := G.q.len; have h2 := H.q.len; have h3 := Je4 G.s; refine Jaz ?_; rw [Jn0 G H rfl]; exact ⟨fun hh => absurd rfl hh, fun _ => w_sum G H.s H.e (by omega) (by omega) h⟩
def nul (p m v : Nat) (C : Int) (X : List (List Int)) : List (List Int) := Qb p m v C (Jms p m v C X)
theorem Qa1 (hF : FV P M mf p m v) (hs : shp C X) (he : Els p m X) : nul p m v C (Qb p m v C X) = nul p m v C X := by
 obtain ⟨h1, h2⟩ := Qbl hF hs he; unfold nul Jms; rw [h1, h2]
theorem Job (hF : FV P M mf p m v) (hs : shp C X) : Sg P M mf p m v C (nul p m v C X) fun i => (vo (J8 p m v C (Jms p m v C X)) i).toNat :=
 ⟨hF, YC (Jhn hs), YY hF (Jmr hF), Jhk hF (Jhn hs) (Jmr hF)⟩
theorem Jgb {Q : Int × List (List Int) × Int -> Prop} (hF : FV P M mf p m v) (hs : shp C X) (he : Els p m X) (h : Q (C, nul p m v C X, 0)) : YK P M mf C X Q := by
 have h0 : mck P M mf C X = 0 := Jcs ⟨p, m, v, hF⟩ hs ((QM hF).2 he); refine Jwh (fun hh => absurd h0 hh) fun p' m' v' hF' _ _ _ => ?_; obtain ⟨rfl, rfl, rfl⟩ := hF.uniq3 hF'; exact h
theorem w_Dual {q : Nat -> Nat} {Q : Int × List (List Int) × Int -> Prop} (G : Sg P M mf p m v C a q) (h : Q (C, nul p m v C a, 0)) : Jkq P M mf C a Q := by
 refine ZO ?_; rw [G.sck]; exact ⟨fun hh => absurd rfl hh, fun _ => Jgb G.f G.s G.e h⟩
theorem w_Meet {q r : Nat -> Nat} {Q : Int × List (List Int) × Int -> Prop} (G : Sg P M mf p m v C a q) (H : Sg P M mf p m v C b r) (hC : C <= 100) (h : Q (C, nul p m v C (nul p m v C a ++ nul p m v C b), 0)) : Jkp P M mf C a C b Q := by
 have G' := Job (v := v) G.f G.s; have H' := Job (v := v) H.f H.s; have h1 := G'.q.len; have h2 := H'.q.len; have h3 := Je4 G.s; have hs := Jfy G'.s H'.s (by omega); have he := Jfz G'.e H'.e; refine Jaz ?_; rw [Jn0 G H rfl]; refine ⟨fun hh => absurd rfl hh, fun _ => Jgb G.f G.s G.e ⟨fun hh => absurd rfl hh, fun _ => Jgb H.f H.s H.e ⟨fun hh => absurd rfl hh, fun _ => w_sum G' H'.s H'.e (by omega) (by omega) ⟨fun hh => absurd rfl hh, fun _ => Jgb G.f (YC hs) (YY G.f he) ?_⟩⟩⟩⟩; rw [Qa1 G.f hs he]; exact h
noncomputable def wdk (P M : Int) (mf : List Int) (C : Int) (a : List (List Int)) (y : List Int) : Int := if sck P M mf C a ≠ 0 then sck P M mf C a else if (y.length : Int) ≠ C then 3 else mck P M mf C [y]
theorem Je0 {y : List Int} {Q : Int -> Prop} (h : Q (wdk P M mf C a y)) : Y4 P M mf C a y Q := by
 unfold wdk at h; refine ZO ⟨fun h1 => by rwa [if_pos h1] at h, fun h1 => ⟨fun h2 => by rwa [if_neg h1, if_pos h2] at h, fun h2 => Jkz (by rwa [if_neg h1, if_neg h2] at h)⟩⟩
theorem Qar {y : List Int} (hC : 0 <= C /\ C <= 256) (hy : (y.length : Int) = C) : shp C [y] := Jjb hC (by simp) fun t ht => by
 have : t = 0 := by simpa using ht
 subst this; show y.length = _; omega
theorem Jjn {y : List Int} : Els p m [y] ↔ Elr p m y := by unfold Els; simp
theorem Jz4 {q : Nat -> Nat} {y : List Int} (G : Sg P M mf p m v C a q) : wdk P M mf C a y = vce p m y C.toNat := by
 have hC := Je4 G.s; unfold wdk vce; rw [if_neg (fun hh => hh G.sck)]; by_cases h : (y.length : Int) = C
 .have hs := Qar (y := y) hC h; rw [if_neg (fun hh => hh h), if_neg (fun hh => hh (by omega))]; by_cases he : Elr p m y
  .rw [if_neg (fun hh => hh he)]; exact Jcs ⟨p, m, v, G.f⟩ hs ((QM G.f).2 (Jjn.2 he))
  .rw [if_pos he]; exact Jfu ⟨p, m, v, G.f⟩ hs fun hh => he (Jjn.1 ((QM G.f).1 hh))
 .rw [if_pos h, if_pos (by omega)]
theorem Jwa {q : Nat -> Nat} {y : List Int} (G : Sg P M mf p m v C a q) (hy : y.length = C.toNat) (he : Elr p m y) : wdk P M mf C a y = 0 := by
 rw [Jz4 G]; exact vce_ok hy he
theorem Jwc {q : Nat -> Nat} {y : List Int} {Q : List (List Int) -> Prop} (G : Sg P M mf p m v C a q) (hy : y.length = C.toNat) (he : Elr p m y) (h : Q [rsd p m v q a y a.length]) : YH P M mf C a [y] Q :=
 Jc3 G.f G.s G.q (by simp) (fun t ht => by
  have : t = 0 := by simpa using ht
  subst this; exact hy) (Jjn.2 he) h
theorem Jk4 {q : Nat -> Nat} {y : List Int} {Q : Bool × Int -> Prop} (G : Sg P M mf p m v C a q) (hy : y.length = C.toNat) (he : Elr p m y) (h1 : zr (rsd p m v q a y a.length) -> Q (true, 0)) (h2 : ¬ zr (rsd p m v q a y a.length) -> Q (false, 0)) : Jfc P M mf C a y Q := by
 refine Je0 ?_; rw [Jwa G hy he]; have hC := Je4 G.s; refine ⟨fun hh => absurd rfl hh, fun _ => Jwc G hy he (Jie (by simp) (fun t ht => ?_) (fun hz => h1 (hz 0 (by simp))) (fun hz => h2 fun hh => hz fun t ht => ?_))⟩
 .have : t = 0 := by simpa using ht
  subst this; show (rsd p m v q a y a.length).length <= _; rw [Q0]; omega
 .have : t = 0 := by simpa using ht
  subst this; exact hh
theorem Jga {q : Nat -> Nat} {y : List Int} {Q : List Int × Int -> Prop} (G : Sg P M mf p m v C a q) (hy : y.length = C.toNat) (he : Elr p m y) (h : Q (rsd p m v q a y a.length, 0)) : Z9 P M mf C a y Q := by
 refine Je0 ?_; rw [Jwa G hy he]; exact ⟨fun hh => absurd rfl hh, fun _ => Jwc G hy he ⟨⟨by omega, by simp⟩, h⟩⟩
theorem Jb9 {q : Nat -> Nat} {y : List Int} {Q : List Int × Int -> Prop} (G : Sg P M mf p m v C a q) (hy : y.length = C.toNat) (he : Elr p m y) (h1 : zr (rsd p m v q a y a.length) -> Q (pkr y (pvl q a.length), 0)) (h2 : ¬ zr (rsd p m v q a y a.length) -> Q ([], 11)) : QY P M mf C a y Q := by
 have hl := Yi G.s; refine Jk4 G hy he (fun hz => ⟨fun hh => absurd rfl hh, fun _ => ⟨fun hb => (by cases hb), fun _ => Jky G.s G.q ?_⟩⟩) (fun hz => ⟨fun hh => absurd rfl hh, fun _ => ⟨fun _ => h2 hz, fun hb => by cases hb⟩⟩); refine ⟨fun x z => ∃ t : Nat, z = t /\ t <= a.length /\ x.length = a.length /\ ∀ j, j < a.length -> vo x j = if j < t then vo y (q j) else (q j : Int), fun _ z => (a.length - z).toNat, ⟨0, rfl, Nat.zero_le _, Yj _ _, fun j hj => by rw [if_neg (by omega), Jgd hj]⟩, ?_⟩; rintro x _ ⟨t, rfl, ht, hx, hj⟩; dsimp only; rw [Yj, JT]; refine ⟨fun hlt => ?_, fun hge => ?_⟩
 .have htl : t < a.length := by omega
  have hq := G.q.lt t htl; rw [hj t htl, if_neg (by omega), JT]; refine ⟨⟨by omega, by omega⟩, ⟨by omega, by omega⟩, ⟨by omega, by omega⟩, JB (by omega) (by omega), ⟨t + 1, by push_cast; rfl, by omega, by rw [Qo, List.length_set]; exact hx, fun j hj' => ?_⟩, by omega⟩; rw [Qo, Qj]; by_cases e : t = j
  .subst e; rw [if_pos ⟨rfl, by omega⟩, if_pos (by omega)]
  .rw [if_neg (fun hh => e hh.1), hj j hj']; by_cases e2 : j < t
   .rw [if_pos e2, if_pos (by omega)]
   .rw [if_neg e2, if_neg (by omega)]
 .have : x = pkr y (pvl q a.length) := QR (by rw [hx, Jbm, Yj]) fun i hi => by
   rw [hj i (by omega), if_pos (by omega), Ji5 (by rw [Yj]; omega), Jgd (by omega)]; rfl
  rw [this]; exact h1 hz
end Go.Proofs.YtngdhnijkgjhcaaGreat
set_option linter.unusedVariables false
set_option linter.unusedSimpArgs false
namespace Go.Proofs.YtngdhnijkgjhcaaGreat
variable {P M : Int} {mf : List Int} {p m v g w : Nat} {C Ca Cb : Int} {X Y a b : List (List Int)}
def rsg (s : List Int) (n : Int) : Prop := (∀ i, i < s.length -> 0 <= vo s i /\ vo s i < n) /\ ∀ i, i + 1 < s.length -> vo s i < vo s (i + 1)
theorem Jq6 {s : List Int} {n : Int} (h : rsg s n) : ∀ d i, i + d + 1 < s.length -> vo s i < vo s (i + d + 1)
 | 0, i, hi => h.2 i hi
 | d + 1, i, hi => by
  have h1 := Jq6 h d i (by omega); have h2 := h.2 (i + d + 1) (by omega); rw [show i + (d + 1) + 1 = i + d + 1 + 1 by omega]; omega
theorem Qah {s : List Int} {n : Int} (h : rsg s n) : Asc n.toNat s := ⟨fun i hi => by have := h.1 i hi; omega, fun i j hij hj => by
 have := Jq6 h (j - i - 1) i (by omega)
 rwa [show i + (j - i - 1) + 1 = j by omega] at this⟩
theorem Jz7 {s : List Int} {n : Int} {Q : Bool -> Prop} (hl : s.length <= 1000000) (h1 : rsg s n -> Q true) (h2 : ¬ rsg s n -> Q false) : Jf5 s n Q := by
 refine ⟨fun last z => ∃ t : Nat, z = t /\ t <= s.length /\ (∀ i, i < t -> 0 <= vo s i /\ vo s i < n) /\ (∀ i, i + 1 < t -> vo s i < vo s (i + 1)) /\ (t = 0 -> last = -1) /\ ∀ u, t = u + 1 -> last = vo s u, fun _ z => (s.length - z).toNat, ⟨0, rfl, Nat.zero_le _, fun i hi => absurd hi (Nat.not_lt_zero i), fun i hi => absurd hi (Nat.not_lt_zero _), fun _ => rfl, fun u hu => by omega⟩, ?_⟩; rintro last _ ⟨t, rfl, ht, hr, ha, hl0, hl1⟩; dsimp only; rw [JT]; refine ⟨fun hlt => ⟨⟨by omega, by omega⟩, fun hle => h2 ?_, fun hgt => ⟨fun hn => h2 fun hh => ?_, fun hn => ⟨JB (by omega) (by omega), ⟨t + 1, by push_cast; rfl, by omega, fun i hi => ?_, fun i hi => ?_, fun h0 => by omega, fun u hu => ?_⟩, by omega⟩⟩⟩, fun hge => h1 ?_⟩
 .intro hh; rcases Nat.eq_zero_or_pos t with h0 | h0
  .have := hl0 h0; have := hh.1 t (by omega); omega
  .have e := hl1 (t - 1) (by omega); have := hh.2 (t - 1) (by omega); rw [show t - 1 + 1 = t by omega] at this; omega
 .have := hh.1 t (by omega); omega
 .by_cases e : i = t
  .subst e; refine ⟨?_, by omega⟩; rcases Nat.eq_zero_or_pos i with h0 | h0
   .have := hl0 h0; omega
   .have e := hl1 (i - 1) (by omega); have := hr (i - 1) (by omega); omega
  .exact hr i (by omega)
 .by_cases e : i + 1 = t
  .have e2 := hl1 i (by omega); rw [e]; omega
  .exact ha i (by omega)
 .rw [show u = t by omega]
 .have e : t = s.length := by omega
  subst e; exact ⟨hr, ha⟩
def Y8 (s : List Int) (n : Nat) : List Int := ((List.range n).filter fun i => !(inP s i)).map fun i => ((i : Nat) : Int)
theorem Jeb (s : List Int) (k : Nat) : Y8 s (k + 1) = if inP s k then Y8 s k else Y8 s k ++ [(k : Int)] := by
 unfold Y8; rw [List.range_succ, List.filter_append, List.map_append]; cases h : inP s k <;> simp [h]
theorem Jgu (s : List Int) : ∀ n, (Y8 s n).length <= n
 | 0 => Nat.le_refl _
 | n + 1 => by
  rw [Jeb]; have := Jgu s n; split
  .omega
  .rw [List.length_append]; simp; omega
theorem Jxq (s : List Int) : ∀ n, ∀ x ∈ Y8 s n, 0 <= x /\ x < (n : Int) := fun n x hx => by
 obtain ⟨i, hi, rfl⟩ := List.mem_map.1 hx; have := List.mem_range.1 (List.mem_filter.1 hi).1; omega
theorem Jsj {s : List Int} {n : Int} {Q : List Int -> Prop} (hl : s.length <= 1000000) (hs : rsg s n) (hn : n <= 1000) (h : Q (Y8 s n.toNat)) : Jb0 s n Q := by
 refine ⟨fun x z => ∃ t : Nat, z = t /\ t <= n.toNat /\ x = Y8 s t, fun _ z => (n - z).toNat, ⟨0, rfl, Nat.zero_le _, rfl⟩, ?_⟩; rintro _ _ ⟨t, rfl, ht, rfl⟩; dsimp only; refine ⟨fun hlt => ?_, fun hge => ?_⟩
 case refine_2 =>
  have e : t = n.toNat := by omega
  subst e; exact h
 have hol := Jgu s t; refine ⟨fun y _ _ => y = Y8 s (t + 1), Jkx hl (Qah hs) (fun i hex => ⟨fun hb => (by cases hb), fun _ => ?_⟩) (fun i hex => ⟨fun _ => ⟨by omega, ?_⟩, fun hb => by cases hb⟩), ?_⟩
 .rw [Jeb, if_pos (Jfw.2 hex)]
 .rw [Jeb, if_neg (fun hh => hex (Jfw.1 hh))]
 .rintro y _ _ rfl; exact ⟨JB (by omega) (by omega), ⟨t + 1, by push_cast; rfl, by omega, rfl⟩, by omega⟩
theorem Jyz (s : List Int) (hC : 0 <= C) : bad C (Y8 s C.toNat) = false := by
 unfold bad; rw [List.any_eq_false]; intro x hx; have := Jxq s C.toNat x hx; rw [if_neg (by omega), decide_eq_true_eq]; omega
theorem Qao (hs : shp C X) {s : List Int} (hl : s.length <= 256) : shp (s.length : Int) (pks X s) :=
 Jjb (by omega) (by rw [Jdd]; exact Yi hs) fun t ht => by rw [Jdd] at ht; rw [Jje ht, Jbm]; omega
theorem Qap (hF : FV P M mf p m v) (he : Els p m X) (s : List Int) : Els p m (pks X s) := Jap fun t ht => by
 rw [Jdd] at ht; rw [Jje ht]; exact Jj5 fun i hi => by rw [Jbm] at hi; rw [Ji5 hi]; exact ZA hF (Ql he t) _
def spt (p m v : Nat) (C : Int) (a : List (List Int)) (s : List Int) : List (List Int) := mm p m v C.toNat (nul p m v (a.length : Int) (tr (Y8 s C.toNat).length (pks a (Y8 s C.toNat)))) a
theorem Jk2 {q : Nat -> Nat} {s : List Int} {Q : Int × List (List Int) × Int -> Prop} (G : Sg P M mf p m v C a q) (hl : s.length <= 1000000) (h1 : rsg s C -> Q (C, spt p m v C a s, 0)) (h2 : ¬ rsg s C -> Q (0, [], 6)) : ZG P M mf C a s Q := by
 have hC := Je4 G.s; have hol := Jgu s C.toNat; have hal := Yi G.s; refine ZO ?_; rw [G.sck]; refine ⟨fun hh => absurd rfl hh, fun _ => Jz7 hl (fun hs => ⟨fun hb => (by cases hb), fun _ => ?_⟩) (fun hs => ⟨fun _ => h2 hs, fun hb => by cases hb⟩)⟩; have hsP := Qao G.s (s := Y8 s C.toNat) (by omega); have heP := Qap G.f G.e (Y8 s C.toNat); have e0 : colR P M mf C a (Y8 s C.toNat) = ((((Y8 s C.toNat).length : Nat) : Int), pks a (Y8 s C.toNat), (0 : Int)) := by
  unfold colR; rw [if_neg (fun hh => hh G.mk0), if_neg (by omega), if_neg (by rw [Jyz s hC.1]; decide)]
 refine ⟨fun c x e => c = ((Y8 s C.toNat).length : Int) /\ x = pks a (Y8 s C.toNat) /\ e = 0, ⟨Y8 s C.toNat, Jsj hl hs (by omega) rfl, (((Y8 s C.toNat).length : Nat) : Int), pks a (Y8 s C.toNat), 0, Jsl (fun c Z e he => by rw [<- he, e0]), rfl, rfl, rfl⟩, ?_⟩; rintro c x e ⟨rfl, rfl, rfl⟩; refine ⟨fun hh => absurd rfl hh, fun _ => ?_⟩; have hm : mck P M mf ((Y8 s C.toNat).length : Int) (pks a (Y8 s C.toNat)) = 0 := Jcs ⟨p, m, v, G.f⟩ hsP ((QM G.f).2 heP); refine Jk1 (fun hh => absurd hm hh) fun p' m' v' hF' _ _ _ => ?_; obtain ⟨rfl, rfl, rfl⟩ := G.f.uniq3 hF'; have hsT := tr_shp hsP; have heT := tr_els hsP heP; rw [Jdd] at hsT ⊢; refine ⟨fun hh => absurd rfl hh, fun _ => Jgb G.f hsT heT ⟨fun hh => absurd rfl hh, fun _ => ?_⟩⟩; have GN := Job (v := v) G.f hsT; refine w_mMul (fun e hne hor => ?_) fun p' m' v' hF' _ _ _ _ _ => ?_
 .rcases hor with h | h | h
  .exact absurd GN.mk0 h
  .exact absurd G.mk0 h
  .exact absurd rfl h
 .obtain ⟨rfl, rfl, rfl⟩ := G.f.uniq3 hF'; exact h1 hs
end Go.Proofs.YtngdhnijkgjhcaaGreat
set_option linter.unusedVariables false
set_option linter.unusedSimpArgs false
namespace Go.Proofs.YtngdhnijkgjhcaaGreat
variable {P M : Int} {mf : List Int} {p m v g w : Nat} {C Ca Cb : Int} {X Y a b : List (List Int)}
def B2 : List (List Int) := [[1, 0, 1], [0, 1, 1]]
def B1 : List (List Int) := [[1, 0, 0]]
def U3 : List (List Int) := [[1, 0, 0], [0, 1, 0], [0, 0, 1]]
theorem Jym {q : Nat -> Nat} (h : (X.all fun r => decide (r.length = w)) = true) (h1 : ((List.range X.length).all fun i => decide (q i < w /\ (∀ t, t < X.length -> vo (row X t) (q i) = if t = i then 1 else 0) /\ (∀ c, c < q i -> vo (row X i) c = 0) /\ ∀ j, j < X.length -> i < j -> q i < q j)) = true) : Cnl w X q := by
 have g := fun i (hi : i < X.length) => of_decide_eq_true (List.all_eq_true.1 h1 i (List.mem_range.2 hi)); exact ⟨fun i hi => (g i hi).1, fun i hi t ht => (g i hi).2.1 t ht, fun i hi c hc => (g i hi).2.2.1 c hc, fun i j hij hj => (g i (by omega)).2.2.2 j hj hij⟩
theorem sg2 : Sg 2 1 [] 2 1 0 3 B2 id := ⟨fv2, ⟨by decide, by decide, by decide, by decide⟩, by unfold Els Elr; decide, Jym (by decide) (by decide)⟩
theorem sg1 : Sg 2 1 [] 2 1 0 3 B1 id := ⟨fv2, ⟨by decide, by decide, by decide, by decide⟩, by unfold Els Elr; decide, Jym (by decide) (by decide)⟩
theorem sgU : Sg 2 1 [] 2 1 0 3 U3 id := ⟨fv2, ⟨by decide, by decide, by decide, by decide⟩, by unfold Els Elr; decide, Jym (by decide) (by decide)⟩
theorem evs1 : Qb 2 1 0 3 (B2 ++ B1) = U3 := by decide +kernel
theorem evs2 : nul 2 1 0 3 (nul 2 1 0 3 B2 ++ nul 2 1 0 3 B1) = [] := by decide +kernel
theorem evs3 : nul 2 1 0 3 B2 = [[1, 1, 1]] := by decide +kernel
theorem evs4 : rsd 2 1 0 id B2 [1, 1, 0] 2 = [0, 0, 0] := by decide +kernel
theorem evs5 : rsd 2 1 0 id B2 [1, 0, 0] 2 = [0, 0, 1] := by decide +kernel
theorem evs6 : Qb 2 1 0 3 (rdl 2 1 0 id B1 U3) = [[0, 1, 0], [0, 0, 1]] := by decide +kernel
theorem evs7 : spt 2 1 0 3 B2 [1, 2] = [[0, 1, 1]] := by decide +kernel
theorem evs8 : rsd 2 1 0 id U3 [1, 0, 0] 3 = [0, 0, 0] := by decide +kernel
theorem in_U3 : ain 2 1 0 id U3 B1 := fun t ht => by
 have : t = 0 := by simpa [B1] using ht
 subst this; show zr (rsd 2 1 0 id U3 [1, 0, 0] 3); rw [evs8]; unfold zr; decide
theorem rsg_12 : rsg [1, 2] 3 := ⟨by decide, fun i hi => by
 have : i = 0 := by simp at hi; omega
 subst this; decide⟩
theorem Jc5 {Q : Bool -> Prop} (h : Q true) : Zg Q := by
 have z1 : zr (rsd 2 1 0 id B2 [1, 1, 0] B2.length) := by show zr (rsd 2 1 0 id B2 [1, 1, 0] 2); rw [evs4]; unfold zr; decide
 have z2 : ¬ zr (rsd 2 1 0 id B2 [1, 0, 0] B2.length) := by show ¬ zr (rsd 2 1 0 id B2 [1, 0, 0] 2); rw [evs5]; unfold zr; decide
 refine w_Sum (a := B2) (b := B1) sg2 sg1 (by decide) ?_; rw [evs1]; refine w_Meet (a := B2) (b := B1) sg2 sg1 (by decide) ?_; rw [evs2]; refine w_Dual (a := B2) sg2 ?_; rw [evs3]; refine Jb9 (a := B2) sg2 rfl (by unfold Elr; decide) (fun _ => ?_) (fun hh => absurd z1 hh); refine Jga (a := B2) sg2 rfl (by unfold Elr; decide) ?_; rw [show rsd 2 1 0 id B2 [1, 0, 0] B2.length = [0, 0, 1] from evs5]; refine Jnl (a := B1) (b := U3) sg1 sgU (fun _ => ?_) (fun hh => absurd in_U3 hh); rw [evs6]; refine Jk2 (a := B2) (s := [1, 2]) sg2 (by decide) (fun _ => ?_) (fun hh => absurd rsg_12 hh); rw [evs7]; refine Jk4 (a := B2) sg2 rfl (by unfold Elr; decide) (fun hh => absurd hh z2) (fun _ => ?_); refine Jk3 (a := B1) (b := U3) sg1 sgU (fun _ => ?_) (fun hh => absurd in_U3 hh); refine ⟨fun b => b = true, ⟨fun _ => ⟨fun _ => ⟨fun _ => ⟨fun _ => ⟨fun _ => ⟨fun _ => ⟨fun _ => ⟨fun _ => rfl, fun h => absurd rfl h⟩, fun h => absurd rfl h⟩, fun h => absurd rfl h⟩, fun h => absurd rfl h⟩, fun h => absurd rfl h⟩, fun h => absurd rfl h⟩, fun h => absurd rfl h⟩, fun h => absurd rfl h⟩, fun b hb => ⟨hb, _, Jz5 (by decide) rfl, Yu (by decide) (by decide) (fun _ => rfl) (fun hh => absurd (by decide) hh), rfl, rfl, Yu (by decide) (by decide) (fun _ => rfl) (fun hh => absurd rfl hh), QQ (by decide) (fun _ => rfl) (fun hh => absurd (by decide) hh), QQ (by decide) (fun _ => rfl) (fun hh => absurd rfl hh), Yu (by decide) (by decide) (fun _ => rfl) (fun hh => absurd rfl hh), Yu (by decide) (by decide) (fun _ => rfl) (fun hh => absurd rfl hh), rfl, rfl, _, ZO rfl, ?_⟩⟩; rw [show sck 2 1 [] 3 U3 = 0 from sgU.sck]; exact h
end Go.Proofs.YtngdhnijkgjhcaaGreat
set_option linter.unusedVariables false
set_option linter.unusedSimpArgs false
namespace Go.Proofs.YtngdhnijkgjhcaaGreat
variable {P M : Int} {mf : List Int} {p m v g w : Nat} {C Ca Cb : Int} {X Y a b : List (List Int)}
theorem Jlp (hF : FV P M mf p m v) : inE (p ^ m) 1 = 1 := Qv (x := 1) (by have := hF.ring.q2; omega)
end Go.Proofs.YtngdhnijkgjhcaaGreat
set_option linter.unusedVariables false
set_option linter.unusedSimpArgs false
namespace Go.Proofs.YtngdhnijkgjhcaaGreat
variable {P M : Int} {mf : List Int} {p m v g w : Nat} {C Ca Cb : Int} {X Y a b : List (List Int)}
end Go.Proofs.YtngdhnijkgjhcaaGreat
set_option linter.unusedVariables false
set_option linter.unusedSimpArgs false
namespace Go.Proofs.YtngdhnijkgjhcaaGreat
variable {P M : Int} {mf : List Int} {p m v g w : Nat} {C Ca Cb : Int} {X Y a b : List (List Int)}
theorem Ji3 {Q : Int × List (List Int) × Bool -> Prop} (hb : mck P M mf C X ≠ 0 -> Q (0, [], false)) (h : ∀ p m v, FV P M mf p m v -> shp C X -> Els p m X -> Q (C, Qb p m v C X, true)) : Zc P M mf C X Q := by
 refine Jic ⟨fun h0 => hb h0, fun h0 => Je1 (fun hh => absurd hh h0) fun p m v hF hs he _ => h p m v hF hs he⟩
theorem can_sg (hF : FV P M mf p m v) (hs : shp C X) (he : Els p m X) : Sg P M mf p m v C (Qb p m v C X) fun i => (vo (J8 p m v C X) i).toNat := ⟨hF, YC hs, YY hF he, Jhk hF hs he⟩
theorem Sg.rows {q : Nat -> Nat} (G : Sg P M mf p m v C X q) : X.length <= 1000000 /\ ∀ r ∈ X, r.length <= 1000000 := ⟨by have := Yi G.s; omega, Jlh G.s⟩
end Go.Proofs.YtngdhnijkgjhcaaGreat
set_option linter.unusedVariables false
set_option linter.unusedSimpArgs false
namespace Go.Proofs.YtngdhnijkgjhcaaGreat
variable {P M : Int} {mf : List Int} {p m v g w : Nat} {C Ca Cb : Int} {X Y a b : List (List Int)}
theorem Jlk {Q : Nat -> Nat} {u : List Int} : ∀ k, (∀ s, s < k -> Ng p m (vo u (Q s)) = 0) -> rsd p m v Q X u k = u
 | 0, _ => rfl
 | k + 1, h => by rw [rsd, h k (by omega), Jdq, Jlk k fun s hs => h s (by omega)]
theorem Jw5 {q : Nat -> Nat} {u : List Int} (G : Sg P M mf p m v C X q) (hu : u.length = C.toNat) (he : Elr p m u) : zr (rsd p m v q X u X.length) ↔ Sp p m v C.toNat X u := by
 rw [sp_rsd G.f G.s G.e G.q hu he]; unfold zr; rw [Q0, hu]
theorem vo_en (hF : FV P M mf p m v) {x y : List Int} {i j : Nat} (hx : Elr p m x) (hy : Elr p m y) (h : en p m x i = en p m y j) : vo x i = vo y j := by
 have h1 := Zl (ZA hF hx i); have h2 := Zl (ZA hF hy j); unfold en at h; rw [<- h1, <- h2, h]
theorem Jtc {q : Nat -> Nat} {x y : List Int} (G : Sg P M mf p m v C X q) (hx : x.length = C.toNat) (ex : Elr p m x) (hy : y.length = C.toNat) (ey : Elr p m y) : rsd p m v q X x X.length = rsd p m v q X y X.length ↔ zr (rsd p m v q X (adx p m v x (Ng p m 1) y) X.length) := by
  have hF := G.f
  have R := hF.ring
  have hp : 0 < p := by have := hF.p2; omega
  have hq1 : 1 < p ^ m := by have := R.q2; omega
  have n1 : inE (p ^ m) (Ng p m 1) = QN p m 1 := by unfold Ng; rw [Jl6 hF (Ya hp _), Jlp hF]
  have dl : (adx p m v x (Ng p m 1) y).length = C.toNat := by rw [ZD, hx]
  have de : Elr p m (adx p m v x (Ng p m 1) y) := Jbv hp ex
  have fd : ∀ f, Lin p m v C.toNat f -> ∀ (x' y' : List Int), x'.length = C.toNat -> (f (en p m (adx p m v x' (Ng p m 1) y')) = 0 ↔ f (en p m x') = f (en p m y')) := fun f L x' y' hx' => by
    rw [L.adx hF hx', n1]; exact Jri hF (L.lt _) (L.lt _)
  rw [Jw5 G dl de]
  have lx := Y7 (X := X) (v := v) hp q ex X.length
  have ly := Y7 (X := X) (v := v) hp q ey X.length
  constructor
  . intro h f L hf
    rw [fd f L x y hx, <- Y6 hF L hx hf X.length (Nat.le_refl _) (Q := q), <- Y6 hF L hy hf X.length (Nat.le_refl _) (Q := q), h]
  . intro h
    -- the difference of the reduced words is reduced, and in the space
    have hzl : (adx p m v (rsd p m v q X x X.length) (Ng p m 1) (rsd p m v q X y X.length)).length = C.toNat := by rw [ZD, Q0, hx]
    have hze : Elr p m (adx p m v (rsd p m v q X x X.length) (Ng p m 1) (rsd p m v q X y X.length)) := Jbv hp lx
    have hsp : Sp p m v C.toNat X (adx p m v (rsd p m v q X x X.length) (Ng p m 1) (rsd p m v q X y X.length)) := fun f L hf => by
      rw [fd f L _ _ (by rw [Q0, hx]), Y6 hF L hx hf X.length (Nat.le_refl _), Y6 hF L hy hf X.length (Nat.le_refl _)]
      exact (fd f L x y hx).1 (h f L hf)
    have hz := (Jw5 G hzl hze).2 hsp
    rw [Jlk X.length fun s hs => by
      have e1 := Jjc hF G.q hx ex hs
      have e2 := Jjc hF G.q hy ey hs
      rw [Jqx e2, e1, ng_0 hF]] at hz
    refine QR (by rw [Q0, Q0, hx, hy]) fun c hc => ?_
    rw [Q0, hx] at hc
    refine vo_en hF lx ly ?_
    have h1 := hz c (by rw [hzl]; exact hc)
    have h2 := (Jl9 hF (ZA hF hze c)).2 h1
    rw [Jhf hF (by rw [Q0, hx]; exact hc), n1] at h2
    exact (Jri hF (Q1 hF _ _) (Q1 hF _ _)).1 h2
theorem Qbk {q : Nat -> Nat} {x : List Int} (G : Sg P M mf p m v C X q) (hx : x.length = X.length) (ex : Elr p m x) : pkr (cmb p m v x C.toNat X X.length) (pvl q X.length) = x := by
  have hF := G.f
  have R := hF.ring
  refine QR (by rw [Jbm, Yj, hx]) fun j hj => ?_
  rw [Jbm, Yj] at hj
  rw [Ji5 (by rw [Yj]; exact hj), Jgd hj]
  refine vo_en hF (Jkb hF _) ex ?_
  show en p m (cmb p m v x C.toNat X X.length) (q j) = _
  rw [Jyo hF (G.q.lt j hj)]
  refine (Jhc hF (f := fun i => JD p m (dv p v) (inE (p ^ m) (vo x i)) (en p m (row X i) (q j))) (j := j) (R.Ml _ _) X.length hj fun i hi hne => ?_).trans ?_
  . show JD p m (dv p v) _ (inE (p ^ m) (vo (row X i) (q j))) = 0
    rw [G.q.one j hj i hi, if_neg hne, Jg8 hF, R.M0 (JZ (by have := R.q2; omega) _)]
  . show JD p m (dv p v) _ (inE (p ^ m) (vo (row X j) (q j))) = _
    rw [G.q.one j hj j hj, if_pos rfl, Jlp hF, R.M1 (JZ (by have := R.q2; omega) _)]; rfl
theorem cmb_sp {q : Nat -> Nat} {x : List Int} (G : Sg P M mf p m v C X q) : Sp p m v C.toNat X (cmb p m v x C.toNat X X.length) := fun f L hf => by
 have R := G.f.ring; rw [Jrm G.f L]; refine Jbr G.f _ fun i hi => ?_; rw [hf i hi, R.M0 (JZ (by have := R.q2; omega) _)]
theorem Jfj (P M : Int) (mf : List Int) (Cm : Int) (X : List (List Int)) (l0 l1 l2 : List Int) : Jey P M mf Cm X l0 l1 l2 (fun r => r = true) := by
 refine Jc5 ⟨fun hb => (by cases hb), fun _ => w_few (fun hA hB hla hlb => ⟨fun hb => (by cases hb), fun _ => ⟨fun _ => Jc5 rfl, fun h0 => ⟨fun _ => Jc5 rfl, fun h1 => ⟨fun _ => Jc5 rfl, fun h2 => ?_⟩⟩⟩⟩) ⟨fun _ => Jc5 rfl, fun hb => (by cases hb)⟩⟩; refine Ji3 (fun _ => ⟨fun _ => rfl, fun hb => (by cases hb)⟩) fun p m v hF hs he => ⟨fun hb => (by cases hb), fun _ => ?_⟩
 have G := can_sg hF hs he; generalize Qb p m v Cm X = A at G ⊢; have hc := Je4 G.s; have hp : 0 < p := by have := hF.p2; omega
 have cC : ((Cm.toNat : Nat) : Int) = Cm := by omega
 refine Jsi ⟨fun _ => rfl, fun _ => ?_⟩; have rv : ∀ (x : List Int) (Q : Int -> Prop), Q (vce p m x Cm.toNat) -> Yo P M mf x Cm Q := fun x Q h => by
  have := Jid (x := x) (n := Cm.toNat) (Q := Q) hF (by omega) h
  rwa [cC] at this
 refine rv _ _ ⟨fun _ => rfl, fun e0 => rv _ _ ⟨fun _ => rfl, fun e1 => ?_⟩⟩; obtain ⟨y0, z0⟩ := Jgf (Classical.not_not.1 e0); obtain ⟨y1, z1⟩ := Jgf (Classical.not_not.1 e1); refine Jga G y0 z0 (Jga G y1 z1 ⟨Ng p m 1, w_rNeg hF rfl, adm p m v l0 (Ng p m 1) l1, Jf9 hF (by omega) (by omega) rfl, ?_⟩); rw [adm_el hF z0]; have dl : (adx p m v l0 (Ng p m 1) l1).length = Cm.toNat := by rw [ZD, y0]
 have de : Elr p m (adx p m v l0 (Ng p m 1) l1) := Jbv hp z0; have hco := Jtc G y0 z0 y1 z1; have fin : Yo P M mf l2 ((A.length : Nat) : Int) (fun r101 => ((r101 ≠ (0 : Int)) -> true = true) /\ (¬ (r101 ≠ (0 : Int)) -> (Zs P M mf l2 A Cm (fun x104 => Jfc P M mf Cm A x104 (fun q => match q with | (r109, r110) => QY P M mf Cm A x104 (fun q => match q with | (x112, r113) => ((r110 = (0 : Int)) -> (((r113 = (0 : Int)) -> (((r109 = true) -> (QF x112 l2 (fun r121 => r121 = true))) /\ (r109 = false -> false = true))) /\ (¬ (r113 = (0 : Int)) -> false = true))) /\ (¬ (r110 = (0 : Int)) -> false = true))))))) := by
  have hl := Yi G.s; refine Jid hF (by omega) ⟨fun _ => rfl, fun e2 => ?_⟩; obtain ⟨y2, z2⟩ := Jgf (Classical.not_not.1 e2); refine Jni hF G.s y2 ?_; have wl : (cmb p m v l2 Cm.toNat A A.length).length = Cm.toNat := Jbt _ _ _; have we : Elr p m (cmb p m v l2 Cm.toNat A A.length) := Jkb hF _; have wz := (Jw5 G wl we).2 (cmb_sp G); refine Jk4 G wl we (fun _ => ?_) (fun hh => absurd wz hh); refine Jb9 G wl we (fun _ => ?_) (fun hh => absurd wz hh); rw [Qbk G y2 z2]; exact ⟨fun _ => ⟨fun _ => ⟨fun _ => QQ (by omega) (fun _ => rfl) (fun hh => absurd rfl hh), fun hb => (by cases hb)⟩, fun hh => absurd rfl hh⟩, fun hh => absurd rfl hh⟩
 have xl : (rsd p m v (fun i => (vo (J8 p m v Cm X) i).toNat) A l0 A.length).length <= 1000000 := by rw [Q0]; omega
 by_cases hz : zr (rsd p m v (fun i => (vo (J8 p m v Cm X) i).toNat) A (adx p m v l0 (Ng p m 1) l1) A.length)
 .refine Jk4 G dl de (fun _ => ?_) (fun hh => absurd hz hh); refine ⟨fun hh => absurd rfl hh, fun _ => ⟨fun hh => absurd rfl hh, fun _ => ⟨fun hh => absurd rfl hh, fun _ => QQ xl (fun _ => ⟨fun hb => (by cases hb), fun _ => fin⟩) (fun hh => absurd (hco.2 hz) hh)⟩⟩⟩
 .refine Jk4 G dl de (fun hh => absurd hh hz) (fun _ => ?_); refine ⟨fun hh => absurd rfl hh, fun _ => ⟨fun hh => absurd rfl hh, fun _ => ⟨fun hh => absurd rfl hh, fun _ => QQ xl (fun hh => absurd (hco.1 hh) hz) (fun _ => ⟨fun hb => (by cases hb), fun _ => fin⟩)⟩⟩⟩
end Go.Proofs.YtngdhnijkgjhcaaGreat
