/- Contracts of functions of the program, and what they lean on: M13, M14, M15, M16, M17, M18, M19, M20, M21, M22, M23, M24, S1, S2, S3, S4, S5, S6, S7, S9, S10, C1, C2, C3, C4, C8, C9, C10, C11. -/
import Derived.Test.YtjgpkljepgcekaaClassicResidueG7
set_option linter.unusedVariables false
set_option linter.unusedSimpArgs false
namespace Go.Proofs.Ytjgpkljepgcekaa
end Go.Proofs.Ytjgpkljepgcekaa
namespace Go.Proofs.Ytjgpkljepgcekaa
section
variable {p m v : Nat} {P M : Int} {mf : LI} {X Y : LL} {C : Int} {w : Nat}
theorem Jql {f : (Nat -> Nat) -> Nat} {r cur : Nat} (hr : r < X.length) (hc : cur < X.length) (h : Ann p m f X) : Ann p m f (swq X r cur) := fun t ht => by
  rw [JN] at ht
  rw [YR hr hc]
  split
  . exact h r hr
  . split
    . exact h cur hc
    . exact h t ht
theorem Jqn {f : (Nat -> Nat) -> Nat} (L : Lin p m v w f) (hF : FV P M mf p m v) {cur : Nat} {e : Int} (hc : cur < X.length) (hw : (row X cur).length = w) (h : Ann p m f X) : Ann p m f (scq p m v X cur e) := fun t ht => by
 rw [Ql] at ht; rw [Je7 hc]; split
 .rw [L.sc hF hw, h cur hc, hF.ring.M0 (JZ (by have := hF.ring.q2; omega) _)]
 .exact h t ht
theorem Jqo {f : (Nat -> Nat) -> Nat} (L : Lin p m v w f) (hF : FV P M mf p m v) {cur : Nat} {g : Nat -> Int} (hc : cur < X.length) (hw : ∀ t, t < X.length -> (row X t).length = w) (h : Ann p m f X) : Ann p m f (clr p m v g cur X) := fun t ht => by
 have R := hF.ring; have hq : 0 < p ^ m := by have := R.q2; omega
 rw [Y3] at ht; rw [YT ht]; split
 .exact h t ht
 .rw [L.adx hF (hw t ht), h cur hc, h t ht, R.M0 (JZ hq _), R.Az hq]
theorem Jnt (hF : FV P M mf p m v) {f : (Nat -> Nat) -> Nat} (L : Lin p m v w f) {S : ES} {c : Nat} (hw : ∀ t, t < S.X.length -> (row S.X t).length = w) (h : Ann p m f S.X) : Ann p m f (QS p m v S c).X := by
 unfold QS; split
 .rename_i h1
  obtain ⟨hc, hr⟩ := h1; rw [Jao]; have hw1 : ∀ t, t < (swq S.X (nz S.X c S.pv.length) S.pv.length).length -> (row (swq S.X (nz S.X c S.pv.length) S.pv.length) t).length = w := fun t ht => by
   rw [JN] at ht; exact Qv hr hc hw ht
  exact Jqo L hF (by rw [Ql, JN]; exact hc) (fun t ht => by rw [Ql] at ht; exact Qx (by rw [JN]; exact hc) hw1 ht) (Jqn L hF (by rw [JN]; exact hc) (hw1 _ (by rw [JN]; exact hc)) (Jql hr hc h))
 .exact h
theorem Jen (hF : FV P M mf p m v) {f : (Nat -> Nat) -> Nat} (L : Lin p m v w f) {n wy : Nat} {S : ES} (hS : Shp n w wy S) (h : Ann p m f S.X) : ∀ k, Ann p m f (elim p m v k S).X
 | 0 => h
 | k + 1 => by
  rw [QD]; have hk := Yk (p := p) (m := m) (v := v) hS k; exact Jnt hF L (fun t ht => hk.xr t (by have := hk.xl; omega)) (Jen hF L hS h k)
theorem Jcm (hF : FV P M mf p m v) (hs : shp C X) (he : Els p m X) {f : (Nat -> Nat) -> Nat} (L : Lin p m v C.toNat f) : Ann p m f (JW p m v C X) ↔ Ann p m f X := by
  have R := hF.ring
  have hq : 0 < p ^ m := by have := R.q2; omega
  obtain ⟨g, G⟩ := Jpy hF
  have hS := Zs (p := p) (m := m) (v := v) hs
  have red := Jf3 hF hs he
  have hl := Yl (p := p) (m := m) (v := v) hs
  have hpl := Jh3 (p := p) (m := m) (v := v) hs
  have f0 : ∀ a : Nat -> Nat, (∀ c, c < C.toNat -> a c = 0) -> f a = 0 := fun a ha => by
    have h1 := L.ml (a := fun _ => 0) (x := 0) (fun _ => hq) hq
    rw [R.Mc hq (L.lt _), R.M0 (L.lt _)] at h1
    rw [<- h1]
    exact L.cg fun c hc => by rw [ha c hc, R.M0 hq]
  refine ⟨fun h => Jh5 G hF L (ZB hs) he C.toNat fun t ht => ?_, fun h t ht => ?_⟩
  . by_cases hr : t < (J2 p m v C X).length
    . have := h t (by omega)
      rwa [show row (JW p m v C X) t = row (ec p m v C X).X t from Zj hr] at this
    . exact f0 _ fun c hc => Jbz hF hq (red.lo t (by show (J2 p m v C X).length <= t; omega) ht c hc)
  . rw [show row (JW p m v C X) t = row (ec p m v C X).X t from Zj (by show t < (J2 p m v C X).length; omega)]
    exact Jen hF L (ZB hs) h C.toNat t (by have := hS.xl; show t < (ec p m v C X).X.length; omega)
end
end Go.Proofs.Ytjgpkljepgcekaa
namespace Go.Proofs.Ytjgpkljepgcekaa
section
variable {p m v : Nat} {P M : Int} {mf : LI} {X Y : LL} {C : Int} {w : Nat}
end
end Go.Proofs.Ytjgpkljepgcekaa
namespace Go.Proofs.Ytjgpkljepgcekaa
section
variable {p m v : Nat} {P M : Int} {mf : LI} {X Y : LL} {C : Int} {w : Nat}
end
end Go.Proofs.Ytjgpkljepgcekaa
namespace Go.Proofs.Ytjgpkljepgcekaa
section
variable {p m v : Nat} {P M : Int} {mf : LI} {X Y : LL} {C : Int} {w : Nat}
end
end Go.Proofs.Ytjgpkljepgcekaa
namespace Go.Proofs.Ytjgpkljepgcekaa
section
variable {p m v : Nat} {P M : Int} {mf : LI} {X Y : LL} {C : Int} {w wy : Nat}
def e2 (p m w : Nat) (a b : LI) : Nat -> Nat := fun c => if c < w then en p m a c else en p m b (c - w)
end
end Go.Proofs.Ytjgpkljepgcekaa
namespace Go.Proofs.Ytjgpkljepgcekaa
section
variable {p m v : Nat} {P M : Int} {mf : LI} {X Y : LL} {C : Int} {w wy : Nat}
end
end Go.Proofs.Ytjgpkljepgcekaa
namespace Go.Proofs.Ytjgpkljepgcekaa
end Go.Proofs.Ytjgpkljepgcekaa
namespace Go.Proofs.Ytjgpkljepgcekaa
section
variable {p m v : Nat} {P M : Int} {mf : LI} {X Y : LL} {C D : Int} {w wy : Nat}
def mm (p m v w : Nat) (A B : LL) : LL := (List.range A.length).map fun t => cmb p m v (row A t) w B B.length
theorem Jsm {A B : LL} (hl : A.length = B.length) (ha : Els p m A) (hb : Els p m B) (hw : ∀ t, t < A.length -> (row A t).length = w /\ (row B t).length = w) (h : ∀ t c, t < A.length -> c < w -> en p m (row A t) c = en p m (row B t) c) : A = B :=
  QN hl fun t ht => Yc (by rw [(hw t ht).1, (hw t ht).2]) fun c hc => by
    rw [(hw t ht).1] at hc
    have e := h t c ht hc
    have e1 := Jbf (Jdj (Qj ha t) (t := c) (by rw [(hw t ht).1]; exact hc))
    have e2 := Jbf (Jdj (Qj hb t) (t := c) (by rw [(hw t ht).2]; exact hc))
    unfold en at e
    rw [<- e1, <- e2, e]
end
end Go.Proofs.Ytjgpkljepgcekaa
namespace Go.Proofs.Ytjgpkljepgcekaa
section
variable {P M : Int} {mf : LI} {X : LL} {C : Int}
end
end Go.Proofs.Ytjgpkljepgcekaa
namespace Go.Proofs.Ytjgpkljepgcekaa
section
variable {p m v : Nat} {P M : Int} {mf : LI} {X Y : LL} {C D : Int} {w wy : Nat}
theorem Jqk {n k : Nat} {a b : LI} (ha : Asc n a) (hb : Asc n b) (h1 : ∀ i, i < a.length -> ∃ j, j < b.length /\ vo b j = vo a i) (h2 : ∀ j, j < b.length -> ∃ i, i < a.length /\ vo a i = vo b j) : ∀ k, k < a.length -> k < b.length /\ vo a k = vo b k := by
  intro k
  induction k using Nat.strongRecOn with
  | ind k ih =>
    intro hk
    obtain ⟨j, hj, e⟩ := h1 k hk
    have hjk : k <= j := by
      rcases Nat.lt_or_ge j k with h | h
      . have h3 := (ih j h (by omega)).2
        have h4 := ha.2 j k h hk
        omega
      . exact h
    have hkb : k < b.length := by omega
    refine ⟨hkb, ?_⟩
    obtain ⟨i, hi, e2⟩ := h2 k hkb
    rcases Nat.lt_trichotomy i k with h | h | h
    . have h3 := (ih i h hi).2
      have h4 := hb.2 i k h hkb
      omega
    . rw [<- e2, h]
    . have h3 := ha.2 k i h hi
      rcases Nat.lt_or_ge k j with h5 | h5
      . have := hb.2 k j h5 hj; omega
      . rw [show k = j by omega] at e2 ⊢; omega
theorem Jqj {n : Nat} {a b : LI} (ha : Asc n a) (hb : Asc n b) (h1 : ∀ i, i < a.length -> ∃ j, j < b.length /\ vo b j = vo a i) (h2 : ∀ j, j < b.length -> ∃ i, i < a.length /\ vo a i = vo b j) : a = b := by
 have k1 := Jqk (k := 0) ha hb h1 h2; have k2 := Jqk (k := 0) hb ha h2 h1; refine Yc ?_ fun i hi => (k1 i hi).2; rcases Nat.lt_trichotomy a.length b.length with h | h | h
 .have := (k2 a.length h).1; omega
 .exact h
 .have := (k1 b.length h).1; omega
theorem Jln (hF : FV P M mf p m v) (hs : shp C X) (he : Els p m X) {a : Nat -> Nat} (ha : ∀ c, a c < p ^ m) (hA : ∀ f, Lin p m v C.toNat f -> Ann p m f (JW p m v C X) -> f a = 0) {c : Nat} (hc : c < C.toNat) :
    a c = fs p m (fun i => Jt p m (dv p v) (a (vo (J2 p m v C X) i).toNat) (en p m (row (JW p m v C X) i) c)) (J2 p m v C X).length := by
  have R := hF.ring
  have q1 : 1 < p ^ m := R.q2
  have hp : 0 < p := by have := hF.p2; omega
  have hasc := Zt (p := p) (m := m) (v := v) C X
  have hcl := Yl (p := p) (m := m) (v := v) hs
  have hneg : ∀ y, y < p ^ m -> Yd p m y < p ^ m := fun y _ => Jck hp y
  have L := Js1 (w := C.toNat) hF (c := c) (r := (J2 p m v C X).length) (pv := fun i => (vo (J2 p m v C X) i).toNat) (nR := fun i => Yd p m (en p m (row (JW p m v C X) i) c)) hc (fun i hi => by have := hasc.1 i hi; show (vo (J2 p m v C X) i).toNat < _; omega) (fun i => hneg _ (Ya hF _ _))
  have hann := hA _ L (fun s hsl => by
    show cof _ _ _ _ _ _ _ (en p m (row (JW p m v C X) s)) = 0
    unfold cof
    have hsr : s < (J2 p m v C X).length := by omega
    have hd : ∀ i, i < (J2 p m v C X).length -> en p m (row (JW p m v C X) s) (vo (J2 p m v C X) i).toNat = if s = i then 1 else 0 := fun i hi => by
      have := Jdo hF hs he hi hsr
      by_cases e : s = i
      . rw [if_pos e] at this ⊢; exact Jbz hF q1 this
      . rw [if_neg e] at this ⊢; exact Jbz hF (by omega) this
    have h9 := Jjt hF (f := fun i => Jt p m (dv p v) (Yd p m (en p m (row (JW p m v C X) i) c)) (en p m (row (JW p m v C X) s) (vo (J2 p m v C X) i).toNat)) (j := s) (R.Ml _ _) _ hsr fun i hi hne => by
      show Jt p m (dv p v) _ _ = 0
      rw [hd i hi, if_neg (fun e => hne e.symm), R.M0 (hneg _ (Ya hF _ _))]
    show JU p m _ (fs p m (fun i => Jt p m (dv p v) (Yd p m (en p m (row (JW p m v C X) i) c)) (en p m (row (JW p m v C X) s) (vo (J2 p m v C X) i).toNat)) (J2 p m v C X).length) = 0
    rw [h9]
    show JU p m _ (Jt p m (dv p v) _ _) = 0
    rw [hd s hsr, if_pos rfl, R.M1 (hneg _ (Ya hF _ _))]
    exact Zq hp (Ya hF _ _))
  unfold cof at hann
  have hG := Jby hF (fun i => Jt p m (dv p v) (a (vo (J2 p m v C X) i).toNat) (en p m (row (JW p m v C X) i) c)) (J2 p m v C X).length
  have hN := Jby hF (fun i => Jt p m (dv p v) (Yd p m (en p m (row (JW p m v C X) i) c)) (a (vo (J2 p m v C X) i).toNat)) (J2 p m v C X).length
  have hGN : JU p m (fs p m (fun i => Jt p m (dv p v) (a (vo (J2 p m v C X) i).toNat) (en p m (row (JW p m v C X) i) c)) (J2 p m v C X).length) (fs p m (fun i => Jt p m (dv p v) (Yd p m (en p m (row (JW p m v C X) i) c)) (a (vo (J2 p m v C X) i).toNat)) (J2 p m v C X).length) = 0 := by
    have h1 := Jju hF (f := fun i => Jt p m (dv p v) (a (vo (J2 p m v C X) i).toNat) (en p m (row (JW p m v C X) i) c)) (h := fun i => Jt p m (dv p v) (Yd p m (en p m (row (JW p m v C X) i) c)) (a (vo (J2 p m v C X) i).toNat)) (x := 1) (fun i => R.Ml _ _) (fun i => R.Ml _ _) q1 (J2 p m v C X).length
    rw [R.Mc q1 hN, R.M1 hN] at h1
    rw [<- h1]
    refine Jcj hF _ fun i hi => ?_
    show JU p m (Jt p m (dv p v) _ _) (Jt p m (dv p v) 1 (Jt p m (dv p v) _ _)) = 0
    have ha' := ha (vo (J2 p m v C X) i).toNat
    have hb := Ya hF (row (JW p m v C X) i) c
    rw [R.Mc q1 (R.Ml _ _), R.M1 (R.Ml _ _), R.Mc (hneg _ hb) ha', <- R.Md ha' hb (hneg _ hb), Zq hp hb, R.M0 ha']
  have hx := ha c
  generalize fs p m (fun i => Jt p m (dv p v) (a (vo (J2 p m v C X) i).toNat) (en p m (row (JW p m v C X) i) c)) (J2 p m v C X).length = G1 at *
  generalize fs p m (fun i => Jt p m (dv p v) (Yd p m (en p m (row (JW p m v C X) i) c)) (a (vo (J2 p m v C X) i).toNat)) (J2 p m v C X).length = N1 at *
  generalize a c = b at *
  calc b = JU p m b (JU p m G1 N1) := by rw [hGN, R.Az hx]
    _ = JU p m G1 (JU p m b N1) := by rw [<- R.Aa hx hG hN, R.Ac b G1, R.Aa hG hx hN]
    _ = G1 := by rw [hann, R.Az hG]
theorem Jpb (hF : FV P M mf p m v) (hX : shp C X) (eX : Els p m X) (hY : shp C Y) (eY : Els p m Y) (h : ∀ f, Lin p m v C.toNat f -> Ann p m f Y -> Ann p m f X) : ∀ t, t < (J2 p m v C X).length -> ∃ j, j < (J2 p m v C Y).length /\ vo (J2 p m v C Y) j = vo (J2 p m v C X) t := by
  intro t ht
  have R := hF.ring
  have q1 : 1 < p ^ m := R.q2
  have hq : 0 < p ^ m := by omega
  have pX := Zt (p := p) (m := m) (v := v) C X
  have pY := Zt (p := p) (m := m) (v := v) C Y
  have lX := Yl (p := p) (m := m) (v := v) hX
  have hk := fun f (L : Lin p m v C.toNat f) (h1 : Ann p m f (JW p m v C Y)) => (Jcm hF hX eX L).2 (h f L ((Jcm hF hY eY L).1 h1)) t (by omega)
  have ht' := pX.1 t ht
  have hc := Jln hF hY eY (a := en p m (row (JW p m v C X) t)) (fun c => Ya hF _ c) hk (c := (vo (J2 p m v C X) t).toNat) (by omega)
  have hu := Jdo hF hX eX (i := t) (t := t) ht ht
  rw [if_pos rfl] at hu
  rw [Jbz hF (z := 1) q1 hu] at hc
  refine Classical.byContradiction fun hno => ?_
  rw [Jcj hF _ fun i hi => ?_] at hc
  . omega
  show Jt p m (dv p v) (en p m (row (JW p m v C X) t) (vo (J2 p m v C Y) i).toNat) (en p m (row (JW p m v C Y) i) (vo (J2 p m v C X) t).toNat) = 0
  have hi' := pY.1 i hi
  rcases Int.lt_trichotomy (vo (J2 p m v C Y) i) (vo (J2 p m v C X) t) with h1 | h1 | h1
  . rw [Jbz hF (z := 0) hq (Jh1 hF hX eX ht (c := (vo (J2 p m v C Y) i).toNat) (by omega)), R.Mc hq (Ya hF _ _), R.M0 (Ya hF _ _)]
  . exact absurd ⟨i, hi, h1⟩ hno
  . rw [Jbz hF (z := 0) hq (Jh1 hF hY eY hi (c := (vo (J2 p m v C X) t).toNat) (by omega)), R.M0 (Ya hF _ _)]
theorem Jqc (hF : FV P M mf p m v) (hX : shp C X) (eX : Els p m X) (hY : shp C Y) (eY : Els p m Y) (h : ∀ f, Lin p m v C.toNat f -> (Ann p m f X ↔ Ann p m f Y)) : J2 p m v C X = J2 p m v C Y /\ JW p m v C X = JW p m v C Y := by
 have R := hF.ring; have q1 : 1 < p ^ m := R.q2; have hq : 0 < p ^ m := by omega
 have pX := Zt (p := p) (m := m) (v := v) C X; have pY := Zt (p := p) (m := m) (v := v) C Y; have lX := Yl (p := p) (m := m) (v := v) hX; have lY := Yl (p := p) (m := m) (v := v) hY; have sX := Jdp (p := p) (m := m) (v := v) hX; have sY := Jdp (p := p) (m := m) (v := v) hY; have e : J2 p m v C X = J2 p m v C Y := Jqj pX pY (Jpb hF hX eX hY eY fun f L => (h f L).2) (Jpb hF hY eY hX eX fun f L => (h f L).1); refine ⟨e, Jsm (w := C.toNat) (by rw [lX, lY, e]) (Jh2 hF eX) (Jh2 hF eY) (fun t ht => ⟨Jah sX ht, Jah sY (by rw [lY, <- e, <- lX]; exact ht)⟩) fun t c ht hc => ?_⟩; have ht' : t < (J2 p m v C Y).length := by rw [<- e, <- lX]; exact ht
 have hk := fun f (L : Lin p m v C.toNat f) (h1 : Ann p m f (JW p m v C Y)) => (Jcm hF hX eX L).2 ((h f L).2 ((Jcm hF hY eY L).1 h1)) t ht; have hc' := Jln hF hY eY (a := en p m (row (JW p m v C X) t)) (fun c => Ya hF _ c) hk (c := c) hc; rw [hc']; have hd : ∀ i, i < (J2 p m v C Y).length -> en p m (row (JW p m v C X) t) (vo (J2 p m v C Y) i).toNat = if t = i then 1 else 0 := fun i hi => by
  have := Jdo hF hX eX (i := i) (t := t) (by rw [e]; exact hi) (by rw [e]; exact ht'); rw [e] at this; by_cases e' : t = i
  .rw [if_pos e'] at this ⊢; exact Jbz hF q1 this
  .rw [if_neg e'] at this ⊢; exact Jbz hF hq this
 rw [Jjt hF (f := fun i => Jt p m (dv p v) (en p m (row (JW p m v C X) t) (vo (J2 p m v C Y) i).toNat) (en p m (row (JW p m v C Y) i) c)) (j := t) (R.Ml _ _) _ ht' fun i hi hne => by
  show Jt p m (dv p v) _ _ = 0; rw [hd i hi, if_neg (fun q => hne q.symm), R.Mc hq (Ya hF _ _), R.M0 (Ya hF _ _)]]
 show Jt p m (dv p v) _ _ = _; rw [hd t ht', if_pos rfl, R.Mc q1 (Ya hF _ _), R.M1 (Ya hF _ _)]
end
end Go.Proofs.Ytjgpkljepgcekaa
namespace Go.Proofs.Ytjgpkljepgcekaa
section
variable {p m v : Nat} {P M : Int} {mf : LI} {X Y : LL} {C D : Int} {w wy : Nat}
end
end Go.Proofs.Ytjgpkljepgcekaa
namespace Go.Proofs.Ytjgpkljepgcekaa
/-! ### canonical matrices -/
variable {P M : Int} {mf : LI} {p m v : Nat} {C : Int} {X Y : LL}
/-- The rows are canonical; q: the columns of their first entries. -/
structure Cnl (C : Nat) (X : LL) (q : Nat -> Nat) : Prop where
  lt : ∀ i, i < X.length -> q i < C
  one : ∀ i, i < X.length -> ∀ t, t < X.length -> vo (row X t) (q i) = if t = i then 1 else 0
  lf : ∀ i, i < X.length -> ∀ c, c < q i -> vo (row X i) c = 0
  asc : ∀ i j, i < j -> j < X.length -> q i < q j
def IsCn (C : Int) (X : LL) : Prop := ∃ q, Cnl C.toNat X q
/-- Canonical rows are no more than columns. -/
theorem Cnl.len {w : Nat} {q : Nat -> Nat} (h : Cnl w X q) : X.length <= w := by
  have : ∀ k, k <= X.length -> k = 0 ∨ k <= q (k - 1) + 1 := by
    intro k
    induction k with
    | zero => intro _; exact .inl rfl
    | succ k ih =>
      intro hk
      refine .inr ?_
      rcases ih (by omega) with h0 | h1
      . subst h0; omega
      . rcases Nat.eq_zero_or_pos k with h0 | h0
        . subst h0; omega
        . have := h.asc (k - 1) k (by omega) (by omega)
          rw [Nat.add_sub_cancel]; omega
  rcases this X.length (Nat.le_refl _) with h0 | h1
  . omega
  . rcases Nat.eq_zero_or_pos X.length with h0 | h0
    . omega
    . have := h.lt (X.length - 1) (by omega); omega
end Go.Proofs.Ytjgpkljepgcekaa
namespace Go.Proofs.Ytjgpkljepgcekaa
/-! ### words reduced by canonical rows -/
variable {P M : Int} {mf : LI} {p m v : Nat} {C : Int} {X Y : LL} {w : Nat}
end Go.Proofs.Ytjgpkljepgcekaa
namespace Go.Proofs.Ytjgpkljepgcekaa
/-! ### the checks of a space -/
variable {P M : Int} {mf : LI} {p m v g : Nat} {C : Int} {X Y : LL} {F : GFv}
open Classical in
/-- the error of a space -/
noncomputable def sck (P M : Int) (mf : LI) (C : Int) (X : LL) : Int := if mck P M mf C X ≠ 0 then mck P M mf C X else if IsCn C X then 0 else 5
theorem Jad {a b : LI} {Q : Bool -> Prop} (ha : a.length <= 1000000) (h1 : a = b -> Q true) (h2 : a ≠ b -> Q false) : Yw a b Q := by
 refine ⟨fun hne => h2 fun e => hne (by rw [e]), fun he => ?_⟩; have hl : a.length = b.length := by have := Classical.not_not.1 he; omega
 refine ⟨fun z => ∃ t : Nat, z = t /\ t <= a.length /\ ∀ j, j < t -> vo a j = vo b j, fun z => (a.length - z).toNat, ⟨0, rfl, Nat.zero_le _, fun j hj => absurd hj (Nat.not_lt_zero j)⟩, ?_⟩; rintro _ ⟨t, rfl, ht, hj⟩; dsimp only; refine ⟨fun hlt => ⟨⟨by omega, by omega⟩, ⟨by omega, by omega⟩, fun hne => h2 fun e => hne (by rw [e]), fun heq => ⟨Jq (by omega) (by omega), ⟨t + 1, by push_cast; rfl, by omega, fun j hj' => ?_⟩, by omega⟩⟩, fun hge => h1 ?_⟩
 .rcases Nat.lt_or_ge j t with h | h
  .exact hj j h
  .have : j = t := by omega
   subst this; exact Classical.not_not.1 heq
 .refine List.ext_getElem hl fun i i1 i2 => ?_; have := hj i (by omega); unfold vo at this
  rwa [List.getD_eq_getElem?_getD, List.getElem?_eq_getElem i1, List.getD_eq_getElem?_getD, List.getElem?_eq_getElem i2] at this
theorem Jev {X Y : LL} {Q : Bool -> Prop} (hX : X.length <= 1000000) (hr : ∀ t, t < X.length -> (row X t).length <= 1000000) (h1 : X = Y -> Q true) (h2 : X ≠ Y -> Q false) : Yv X Y Q := by
 refine ⟨fun hne => h2 fun e => hne (by rw [e]), fun he => ?_⟩; have hl : X.length = Y.length := by have := Classical.not_not.1 he; omega
 refine ⟨fun z => ∃ t : Nat, z = t /\ t <= X.length /\ ∀ j, j < t -> row X j = row Y j, fun z => (X.length - z).toNat, ⟨0, rfl, Nat.zero_le _, fun j hj => absurd hj (Nat.not_lt_zero j)⟩, ?_⟩; rintro _ ⟨t, rfl, ht, hj⟩; dsimp only; refine ⟨fun hlt => ⟨⟨by omega, by omega⟩, ⟨by omega, by omega⟩, ?_⟩, fun hge => h1 (QN hl fun i hi => hj i (by omega))⟩; have htl : t < X.length := by omega
 by_cases e : row X t = row Y t
 .refine ⟨true, Jad (hr t htl) (fun _ => rfl) (fun hne => absurd e hne), fun hb => (by cases hb), fun _ => ⟨Jq (by omega) (by omega), ⟨t + 1, by push_cast; rfl, by omega, fun j hj' => ?_⟩, by omega⟩⟩; rcases Nat.lt_or_ge j t with h | h
  .exact hj j h
  .have : j = t := by omega
   subst this; exact e
 .exact ⟨false, Jad (hr t htl) (fun e' => absurd e' e) (fun _ => rfl), fun _ => h2 fun e' => e (by rw [e']), fun hb => (by cases hb)⟩
end Go.Proofs.Ytjgpkljepgcekaa
namespace Go.Proofs.Ytjgpkljepgcekaa
/-! ### pivots, reduced words -/
variable {P M : Int} {mf : LI} {p m v g : Nat} {C : Int} {X Y : LL} {F : GFv}
end Go.Proofs.Ytjgpkljepgcekaa
namespace Go.Proofs.Ytjgpkljepgcekaa
/-! ### two spaces: inclusion, quotient -/
variable {P M : Int} {mf : LI} {p m v g : Nat} {C Ca Cb : Int} {X Y a b : LL} {F : GFv}
/-- What is known of a space over a field. -/
structure Sg (P M : Int) (mf : LI) (p m v : Nat) (C : Int) (X : LL) (q : Nat -> Nat) : Prop where
  f : FV P M mf p m v
  s : shp C X
  e : Els p m X
  q : Cnl C.toNat X q
theorem Ji0 {l : LL} (hC : 0 <= C /\ C <= 256) (hl : l.length <= 256) (hw : ∀ t, t < l.length -> (row l t).length = C.toNat) : shp C l := by
 unfold shp; refine ⟨hC.1, hC.2, by omega, fun r hr => ?_⟩; obtain ⟨t, ht, rfl⟩ := Jam hr; have := hw t ht; omega
theorem shp_C (hs : shp C X) : 0 <= C /\ C <= 256 := by have := Je5 hs; omega
end Go.Proofs.Ytjgpkljepgcekaa
namespace Go.Proofs.Ytjgpkljepgcekaa
/-! ### sums, intersections, duals -/
variable {P M : Int} {mf : LI} {p m v g w : Nat} {C Ca Cb : Int} {X Y a b : LL}
end Go.Proofs.Ytjgpkljepgcekaa
namespace Go.Proofs.Ytjgpkljepgcekaa
/-! ### the words of a set of positions; the examples -/
variable {P M : Int} {mf : LI} {p m v g w : Nat} {C Ca Cb : Int} {X Y a b : LL}
end Go.Proofs.Ytjgpkljepgcekaa
namespace Go.Proofs.Ytjgpkljepgcekaa
/-! ### the dual of the dual; dimensions -/
variable {P M : Int} {mf : LI} {p m v g w : Nat} {C Ca Cb : Int} {X Y a b : LL}
end Go.Proofs.Ytjgpkljepgcekaa
namespace Go.Proofs.Ytjgpkljepgcekaa
/-! ### dimensions -/
variable {P M : Int} {mf : LI} {p m v g w : Nat} {C Ca Cb : Int} {X Y a b : LL}
end Go.Proofs.Ytjgpkljepgcekaa
namespace Go.Proofs.Ytjgpkljepgcekaa
/-! ### package code and its reference -/
section
variable {P M : Int} {mf : LI} {p m v : Nat} {N C : Int} {X Y : LL}
theorem FV.mlen (h : FV P M mf p m v) : mf.length <= 1000 := by
 by_cases h1 : m = 1
 .rw [(h.m1 h1).1]; simp
 .rw [h.m2 h1, JS]; have h2 : 2 <= p := h.pr.two; have := Nat.lt_pow_self (n := m) (show 1 < p by omega); have := h.q; omega
theorem Jir {n : Int} {Q : Bool -> Prop} (h : Q (decide (1 <= n /\ n <= 64))) : Y9 n Q := by
 refine ⟨fun h1 => ?_, fun h1 => ?_⟩
 .have e : decide (1 <= n /\ n <= 64) = decide (n <= 64) := by simp [h1]
  rw [<- e]; exact h
 .have e : decide (1 <= n /\ n <= 64) = false := by simp [h1]
  rw [<- e]; exact h
theorem Jgj {mm : LL} {e : Int} {Q : Option LI × Int -> Prop} (he : e ≠ 0) (h : Q (none, e)) : Jbq P M mf C mm e Q := ⟨fun _ => h, fun hh => absurd he hh⟩
theorem Joa {mm : LL} {Q : Option LI × Int -> Prop} (hm : mf.length <= 1000) (h : Q (some mf, 0)) : Jbq P M mf C mm 0 Q := ⟨fun hh => absurd rfl hh, fun _ => Jaf (by omega) h⟩
/-- the error of New -/
noncomputable def nck (P M : Int) (mf : LI) (C : Int) (X : LL) : Int := if mck P M mf C X ≠ 0 then mck P M mf C X else if 1 <= C /\ C <= 64 then 0 else 4
theorem w_cNew {Q : Int × Int × LI × Int × LL × Int -> Prop} (h0 : nck P M mf C X ≠ 0 -> Q (0, 0, [], 0, [], nck P M mf C X))
  (h : ∀ p m v, FV P M mf p m v -> shp C X -> Els p m X -> 1 <= C /\ C <= 64 -> Q (P, M, mf, C, JW p m v C X, 0)) : Jgh P M mf C X Q := by
 unfold nck at h0; refine Jgn (fun hb => ⟨fun hh => absurd hh hb, fun _ => Jgj hb ?_⟩) fun p m v hF hs he hz => ⟨fun _ => Jir ?_, fun hh => absurd rfl hh⟩
 .rw [if_pos hb] at h0; exact h0 hb
 .rw [if_neg (fun hh => hh hz)] at h0; by_cases h1 : 1 <= C /\ C <= 64
  .refine ⟨fun z => z = 0, ⟨fun hh => by simp [h1] at hh, fun _ => rfl⟩, ?_⟩; rintro _ rfl; exact Joa hF.mlen (h p m v hF hs he h1)
  .refine ⟨fun z => z = 4, ⟨fun _ => rfl, fun hh => by simp [h1] at hh⟩, ?_⟩; rintro _ rfl; rw [if_neg h1] at h0; exact Jgj (by decide) (h0 (by decide))
theorem Jme {Q : Int × Int × LI -> Prop} (hm : mf.length <= 1000) (h : Q (P, M, mf)) : ZL P M mf Q := ⟨by omega, h⟩
theorem Jn5 {Q : Int × Int × LI × Int × LL -> Prop} (hF : FV P M mf p m v) (hs : shp C X) (he : Els p m X) (h : Q (P, M, mf, C, JW p m v C X)) : Jax P M mf X C Q :=
 Jn7 hF hs he (Jme hF.mlen h)
theorem Jn6 {P' M' : Int} {mg : LI} {Q : Bool -> Prop} (hl : mf.length <= 1000000) (h1 : P = P' -> M = M' -> mf = mg -> Q true) (h2 : ¬ (P = P' /\ M = M' /\ mf = mg) -> Q false) : Jay P M mf P' M' mg Q := by
 refine ⟨fun h => h2 fun e => h e.1, fun hP => ⟨fun h => h2 fun e => h e.2.1, fun hM => ⟨fun h => h2 fun e => h (by rw [e.2.2]), fun hL => ?_⟩⟩⟩; have hP := Classical.not_not.1 hP; have hM := Classical.not_not.1 hM; have hL : mf.length = mg.length := by have := Classical.not_not.1 hL; omega
 refine ⟨fun z => ∃ t : Nat, z = t /\ t <= mf.length /\ ∀ j, j < t -> vo mf j = vo mg j, fun z => (mf.length - z).toNat, ⟨0, rfl, Nat.zero_le _, fun j hj => absurd hj (Nat.not_lt_zero j)⟩, ?_⟩; rintro _ ⟨t, rfl, ht, hj⟩; dsimp only; refine ⟨fun hlt => ⟨⟨by omega, by omega⟩, ⟨by omega, by omega⟩, fun hne => h2 fun e => hne (by rw [e.2.2]), fun heq => ⟨Jq (by omega) (by omega), ⟨t + 1, by push_cast; rfl, by omega, fun j hj' => ?_⟩, by omega⟩⟩, fun hge => h1 hP hM ?_⟩
 .rcases Nat.lt_or_ge j t with h | h
  .exact hj j h
  .have : j = t := by omega
   subst this; exact Classical.not_not.1 heq
 .refine List.ext_getElem hL fun i i1 i2 => ?_; have := hj i (by omega); unfold vo at this
  rwa [List.getD_eq_getElem?_getD, List.getElem?_eq_getElem i1, List.getD_eq_getElem?_getD, List.getElem?_eq_getElem i2] at this
/-- a code compared with itself -/
theorem ZR {Q : Bool -> Prop} (hm : mf.length <= 1000000) (hX : X.length <= 1000000) (hr : ∀ t, t < X.length -> (row X t).length <= 1000000) (h : Q true) : Zx P M mf N X P M mf N X Q :=
  Jn6 hm (fun _ _ _ => ⟨fun _ => ⟨fun _ => Jev hX hr (fun _ => h) (fun hh => absurd rfl hh), fun hh => absurd rfl hh⟩, fun hh => by cases hh⟩) (fun hh => absurd ⟨rfl, rfl, rfl⟩ hh)
theorem Jd0 {Q : Bool -> Prop} (h : Q true) : Zx 0 0 [] 0 [] 0 0 [] 0 [] Q := ZR (by simp) (by simp) (fun t ht => absurd ht (Nat.not_lt_zero t)) h
theorem Jdz {e : Int} {Q : Bool -> Prop} (hm : mf.length <= 1000000) (hX : X.length <= 1000000) (hr : ∀ t, t < X.length -> (row X t).length <= 1000000) (h : Q true) : Zw P M mf N X e P M mf N X e Q :=
 ⟨fun _ => ZR hm hX hr h, fun hh => absurd rfl hh⟩
theorem Jdy {e : Int} {Q : Bool -> Prop} (h : Q true) : Zw 0 0 [] 0 [] e 0 0 [] 0 [] e Q := ⟨fun _ => Jd0 h, fun hh => absurd rfl hh⟩
theorem Jow (hs : shp C X) : X.length <= 1000000 /\ ∀ t, t < X.length -> (row X t).length <= 1000000 :=
 ⟨by have := Jk0 hs; omega, fun t ht => by rw [Jah hs ht]; have := shp_C hs; omega⟩
end
end Go.Proofs.Ytjgpkljepgcekaa
namespace Go.Proofs.Ytjgpkljepgcekaa
/-! ### monomials, lists compared -/
section
/-- the mask of the first i variables -/
def msk (l : LI) (i : Nat) : Nat := (l.take i).foldl (fun a v => a ||| 2 ^ v.toNat) 0
theorem Jhf {l : LI} {i : Nat} (h : i < l.length) : msk l (i + 1) = msk l i ||| 2 ^ (vo l i).toNat := by
 unfold msk vo; rw [List.take_add_one, List.foldl_append, List.getElem?_eq_getElem h, List.getD_eq_getElem?_getD, List.getElem?_eq_getElem h]; rfl
theorem Jji {l : LI} {m : Nat} : ∀ i, i <= l.length -> (∀ j, j < i -> 0 <= vo l j /\ vo l j < (m : Int)) -> msk l i < 2 ^ m
 | 0, _, _ => by simp only [msk, List.take_zero, List.foldl_nil]; exact Nat.pos_of_ne_zero (by simp)
 | i + 1, hi, h => by
  rw [Jhf (by omega)]; have := h i (by omega); refine Nat.or_lt_two_pow (Jji i (by omega) fun j hj => h j (by omega)) ?_; exact Nat.pow_lt_pow_right (by omega) (by omega)
/-- the values of a monomial at all points -/
def evl (m : Nat) (l : LI) : LI := (List.range (2 ^ m)).map fun x => if x &&& msk l l.length = msk l l.length then 1 else 0
theorem Jhh {x : Nat} (h : x <= 6) : QJ 1 (x : Int) = ((2 ^ x : Nat) : Int) := by
 unfold QJ; rw [Int.toNat_natCast, show min x IntKind.i64.bits = x from Nat.min_eq_left (by show x <= 64; omega)]; simp
theorem pow6 {x : Nat} (h : x <= 6) : 1 <= 2 ^ x /\ 2 ^ x <= 64 := ⟨Nat.one_le_two_pow, Nat.pow_le_pow_right (by omega) h⟩
theorem Jgk {m : Nat} {l : LI} {Q : LI -> Prop} (hm : m <= 6) (hl : l.length <= 1000000) (hv : ∀ j, j < l.length -> 0 <= vo l j /\ vo l j < (m : Int)) (h : Q (evl m l)) : Yy (m : Int) l Q := by
 refine ⟨fun x z => ∃ i : Nat, z = i /\ i <= l.length /\ x = ((msk l i : Nat) : Int), fun _ z => (l.length - z).toNat, ⟨0, rfl, Nat.zero_le _, rfl⟩, ?_⟩; rintro _ _ ⟨i, rfl, hi, rfl⟩; dsimp only; have hp := pow6 hm; refine ⟨fun hlt => ?_, fun hge => ?_⟩
 .have hb := hv i (by omega); obtain ⟨y, hy⟩ := Int.eq_ofNat_of_zero_le hb.1; have hg : gi l (i : Int) = (y : Int) := hy; have hy6 : y <= 6 := by omega
  have hp2 := pow6 hy6; have hk := Jji (m := m) i hi fun j hj => hv j (by omega); rw [hg, Jhh hy6]; refine ⟨⟨by omega, by omega⟩, ⟨by omega, Jq (by omega) (by omega)⟩, ⟨by omega, by omega, by omega, by omega⟩, Jq (by omega) (by omega), ⟨i + 1, by push_cast; rfl, by omega, ?_⟩, by omega⟩; rw [Jhf (by omega), hy]; simp only [ior, Int.toNat_natCast]
 obtain rfl : i = l.length := by omega
 have hk := Jji (m := m) l.length (Nat.le_refl _) hv; rw [Jhh hm]; refine ⟨⟨by omega, Jq (by omega) (by omega)⟩, ⟨by omega, by omega, by omega⟩, fun x z => ∃ k : Nat, z = k /\ k <= 2 ^ m /\ x.length = 2 ^ m /\ ∀ j, j < 2 ^ m -> vo x j = if j < k /\ j &&& msk l l.length = msk l l.length then 1 else 0, fun _ z => ((2 ^ m : Nat) - z).toNat, ⟨0, rfl, Nat.zero_le _, by rw [List.length_replicate, Int.toNat_natCast], fun j hj => ?_⟩, ?_⟩
 .rw [if_neg (by omega)]; unfold vo; rw [List.getD_eq_getElem?_getD, List.getElem?_replicate]; split <;> rfl
 rintro x _ ⟨k, rfl, hk2, hx, hx2⟩; dsimp only; refine ⟨fun hlt => ?_, fun hge => ?_⟩
 .refine ⟨fun y => y.length = 2 ^ m /\ ∀ j, j < 2 ^ m -> vo y j = if j < k + 1 /\ j &&& msk l l.length = msk l l.length then 1 else 0, ⟨⟨by omega, by omega, by omega, by omega⟩, fun he => ⟨⟨by omega, by omega⟩, ?_, fun j hj => ?_⟩, fun hne => ⟨hx, fun j hj => ?_⟩⟩, ?_⟩
  .rw [Qh, List.length_set]; exact hx
  .have he' : k &&& msk l l.length = msk l l.length := by
    simp only [Jjn, Int.toNat_natCast] at he; omega
   rw [Qh, J8, hx2 j hj]; by_cases e : k = j
   .subst e; rw [if_pos ⟨rfl, by omega⟩, if_pos ⟨by omega, he'⟩]
   .rw [if_neg (fun hh => e hh.1)]; by_cases e2 : j &&& msk l l.length = msk l l.length
    .by_cases e3 : j < k
     .rw [if_pos ⟨e3, e2⟩, if_pos ⟨by omega, e2⟩]
     .rw [if_neg (fun hh => e3 hh.1), if_neg (fun hh => by omega)]
    .rw [if_neg (fun hh => e2 hh.2), if_neg (fun hh => e2 hh.2)]
  .have hne' : ¬ k &&& msk l l.length = msk l l.length := fun e => hne (by simp only [Jjn, Int.toNat_natCast]; omega); rw [hx2 j hj]; by_cases e2 : j &&& msk l l.length = msk l l.length
   .have : j ≠ k := fun e => hne' (e ▸ e2); by_cases e3 : j < k
    .rw [if_pos ⟨e3, e2⟩, if_pos ⟨by omega, e2⟩]
    .rw [if_neg (fun hh => e3 hh.1), if_neg (fun hh => by omega)]
   .rw [if_neg (fun hh => e2 hh.2), if_neg (fun hh => e2 hh.2)]
  .rintro y ⟨h1, h2⟩; exact ⟨Jq (by omega) (by omega), ⟨k + 1, by push_cast; rfl, by omega, h1, h2⟩, by omega⟩
 have hk3 : k = 2 ^ m := by omega
 subst hk3; have e : x = evl m l := by
  refine List.ext_getElem (by simp [evl, hx]) fun j h1 h2 => ?_; have := hx2 j (by omega); unfold vo at this; rw [List.getD_eq_getElem?_getD, List.getElem?_eq_getElem h1] at this; simp only [Option.getD_some] at this; rw [this]; simp only [evl, List.getElem_map, List.getElem_range]; by_cases e2 : j &&& msk l l.length = msk l l.length
  .rw [if_pos ⟨by omega, e2⟩, if_pos e2]
  .rw [if_neg (fun hh => e2 hh.2), if_neg e2]
 rw [e]; exact h
theorem Jis {m : Int} {l : LI} {Q : LI × Int -> Prop} (h6 : ¬ (0 <= m /\ m <= 6) -> Q ([], 6)) (h5 : 0 <= m /\ m <= 6 -> ¬ Asc m.toNat l -> Q ([], 5)) (h0 : 0 <= m /\ m <= 6 -> Asc m.toNat l -> Q (evl m.toNat l, 0)) : Zb m l Q := by
 refine ⟨fun hh => h6 (by omega), fun h1 => ⟨fun hh => h6 (by omega), fun h2 => ?_⟩⟩; obtain ⟨n, rfl⟩ := Int.eq_ofNat_of_zero_le (show 0 <= m by omega); have hn : n <= 6 := by omega
 rw [Int.toNat_natCast] at h5 h0; have h5 := h5 ⟨by omega, by omega⟩; have h0 := h0 ⟨by omega, by omega⟩; refine ⟨fun z t => ∃ i : Nat, t = i /\ i <= l.length /\ (i : Int) <= z + 1 /\ z < (n : Int) /\ (∀ j, j < i -> 0 <= vo l j /\ vo l j <= z) /\ (∀ a b, a < b -> b < i -> vo l a < vo l b) /\ (0 < i -> z = vo l (i - 1)) /\ -1 <= z /\ (i = 0 -> z = -1), fun _ t => (l.length - t).toNat, ⟨0, rfl, Nat.zero_le _, by omega, by omega, fun j hj => absurd hj (Nat.not_lt_zero _), fun a b _ hb => absurd hb (Nat.not_lt_zero _), fun hh => absurd hh (Nat.lt_irrefl 0), by omega, fun _ => rfl⟩, ?_⟩; rintro z _ ⟨i, rfl, hi, hiz, hzn, ha, hb, hc, hz1, hz0⟩; dsimp only; refine ⟨fun hlt => ⟨⟨by omega, by omega⟩, fun hle => h5 fun hA => ?_, fun hgt => ⟨fun hge => h5 fun hA => ?_, fun hlt2 => ⟨Jq (by omega) (by omega), ⟨i + 1, by push_cast; rfl, by omega, ?_, ?_, fun j hj => ?_, fun a b hab hbi => ?_, fun _ => rfl, ?_, fun hh => absurd hh (Nat.succ_ne_zero _)⟩, by omega⟩⟩⟩, fun hge => ?_⟩
 .have hle' : vo l i <= z := hle; have := hA.1 i (by omega); rcases Nat.eq_zero_or_pos i with e | e
  .have := hz0 e; omega
  .have h1 := hc e; have := hA.2 (i - 1) i (by omega) (by omega); omega
 .have hge' : (n : Int) <= vo l i := hge; have := hA.1 i (by omega); omega
 .have hgt' : ¬ vo l i <= z := hgt; show ((i + 1 : Nat) : Int) <= vo l i + 1; omega
 .have hlt' : ¬ (n : Int) <= vo l i := hlt2; show vo l i < (n : Int)
  omega
 .have hgt' : ¬ vo l i <= z := hgt; show 0 <= vo l j /\ vo l j <= vo l i; rcases Nat.lt_or_ge j i with e | e
  .have := ha j e; omega
  .obtain rfl : j = i := by omega
   omega
 .have hgt' : ¬ vo l i <= z := hgt; rcases Nat.lt_or_ge b i with e | e
  .exact hb a b hab e
  .obtain rfl : b = i := by omega
   have := ha a hab; omega
 .have hgt' : ¬ vo l i <= z := hgt; show -1 <= vo l i; omega
 obtain rfl : i = l.length := by omega
 exact Jgk hn (by omega) (fun j hj => by have := ha j hj; omega) (h0 ⟨fun j hj => by have := ha j hj; omega, hb⟩)
theorem asc01 : Asc (2 : Int).toNat [0, 1] := by
 refine ⟨fun i hi => ?_, fun i j hij hj => ?_⟩
 .match i, hi with
  | 0, _ => exact ⟨by decide, by decide⟩
  | 1, _ => exact ⟨by decide, by decide⟩
 .have hj' : j < 2 := hj; obtain rfl : j = 1 := by omega
  obtain rfl : i = 0 := by omega
  decide
theorem Jd8 {Q : Bool -> Prop} (h : Q true) : YP Q := by
 refine Jis (fun hh => absurd ⟨by decide, by decide⟩ hh) (fun _ hh => absurd asc01 hh) fun _ _ => ?_; have e : evl (2 : Int).toNat [0, 1] = [0, 0, 0, 1] := by decide
 rw [e]; exact ⟨fun _ => ⟨fun _ => ⟨⟨by decide, by decide⟩, fun _ => ⟨⟨by decide, by decide⟩, fun _ => ⟨⟨by decide, by decide⟩, fun _ => ⟨⟨by decide, by decide⟩, h⟩, fun hh => absurd rfl hh⟩, fun hh => absurd rfl hh⟩, fun hh => absurd rfl hh⟩, fun hh => absurd rfl hh⟩, fun hh => absurd rfl hh⟩
end
end Go.Proofs.Ytjgpkljepgcekaa
namespace Go.Proofs.Ytjgpkljepgcekaa
/-! ### the points of a projective space -/
section
variable {P M : Int} {mf : LI} {p m v g : Nat} {F : GFv}
/-- how many points there are -/
def cnt (q : Nat) : Nat -> Nat
  | 0 => 0
  | r + 1 => cnt q r * q + 1
end
end Go.Proofs.Ytjgpkljepgcekaa
namespace Go.Proofs.Ytjgpkljepgcekaa
/-! ### the reference's points; the law of points -/
section
variable {P M : Int} {mf : LI} {p m v g : Nat} {F : GFv}
end
end Go.Proofs.Ytjgpkljepgcekaa
namespace Go.Proofs.Ytjgpkljepgcekaa
/-! ### Jq primes; quadratic residue codes -/
section
def lst (n : Nat) : Nat := if n % 2 = 0 then 2 else if n % 3 = 0 then 3 else if n % 5 = 0 then 5 else if n % 7 = 0 then 7 else if n % 11 = 0 then 11 else if n % 13 = 0 then 13 else if n % 17 = 0 then 17 else if n % 19 = 0 then 19 else if n % 23 = 0 then 23 else if n % 29 = 0 then 29 else if n % 31 = 0 then 31 else n
theorem tm0 {n d : Nat} : ((n : Int).tmod (d : Int) = 0) ↔ n % d = 0 := by rw [Ze]; omega
theorem Jn9 {n : Nat} {Q : Int -> Prop} (h1 : 2 <= n) (h2 : n <= 64) (h : Q ((lst n : Nat) : Int)) : Ja2 (n : Int) Q := by
 refine ⟨fun z => (z = 0) ∨ (z = 1 /\ n % 2 ≠ 0) ∨ (z = 2 /\ n % 2 ≠ 0 /\ n % 3 ≠ 0) ∨ (z = 3 /\ n % 2 ≠ 0 /\ n % 3 ≠ 0 /\ n % 5 ≠ 0), fun z => (3 - z).toNat, .inl rfl, ?_⟩; intro z hz; rcases hz with rfl | ⟨rfl, g2⟩ | ⟨rfl, g2, g3⟩ | ⟨rfl, g2, g3, g5⟩
 .refine ⟨fun _ => ⟨⟨by decide, by decide⟩, by decide, fun he => ?_, fun hne => ⟨Jq (by decide) (by decide), ?_, by decide⟩⟩, fun hh => absurd (by decide) hh⟩
  .have hd : n % 2 = 0 := tm0.1 he; have e : lst n = 2 := by unfold lst; simp [hd]
   rw [e] at h; exact h
  .have hd : n % 2 ≠ 0 := fun hh => hne (tm0.2 hh); exact .inr (.inl (⟨rfl, hd⟩))
 .refine ⟨fun _ => ⟨⟨by decide, by decide⟩, by decide, fun he => ?_, fun hne => ⟨Jq (by decide) (by decide), ?_, by decide⟩⟩, fun hh => absurd (by decide) hh⟩
  .have hd : n % 3 = 0 := tm0.1 he; have e : lst n = 3 := by unfold lst; rw [if_neg g2]; simp [hd]
   rw [e] at h; exact h
  .have hd : n % 3 ≠ 0 := fun hh => hne (tm0.2 hh); exact .inr (.inr (.inl (⟨rfl, g2, hd⟩)))
 .refine ⟨fun _ => ⟨⟨by decide, by decide⟩, by decide, fun he => ?_, fun hne => ⟨Jq (by decide) (by decide), ?_, by decide⟩⟩, fun hh => absurd (by decide) hh⟩
  .have hd : n % 5 = 0 := tm0.1 he; have e : lst n = 5 := by unfold lst; rw [if_neg g2, if_neg g3]; simp [hd]
   rw [e] at h; exact h
  .have hd : n % 5 ≠ 0 := fun hh => hne (tm0.2 hh); exact .inr (.inr (.inr (⟨rfl, g2, g3, hd⟩)))
 .refine ⟨fun hh => absurd hh (by decide), fun _ => ⟨fun x => x = ((lst n : Nat) : Int), ⟨fun z => z = 0 ∨ (z = 30 /\ n % 7 ≠ 0 /\ n % 11 ≠ 0 /\ n % 13 ≠ 0 /\ n % 17 ≠ 0 /\ n % 19 ≠ 0 /\ n % 23 ≠ 0 /\ n % 29 ≠ 0 /\ n % 31 ≠ 0), fun z => (31 - z).toNat, .inl rfl, ?_⟩, ?_⟩⟩
  .intro z hz; rcases hz with rfl | ⟨rfl, k7, k11, k13, k17, k19, k23, k29, k31⟩
   .refine ⟨Jq (by decide) (by decide), fun _ => ⟨fun z => (z = 0) ∨ (z = 1 /\ n % 7 ≠ 0) ∨ (z = 2 /\ n % 7 ≠ 0 /\ n % 11 ≠ 0) ∨ (z = 3 /\ n % 7 ≠ 0 /\ n % 11 ≠ 0 /\ n % 13 ≠ 0) ∨ (z = 4 /\ n % 7 ≠ 0 /\ n % 11 ≠ 0 /\ n % 13 ≠ 0 /\ n % 17 ≠ 0) ∨ (z = 5 /\ n % 7 ≠ 0 /\ n % 11 ≠ 0 /\ n % 13 ≠ 0 /\ n % 17 ≠ 0 /\ n % 19 ≠ 0) ∨ (z = 6 /\ n % 7 ≠ 0 /\ n % 11 ≠ 0 /\ n % 13 ≠ 0 /\ n % 17 ≠ 0 /\ n % 19 ≠ 0 /\ n % 23 ≠ 0) ∨ (z = 7 /\ n % 7 ≠ 0 /\ n % 11 ≠ 0 /\ n % 13 ≠ 0 /\ n % 17 ≠ 0 /\ n % 19 ≠ 0 /\ n % 23 ≠ 0 /\ n % 29 ≠ 0) ∨ (z = 8 /\ n % 7 ≠ 0 /\ n % 11 ≠ 0 /\ n % 13 ≠ 0 /\ n % 17 ≠ 0 /\ n % 19 ≠ 0 /\ n % 23 ≠ 0 /\ n % 29 ≠ 0 /\ n % 31 ≠ 0), fun z => (8 - z).toNat, .inl rfl, ?_⟩, fun hh => absurd (by omega) hh⟩; intro z hz; rcases hz with rfl | ⟨rfl, k7⟩ | ⟨rfl, k7, k11⟩ | ⟨rfl, k7, k11, k13⟩ | ⟨rfl, k7, k11, k13, k17⟩ | ⟨rfl, k7, k11, k13, k17, k19⟩ | ⟨rfl, k7, k11, k13, k17, k19, k23⟩ | ⟨rfl, k7, k11, k13, k17, k19, k23, k29⟩ | ⟨rfl, k7, k11, k13, k17, k19, k23, k29, k31⟩
    .refine ⟨fun _ => ⟨⟨by decide, by decide⟩, Jq (by decide) (by decide), by decide, fun he => ⟨Jq (by decide) (by decide), ?_⟩, fun hne => ⟨Jq (by decide) (by decide), ?_, by decide⟩⟩, fun hh => absurd (by decide) hh⟩
     .have hd : n % 7 = 0 := tm0.1 he; have e : lst n = 7 := by unfold lst; rw [if_neg g2, if_neg g3, if_neg g5]; simp [hd]
      rw [e]; rfl
     .have hd : n % 7 ≠ 0 := fun hh => hne (tm0.2 hh); exact .inr (.inl (⟨rfl, hd⟩))
    .refine ⟨fun _ => ⟨⟨by decide, by decide⟩, Jq (by decide) (by decide), by decide, fun he => ⟨Jq (by decide) (by decide), ?_⟩, fun hne => ⟨Jq (by decide) (by decide), ?_, by decide⟩⟩, fun hh => absurd (by decide) hh⟩
     .have hd : n % 11 = 0 := tm0.1 he; have e : lst n = 11 := by unfold lst; rw [if_neg g2, if_neg g3, if_neg g5, if_neg k7]; simp [hd]
      rw [e]; rfl
     .have hd : n % 11 ≠ 0 := fun hh => hne (tm0.2 hh); exact .inr (.inr (.inl (⟨rfl, k7, hd⟩)))
    .refine ⟨fun _ => ⟨⟨by decide, by decide⟩, Jq (by decide) (by decide), by decide, fun he => ⟨Jq (by decide) (by decide), ?_⟩, fun hne => ⟨Jq (by decide) (by decide), ?_, by decide⟩⟩, fun hh => absurd (by decide) hh⟩
     .have hd : n % 13 = 0 := tm0.1 he; have e : lst n = 13 := by unfold lst; rw [if_neg g2, if_neg g3, if_neg g5, if_neg k7, if_neg k11]; simp [hd]
      rw [e]; rfl
     .have hd : n % 13 ≠ 0 := fun hh => hne (tm0.2 hh); exact .inr (.inr (.inr (.inl (⟨rfl, k7, k11, hd⟩))))
    .refine ⟨fun _ => ⟨⟨by decide, by decide⟩, Jq (by decide) (by decide), by decide, fun he => ⟨Jq (by decide) (by decide), ?_⟩, fun hne => ⟨Jq (by decide) (by decide), ?_, by decide⟩⟩, fun hh => absurd (by decide) hh⟩
     .have hd : n % 17 = 0 := tm0.1 he; have e : lst n = 17 := by unfold lst; rw [if_neg g2, if_neg g3, if_neg g5, if_neg k7, if_neg k11, if_neg k13]; simp [hd]
      rw [e]; rfl
     .have hd : n % 17 ≠ 0 := fun hh => hne (tm0.2 hh); exact .inr (.inr (.inr (.inr (.inl (⟨rfl, k7, k11, k13, hd⟩)))))
    .refine ⟨fun _ => ⟨⟨by decide, by decide⟩, Jq (by decide) (by decide), by decide, fun he => ⟨Jq (by decide) (by decide), ?_⟩, fun hne => ⟨Jq (by decide) (by decide), ?_, by decide⟩⟩, fun hh => absurd (by decide) hh⟩
     .have hd : n % 19 = 0 := tm0.1 he; have e : lst n = 19 := by unfold lst; rw [if_neg g2, if_neg g3, if_neg g5, if_neg k7, if_neg k11, if_neg k13, if_neg k17]; simp [hd]
      rw [e]; rfl
     .have hd : n % 19 ≠ 0 := fun hh => hne (tm0.2 hh); exact .inr (.inr (.inr (.inr (.inr (.inl (⟨rfl, k7, k11, k13, k17, hd⟩))))))
    .refine ⟨fun _ => ⟨⟨by decide, by decide⟩, Jq (by decide) (by decide), by decide, fun he => ⟨Jq (by decide) (by decide), ?_⟩, fun hne => ⟨Jq (by decide) (by decide), ?_, by decide⟩⟩, fun hh => absurd (by decide) hh⟩
     .have hd : n % 23 = 0 := tm0.1 he; have e : lst n = 23 := by unfold lst; rw [if_neg g2, if_neg g3, if_neg g5, if_neg k7, if_neg k11, if_neg k13, if_neg k17, if_neg k19]; simp [hd]
      rw [e]; rfl
     .have hd : n % 23 ≠ 0 := fun hh => hne (tm0.2 hh); exact .inr (.inr (.inr (.inr (.inr (.inr (.inl (⟨rfl, k7, k11, k13, k17, k19, hd⟩)))))))
    .refine ⟨fun _ => ⟨⟨by decide, by decide⟩, Jq (by decide) (by decide), by decide, fun he => ⟨Jq (by decide) (by decide), ?_⟩, fun hne => ⟨Jq (by decide) (by decide), ?_, by decide⟩⟩, fun hh => absurd (by decide) hh⟩
     .have hd : n % 29 = 0 := tm0.1 he; have e : lst n = 29 := by unfold lst; rw [if_neg g2, if_neg g3, if_neg g5, if_neg k7, if_neg k11, if_neg k13, if_neg k17, if_neg k19, if_neg k23]; simp [hd]
      rw [e]; rfl
     .have hd : n % 29 ≠ 0 := fun hh => hne (tm0.2 hh); exact .inr (.inr (.inr (.inr (.inr (.inr (.inr (.inl (⟨rfl, k7, k11, k13, k17, k19, k23, hd⟩))))))))
    .refine ⟨fun _ => ⟨⟨by decide, by decide⟩, Jq (by decide) (by decide), by decide, fun he => ⟨Jq (by decide) (by decide), ?_⟩, fun hne => ⟨Jq (by decide) (by decide), ?_, by decide⟩⟩, fun hh => absurd (by decide) hh⟩
     .have hd : n % 31 = 0 := tm0.1 he; have e : lst n = 31 := by unfold lst; rw [if_neg g2, if_neg g3, if_neg g5, if_neg k7, if_neg k11, if_neg k13, if_neg k17, if_neg k19, if_neg k23, if_neg k29]; simp [hd]
      rw [e]; rfl
     .have hd : n % 31 ≠ 0 := fun hh => hne (tm0.2 hh); exact .inr (.inr (.inr (.inr (.inr (.inr (.inr (.inr (⟨rfl, k7, k11, k13, k17, k19, k23, k29, hd⟩))))))))
    .exact ⟨fun hh => absurd hh (by decide), fun _ => ⟨Jq (by decide) (by decide), .inr ⟨rfl, k7, k11, k13, k17, k19, k23, k29, k31⟩, by decide⟩⟩
   .refine ⟨Jq (by decide) (by decide), fun hh => by omega, fun _ => ?_⟩; have e : lst n = n := by unfold lst; rw [if_neg g2, if_neg g3, if_neg g5, if_neg k7, if_neg k11, if_neg k13, if_neg k17, if_neg k19, if_neg k23, if_neg k29, if_neg k31]
    rw [e]
  .rintro _ rfl; exact h
/-- the lengths of quadratic residue codes -/
def isQ (n : Nat) : Bool := decide (3 <= n) && decide (n <= 64) && (decide (n % 8 = 1) || decide (n % 8 = 7)) && (List.range' 2 (n - 2)).all fun d => n % d != 0
theorem Jr7 : (List.range' 2 63).all (fun n => decide (lst n = n) == ((List.range' 2 (n - 2)).all fun d => n % d != 0)) = true := by decide +kernel
end
end Go.Proofs.Ytjgpkljepgcekaa
namespace Go.Proofs.Ytjgpkljepgcekaa
section
variable {P M : Int} {mf : LI} {p m v : Nat} {N C r : Int} {X Y : LL}
theorem Jk3 {n : Nat} (h1 : 2 <= n) (h2 : n <= 64) : lst n = n ↔ ((List.range' 2 (n - 2)).all fun d => n % d != 0) = true := by
 have := List.all_eq_true.1 Jr7 n (by rw [List.mem_range'_1]; omega); simp only [beq_iff_eq] at this; rw [<- this]; simp
theorem Jrr {n : Int} {Q : Bool -> Prop} (h64 : n <= 64) (h : Q (decide (2 <= n /\ lst n.toNat = n.toNat))) : Jcr n Q := by
 refine ⟨fun h1 => ⟨fun _ => ?_, fun hh => absurd (by omega) hh⟩, fun h1 => ?_⟩
 .obtain ⟨k, rfl⟩ := Int.eq_ofNat_of_zero_le (show 0 <= n by omega); refine Jn9 (by omega) (by omega) ?_; rw [Int.toNat_natCast] at h; have e : decide (2 <= (k : Int) /\ lst k = k) = decide (((lst k : Nat) : Int) = (k : Int)) := by
   by_cases hl : lst k = k
   .rw [decide_eq_true ⟨h1, hl⟩, decide_eq_true (by omega)]
   .rw [decide_eq_false (fun hh => hl hh.2), decide_eq_false (by omega)]
  rw [<- e]; exact h
 .rw [decide_eq_false (fun hh => h1 hh.1)] at h; exact h
theorem Jgi {n : Int} {Q : Bool -> Prop} (h : Q (isQ n.toNat)) : Yx n Q := by
 have hno : ∀ b, isQ n.toNat = b -> Q b := fun b e => by rw [<- e]; exact h
 refine ⟨fun h1 => hno _ (by unfold isQ; rw [decide_eq_false (show ¬ 3 <= n.toNat by omega)]; rfl), fun h1 => ⟨fun h2 => hno _ (by unfold isQ; rw [decide_eq_false (show ¬ n.toNat <= 64 by omega)]; simp), fun h2 => ?_⟩⟩; obtain ⟨k, rfl⟩ := Int.eq_ofNat_of_zero_le (show 0 <= n by omega); rw [Int.toNat_natCast] at *
 have t8 : ((k : Int).tmod 8) = ((k % 8 : Nat) : Int) := Ze k 8; have loop : (k % 8 = 1 ∨ k % 8 = 7) -> ∃ (I : Int -> Prop) (μ : Int -> Nat), I (2 : Int) /\ ∀ (z : Int), (I z -> (((z < (k : Int)) -> ((z ≠ 0) /\ (((((k : Int).tmod z) = (0 : Int)) -> Q false) /\ (¬ (((k : Int).tmod z) = (0 : Int)) -> ((I64 (z + (1 : Int))) /\ (I (z + (1 : Int)) /\ μ (z + (1 : Int)) < μ z)))))) /\ (¬ (z < (k : Int)) -> Q true))) := fun h8 => by
  refine ⟨fun z => ∃ t : Nat, z = t /\ 2 <= t /\ t <= k /\ ∀ d, 2 <= d -> d < t -> k % d ≠ 0, fun z => (k - z).toNat, ⟨2, rfl, by omega, by omega, fun d a b => by omega⟩, ?_⟩; rintro _ ⟨t, rfl, ht, ht2, hd⟩; dsimp only; refine ⟨fun hlt => ⟨by omega, fun he => hno _ ?_, fun hne => ⟨Jq (by omega) (by omega), ⟨t + 1, by push_cast; rfl, by omega, by omega, fun d a b => ?_⟩, by omega⟩⟩, fun hge => hno _ ?_⟩
  .have h0 : k % t = 0 := tm0.1 he; unfold isQ; have : ((List.range' 2 (k - 2)).all fun d => k % d != 0) = false := by
    rw [List.all_eq_false]; exact ⟨t, by rw [List.mem_range'_1]; omega, by simp [h0]⟩
   rw [this]; simp
  .rcases Nat.lt_or_ge d t with h3 | h3
   .exact hd d a h3
   .obtain rfl : d = t := by omega
    exact fun hh => hne (tm0.2 hh)
  .have : ((List.range' 2 (k - 2)).all fun d => k % d != 0) = true := List.all_eq_true.2 fun d h3 => by
    rw [List.mem_range'_1] at h3; have := hd d h3.1 (by omega); simp [this]
   unfold isQ; rw [this, decide_eq_true (show 3 <= k by omega), decide_eq_true (show k <= 64 by omega)]; rcases h8 with h8 | h8 <;> simp [h8]
 refine ⟨fun h3 => ⟨fun h4 => hno _ ?_, fun h4 => loop (.inr ?_)⟩, fun h3 => loop (.inl ?_)⟩
 .rw [t8] at h3 h4; unfold isQ; rw [decide_eq_false (show ¬ k % 8 = 1 by omega), decide_eq_false (show ¬ k % 8 = 7 by omega)]; simp
 .rw [t8] at h4; omega
 .rw [t8] at h3; omega
/-- the list with ones at the squares -/
def sqs (n t : Nat) : LI := (List.range' 1 t).foldl (fun x i => x.set (i * i % n) 1) (List.replicate n 0)
theorem Je4 (n : Nat) : ∀ t, (sqs n t).length = n
 | 0 => by simp [sqs]
 | t + 1 => by
  have := Je4 n t; unfold sqs at *
  rw [List.range'_1_concat, List.foldl_append]
  simpa using this
theorem Jot (n t : Nat) : sqs n (t + 1) = (sqs n t).set ((1 + t) * (1 + t) % n) 1 := by
 unfold sqs; rw [List.range'_1_concat, List.foldl_append]; rfl
def sqI (n : Nat) (x : LI) (z : Int) : Prop := ∃ t : Nat, z = ((1 + t : Nat) : Int) /\ 1 + t <= n /\ x = sqs n t
theorem Jou {n : Nat} (h : 1 <= n) : sqI n (List.replicate n 0) 1 := ⟨0, rfl, by omega, rfl⟩
theorem sqI_s {n : Nat} {x : LI} {z : Int} (hn : n <= 64) (h : sqI n x z) (hz : z < (n : Nat)) :
  I64 (z * z) /\ (n : Int) ≠ 0 /\ (0 <= (z * z).tmod (n : Int) /\ (z * z).tmod (n : Int) < (n : Nat)) /\ I64 (z + 1) /\ sqI n (si x ((z * z).tmod (n : Int)) 1) (z + 1) := by
 obtain ⟨t, rfl, ht, rfl⟩ := h; have e : (((1 + t : Nat) : Int) * ((1 + t : Nat) : Int)) = (((1 + t) * (1 + t) : Nat) : Int) := by push_cast; rfl
 have hb : (1 + t) * (1 + t) <= 64 * 64 := Nat.mul_le_mul (by omega) (by omega); have hm := Nat.mod_lt ((1 + t) * (1 + t)) (show 0 < n by omega); rw [e, Ze]; exact ⟨Yh (by omega), by omega, ⟨by omega, Int.ofNat_lt.2 hm⟩, Jq (by omega) (by omega), t + 1, by push_cast; omega, by omega, by rw [Qh, Jot]⟩
/-- the word whose shifts generate the code -/
def qw (n : Nat) : LI := if n % 8 = 1 then (sqs n (n - 1)).set 0 1 else sqs n (n - 1)
theorem Ji7 (n : Nat) : (qw n).length = n := by unfold qw; split <;> simp [Je4]
def shf (l : LI) : LL := (List.range l.length).map fun i => l.drop i ++ l.take i
def rsf (l : LI) : LL := (List.range l.length).map fun k => (List.range l.length).foldl (fun x i => x.set ((i + k) % l.length) (vo l i)) (List.replicate l.length 0)
theorem Je6 {l : LI} {t : Nat} (h : t < l.length) : row (shf l) t = l.drop t ++ l.take t := Jce h
theorem Jmc {y : LI} {Q : Int × Int × LI × Int × LL × Int -> Prop} (hy : 1 <= y.length /\ y.length <= 64) (hF : FV P M mf p m v) (he : Els p m (shf y)) (h : Q (P, M, mf, (y.length : Int), JW p m v (y.length : Int) (shf y), 0)) : Yf P M mf y Q := by
 have hs : shp (y.length : Int) (shf y) := Ji0 ⟨by omega, by omega⟩ (by simp [shf]; omega) fun t ht => by
  have ht' : t < y.length := by simpa [shf] using ht
  rw [Je6 ht', Int.toNat_natCast, List.length_append, List.length_drop, List.length_take]; omega
 refine ⟨⟨by omega, by omega, by omega⟩, fun x z => ∃ i : Nat, z = i /\ i <= y.length /\ x.length = y.length /\ ∀ t, t < i -> row x t = y.drop t ++ y.take t, fun _ z => (y.length - z).toNat, ⟨0, rfl, Nat.zero_le _, by simp, fun t ht => absurd ht (Nat.not_lt_zero _)⟩, ?_⟩; rintro x _ ⟨i, rfl, hi, hx, hr⟩; dsimp only; refine ⟨fun hlt => ⟨⟨by omega, by omega⟩, ⟨by omega, by omega⟩, y.drop i ++ y.take i, ⟨?_, by simp, ?_⟩, ⟨by omega, by omega⟩, Jq (by omega) (by omega), ⟨i + 1, by push_cast; rfl, by omega, by show (x.set _ _).length = _; rw [List.length_set]; exact hx, fun t ht => ?_⟩, by omega⟩, fun hge => ?_⟩
 .simp; omega
 .simp
 .show row (x.set i _) t = _; rw [QV]; by_cases e : i = t
  .subst e; rw [if_pos ⟨rfl, by omega⟩]
  .rw [if_neg (fun hh => e hh.1)]; exact hr t (by omega)
 .have hi' : i = y.length := by omega
  have e : x = shf y := QN (by rw [hx]; simp [shf]) fun t ht => by rw [hr t (by omega), Je6 (by omega)]
  rw [e]; refine w_cNew (fun hh => ?_) fun p' m' v' hF' _ _ _ => ?_
  .unfold nck at hh; rw [Jpr ⟨p, m, v, hF⟩ hs ((Jap hF).2 he), if_neg (fun h => h rfl), if_pos (by omega)] at hh; exact absurd rfl hh
  .obtain ⟨rfl, rfl, rfl⟩ := hF.uniq3 hF'; exact h
theorem Jmd {y : LI} {Q : LL -> Prop} (hy : 1 <= y.length /\ y.length <= 64) (h : Q (rsf y)) : ZJ y Q := by
 refine ⟨fun x z => ∃ k : Nat, z = k /\ k <= y.length /\ x = (List.range k).map fun k => (List.range y.length).foldl (fun x i => x.set ((i + k) % y.length) (vo y i)) (List.replicate y.length 0), fun _ z => (y.length - z).toNat, ⟨0, rfl, Nat.zero_le _, rfl⟩, ?_⟩; rintro _ _ ⟨k, rfl, hk, rfl⟩; dsimp only; refine ⟨fun hlt => ⟨⟨by omega, by omega, by omega⟩, fun x z => ∃ j : Nat, z = j /\ j <= y.length /\ x = (List.range j).foldl (fun x i => x.set ((i + k) % y.length) (vo y i)) (List.replicate y.length 0), fun _ z => (y.length - z).toNat, ⟨0, rfl, Nat.zero_le _, by simp⟩, ?_⟩, fun hge => ?_⟩
 .rintro _ _ ⟨j, rfl, hj, rfl⟩; dsimp only; have e : ((j : Int) + (k : Int)).tmod (y.length : Int) = (((j + k) % y.length : Nat) : Int) := by
   rw [show (j : Int) + (k : Int) = ((j + k : Nat) : Int) by push_cast; rfl, Ze]
  have hm := Nat.mod_lt (j + k) (show 0 < y.length by omega); rw [e]; refine ⟨fun hlt2 => ⟨Jq (by omega) (by omega), by omega, ⟨by omega, by omega⟩, ⟨Int.natCast_nonneg _, by rw [Int.toNat_natCast]; exact Int.ofNat_lt.2 hm⟩, Jq (by omega) (by omega), ⟨j + 1, by push_cast; rfl, by omega, by rw [List.range_succ, List.foldl_append]; rfl⟩, by omega⟩, fun hge2 => ?_⟩; obtain rfl : j = y.length := by omega
  exact ⟨by simp; omega, Jq (by omega) (by omega), ⟨k + 1, by push_cast; rfl, by omega, by rw [List.range_succ, List.map_append]; rfl⟩, by omega⟩
 .have hk' : k = y.length := by omega
  rw [hk']; exact h
end
end Go.Proofs.Ytjgpkljepgcekaa
set_option maxRecDepth 100000
namespace Go.Proofs.Ytjgpkljepgcekaa
section
variable {P M : Int} {mf : LI} {p m v : Nat} {N C r : Int} {X Y : LL}
theorem Jst : (List.range 65).all (fun n => !isQ n || [7, 17, 23, 31, 41, 47].contains n) = true := by decide +kernel
theorem Jch {n : Nat} (h : isQ n = true) : n = 7 ∨ n = 17 ∨ n = 23 ∨ n = 31 ∨ n = 41 ∨ n = 47 := by
 have h64 : n <= 64 := by
  unfold isQ at h; simp only [Bool.and_eq_true, decide_eq_true_eq] at h; exact h.1.1.2
 have := List.all_eq_true.1 Jst n (by rw [List.mem_range]; omega); rw [h] at this
 simpa using this
def isb (X : LL) : Bool := X.all fun r => r.all fun x => decide (0 <= x) && decide (x < 2)
theorem Jcl (h : isb X = true) : Els 2 1 X := fun r hr x hx => by
 have h1 := List.all_eq_true.1 h r hr; have h2 := List.all_eq_true.1 h1 x hx; simp only [Bool.and_eq_true, decide_eq_true_eq] at h2; exact ⟨h2.1, h2.2⟩
def rot (l : LI) : Bool := (List.range l.length).all fun i => row (shf l) i == row (rsf l) ((l.length - i) % l.length)
theorem isb7 : isb (shf (qw 7)) = true /\ isb (rsf (qw 7)) = true /\ rot (qw 7) = true := by decide +kernel
theorem isb17 : isb (shf (qw 17)) = true /\ isb (rsf (qw 17)) = true /\ rot (qw 17) = true := by decide +kernel
theorem isb23 : isb (shf (qw 23)) = true /\ isb (rsf (qw 23)) = true /\ rot (qw 23) = true := by decide +kernel
theorem isb31 : isb (shf (qw 31)) = true /\ isb (rsf (qw 31)) = true /\ rot (qw 31) = true := by decide +kernel
theorem isb41 : isb (shf (qw 41)) = true /\ isb (rsf (qw 41)) = true /\ rot (qw 41) = true := by decide +kernel
theorem isb47 : isb (shf (qw 47)) = true /\ isb (rsf (qw 47)) = true /\ rot (qw 47) = true := by decide +kernel
theorem Jfq {n : Nat} (h : isQ n = true) : isb (shf (qw n)) = true /\ isb (rsf (qw n)) = true /\ rot (qw n) = true := by
 rcases Jch h with rfl | rfl | rfl | rfl | rfl | rfl
 .exact isb7
 .exact isb17
 .exact isb23
 .exact isb31
 .exact isb41
 .exact isb47
theorem dm7 : (JW 2 1 0 7 (shf (qw 7))).length = 4 := by decide +kernel
theorem dm17 : (JW 2 1 0 17 (shf (qw 17))).length = 9 := by decide +kernel
theorem dm23 : (JW 2 1 0 23 (shf (qw 23))).length = 12 := by decide +kernel
theorem dm31 : (JW 2 1 0 31 (shf (qw 31))).length = 16 := by decide +kernel
theorem dm41 : (JW 2 1 0 41 (shf (qw 41))).length = 21 := by decide +kernel
theorem dm47 : (JW 2 1 0 47 (shf (qw 47))).length = 24 := by decide +kernel
end
end Go.Proofs.Ytjgpkljepgcekaa
namespace Go.Proofs.Ytjgpkljepgcekaa
section
variable {P M : Int} {mf : LI} {p m v : Nat} {N C r : Int} {X Y : LL}
theorem dm_all {n : Nat} (h : isQ n = true) : 2 * (JW 2 1 0 (n : Int) (shf (qw n))).length = n + 1 := by
 rcases Jch h with rfl | rfl | rfl | rfl | rfl | rfl
 .have : (JW 2 1 0 ((7 : Nat) : Int) (shf (qw 7))).length = 4 := dm7; omega
 .have : (JW 2 1 0 ((17 : Nat) : Int) (shf (qw 17))).length = 9 := dm17; omega
 .have : (JW 2 1 0 ((23 : Nat) : Int) (shf (qw 23))).length = 12 := dm23; omega
 .have : (JW 2 1 0 ((31 : Nat) : Int) (shf (qw 31))).length = 16 := dm31; omega
 .have : (JW 2 1 0 ((41 : Nat) : Int) (shf (qw 41))).length = 21 := dm41; omega
 .have : (JW 2 1 0 ((47 : Nat) : Int) (shf (qw 47))).length = 24 := dm47; omega
theorem Jlo {f : (Nat -> Nat) -> Nat} (h : ∀ t, t < X.length -> ∃ s, s < Y.length /\ row X t = row Y s) (hY : Ann p m f Y) : Ann p m f X := fun t ht => by
 obtain ⟨s, hs, e⟩ := h t ht; rw [e]; exact hY s hs
theorem Jcc (l : LI) : (shf l).length = l.length := by simp [shf]
theorem Jcd (l : LI) : (rsf l).length = l.length := by simp [rsf]
theorem Jan {f : Nat -> Nat} {g : Nat -> Int} : ∀ (L : List Nat) (x : LI), (L.foldl (fun x i => x.set (f i) (g i)) x).length = x.length
 | [], x => rfl
 | i :: L, x => by rw [List.foldl_cons, Jan L]; simp
theorem Jk2 {l : LI} (h : 1 <= l.length /\ l.length <= 64) : shp (l.length : Int) (rsf l) := Ji0 ⟨by omega, by omega⟩ (by rw [Jcd]; omega) fun t ht => by
 rw [Jcd] at ht; rw [rsf, Jce ht, Jan, List.length_replicate, Int.toNat_natCast]
theorem Jk1 {l : LI} (h : 1 <= l.length /\ l.length <= 64) : shp (l.length : Int) (shf l) := Ji0 ⟨by omega, by omega⟩ (by rw [Jcc]; omega) fun t ht => by
 rw [Jcc] at ht; rw [Je6 ht, Int.toNat_natCast, List.length_append, List.length_drop, List.length_take]; omega
theorem Jr4 {l : LI} (h : 1 <= l.length /\ l.length <= 64) (h1 : isb (shf l) = true) (h2 : isb (rsf l) = true) (h3 : rot l = true) : JW 2 1 0 (l.length : Int) (shf l) = JW 2 1 0 (l.length : Int) (rsf l) := by
 have hr : ∀ i, i < l.length -> row (shf l) i = row (rsf l) ((l.length - i) % l.length) := fun i hi => by
  have := List.all_eq_true.1 h3 i (List.mem_range.2 hi)
  simpa using this
 refine (Jqc fv2 (Jk1 h) (Jcl h1) (Jk2 h) (Jcl h2) fun f L => ⟨Jlo fun t ht => ?_, Jlo fun t ht => ?_⟩).2
 .rw [Jcd] at ht; refine ⟨(l.length - t) % l.length, by rw [Jcc]; exact Nat.mod_lt _ (by omega), ?_⟩; rw [hr _ (Nat.mod_lt _ (by omega))]
  congr 1
  rcases Nat.eq_zero_or_pos t with e | e
  .subst e; simp
  .rw [Nat.mod_eq_of_lt (show l.length - t < l.length by omega), Nat.mod_eq_of_lt (by omega)]; omega
 .rw [Jcc] at ht; exact ⟨_, by rw [Jcd]; exact Nat.mod_lt _ (by omega), hr t ht⟩
theorem Jmf {n : Int} {Q : Int × Int × LI × Int × LL × Int -> Prop} (h6 : isQ n.toNat = false -> Q (0, 0, [], 0, [], 6)) (h : isQ n.toNat = true -> 7 <= n /\ n <= 64 -> Q (2, 1, [], n, JW 2 1 0 n (shf (qw n.toNat)), 0)) : ZO n Q := by
 refine ⟨fun hh => h6 (by unfold isQ; rw [decide_eq_false (show ¬ n.toNat <= 64 by omega)]; simp), fun h64 => Jrr (by omega) ⟨fun hh => h6 ?_, fun hp => ?_⟩⟩
 .have hh' : ¬ (2 <= n /\ lst n.toNat = n.toNat) := fun e => by rw [decide_eq_true e] at hh; cases hh
  unfold isQ; by_cases h3 : 3 <= n.toNat
  .have : ¬ ((List.range' 2 (n.toNat - 2)).all fun d => n.toNat % d != 0) = true := fun e => hh' ⟨by omega, (Jk3 (by omega) (by omega)).2 e⟩; rw [Bool.eq_false_iff.2 this]; simp
  .rw [decide_eq_false h3]; rfl
 have hp' : 2 <= n /\ lst n.toNat = n.toNat := by
  by_cases e : 2 <= n /\ lst n.toNat = n.toNat
  .exact e
  .rw [decide_eq_false e] at hp; cases hp
 obtain ⟨k, rfl⟩ := Int.eq_ofNat_of_zero_le (show 0 <= n by omega); rw [Int.toNat_natCast] at *
 have ha := (Jk3 (by omega) (by omega)).1 hp'.2; have t8 : ((k : Int).tmod 8) = ((k % 8 : Nat) : Int) := Ze k 8; have hq : isQ k = true ↔ k % 8 = 1 ∨ k % 8 = 7 := by
  unfold isQ; rw [ha]; by_cases h3 : 3 <= k
  .rw [decide_eq_true h3, decide_eq_true (show k <= 64 by omega)]; simp
  .have : k = 2 := by omega
   subst this; simp
 rw [t8]; have fin : isQ k = true -> ∀ (x : LI) (z : Int), sqI k x z -> ¬ z < (k : Int) -> ∃ J : LI -> Prop, (((((k % 8 : Nat) : Int) = 1) -> ((0 <= (0 : Int) /\ (0 : Int) < ((k : Int).toNat : Nat)) /\ J (si x 0 1))) /\ (¬ (((k % 8 : Nat) : Int) = 1) -> J x)) /\ ∀ y, J y -> Zz (fun q => match q with | (r51, r52, x53) => Yf r51 r52 x53 y (fun q => match q with | (r58, r59, x60, c61, x62, r63) => Q (r58, r59, x60, c61, x62, r63))) := by
  intro hQ x z hx hz; obtain ⟨t, rfl, ht, rfl⟩ := hx; obtain rfl : t = k - 1 := by omega
  have hk7 := Jch hQ; refine ⟨fun y => y = qw k, ⟨fun h1 => ⟨⟨by omega, by rw [Int.toNat_natCast]; omega⟩, ?_⟩, fun h1 => ?_⟩, ?_⟩
  .unfold qw; rw [if_pos (by omega)]; rfl
  .unfold qw; rw [if_neg (by omega)]
  .rintro _ rfl; have hb := Jfq hQ; have hl := Ji7 k; refine Jmc (by rw [hl]; omega) fv2 (Jcl hb.1) ?_; rw [hl]; exact h hQ (by omega)
 have loop : isQ k = true -> ∀ (x : LI) (z : Int), sqI k x z -> z < (k : Int) -> (I64 (z * z)) /\ (((k : Int) ≠ 0) /\ ((0 <= ((z * z).tmod (k : Int)) /\ ((z * z).tmod (k : Int)) < ((k : Int).toNat : Nat)) /\ ((I64 (z + (1 : Int))) /\ (sqI k (si x ((z * z).tmod (k : Int)) (1 : Int)) (z + (1 : Int)) /\ ((k : Int) - (z + 1)).toNat < ((k : Int) - z).toNat)))) := by
  intro hQ x z hx hz; obtain ⟨a, b, c, d, e⟩ := sqI_s (by omega) hx hz; exact ⟨a, b, by rw [Int.toNat_natCast]; exact c, d, e, by omega⟩
 refine ⟨fun h1 => ⟨fun h7 => h6 (Bool.eq_false_iff.2 fun e => by have := hq.1 e; omega), fun h7 => ?_⟩, fun h1 => ?_⟩
 .have hQ : isQ k = true := hq.2 (by omega); refine ⟨⟨by omega, by omega, by omega⟩, sqI k, fun _ z => ((k : Int) - z).toNat, Jou (by omega), fun x z hx => ⟨fun hz => loop hQ x z hx hz, fun hz => fin hQ x z hx hz⟩⟩
 .have hQ : isQ k = true := hq.2 (by omega); refine ⟨⟨by omega, by omega, by omega⟩, sqI k, fun _ z => ((k : Int) - z).toNat, Jou (by omega), fun x z hx => ⟨fun hz => loop hQ x z hx hz, fun hz => fin hQ x z hx hz⟩⟩
theorem Jip {n : Nat} {Q : LI -> Prop} (hn : 1 <= n /\ n <= 64) (h : Q (sqs n (n - 1))) : Y6 (n : Int) Q := by
 refine ⟨⟨by omega, by omega, by omega⟩, sqI n, fun _ z => (n - z).toNat, by rw [Int.toNat_natCast]; exact Jou (by omega), fun x z hx => ⟨fun hz => ?_, fun hz => ?_⟩⟩
 .obtain ⟨a, b, c, d, e⟩ := sqI_s (by omega) hx hz; exact ⟨a, b, by rw [Int.toNat_natCast]; exact c, d, e, by dsimp only; omega⟩
 .obtain ⟨t, rfl, ht, rfl⟩ := hx; obtain rfl : t = n - 1 := by omega
  exact h
theorem Jcs {n : Int} {Q : Int × Int × LI × Int × LL × Int -> Prop} (h6 : isQ n.toNat = false -> Q (0, 0, [], 0, [], 6)) (h : isQ n.toNat = true -> 7 <= n /\ n <= 64 -> Q (2, 1, [], n, JW 2 1 0 n (shf (qw n.toNat)), 0)) : Y7 n Q := by
 refine Jgi ⟨fun hh => h6 (by simpa using hh), fun hh => ?_⟩; have hQ : isQ n.toNat = true := by simpa using hh
 have hk7 := Jch hQ; obtain ⟨k, rfl⟩ := Int.eq_ofNat_of_zero_le (show 0 <= n by omega); rw [Int.toNat_natCast] at *
 have t8 : ((k : Int).tmod 8) = ((k % 8 : Nat) : Int) := Ze k 8; refine Jip (by omega) ?_; rw [t8]; refine ⟨fun y => y = qw k, ⟨fun h1 => ⟨⟨by omega, by rw [Je4]; omega⟩, ?_⟩, fun h1 => ?_⟩, ?_⟩
 .unfold qw; rw [if_pos (by omega)]; rfl
 .unfold qw; rw [if_neg (by omega)]
 .rintro _ rfl; have hb := Jfq hQ; have hl := Ji7 k; refine Jmd (by rw [hl]; omega) ?_; have e := Jr4 (l := qw k) (by rw [hl]; omega) hb.1 hb.2.1 hb.2.2; have hs := Jk2 (l := qw k) (by rw [hl]; omega); rw [hl] at e hs; refine Jn5 fv2 hs (Jcl hb.2.1) ?_; rw [<- e]; exact h hQ (by omega)
theorem Z1 (n : Int) : Jab n (fun b => b = true) := by
 refine Jmf (fun h6 => ?_) fun hQ hn => ?_
 .exact Jcs (fun _ => Jdy ⟨fun _ => ⟨fun _ => Jd8 rfl, fun hh => absurd (by decide) hh⟩, (fun hh => by cases hh)⟩) fun hQ => by rw [h6] at hQ; cases hQ
 .refine Jcs (fun h6 => by rw [h6] at hQ; cases hQ) fun _ _ => ?_; have hl := Ji7 n.toNat; have hb := Jfq hQ; have hs := Jk1 (l := qw n.toNat) (by rw [hl]; omega); rw [hl, show ((n.toNat : Nat) : Int) = n by omega] at hs; have l1 := Jow (Jdp (p := 2) (m := 1) (v := 0) hs); have hd := dm_all hQ; rw [show ((n.toNat : Nat) : Int) = n by omega] at hd; have e : (n + 1).tdiv 2 = (((JW 2 1 0 n (shf (qw n.toNat))).length : Nat) : Int) := by
   have : n + 1 = ((2 * (JW 2 1 0 n (shf (qw n.toNat))).length : Nat) : Int) := by omega
   rw [this]; show ((2 * (JW 2 1 0 n (shf (qw n.toNat))).length / 2 : Nat) : Int) = _
   congr 1; omega
  exact Jdz (by simp) l1.1 l1.2 ⟨fun _ => ⟨fun hh => absurd rfl hh, fun _ => ⟨Jq (by omega) (by omega), ⟨by decide, by rw [e]; exact Yh (by omega)⟩, fun _ => Jd8 rfl, fun hh => absurd e.symm hh⟩⟩, (fun hh => by cases hh)⟩
end
end Go.Proofs.Ytjgpkljepgcekaa
