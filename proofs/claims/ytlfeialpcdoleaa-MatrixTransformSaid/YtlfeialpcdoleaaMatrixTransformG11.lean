/- Contracts of functions of the program, and what they lean on: M12, M13, M14, M15, M16, M17, M18, M19, M20, M21, M22, M23, M24, M25, M26, M27, M28. -/
import Derived.Test.YtlfeialpcdoleaaMatrixTransformG10
set_option linter.unusedVariables false
set_option linter.unusedSimpArgs false
namespace Go.Proofs.Ytlfeialpcdoleaa
section
variable {p m v g : Nat} {P M : Int} {mf : List Int} {X Y : List (List Int)} {C : Int} {w : Nat}
theorem Zd (hF : FV P M mf p m v) {l : List Int} {c : Nat} {z : Nat} (hz : z < p ^ m) (h : vo l c = (z : Int)) : en p m l c = z := by unfold en; rw [h]; exact QA hz
theorem Jh4 (hF : FV P M mf p m v) (hs : shp C X) (he : Els p m X) : Red C.toNat (ec p m v C X) := by
 obtain ⟨g, G⟩ := Jfn hF; exact Ji7 G hF (Z3 hs) he rfl _
theorem Jr3 (hF : FV P M mf p m v) (hs : shp C X) (he : Els p m X) {t c : Nat} (ht : t < X.length) (hc : c < C.toNat) :
    en p m (row X t) c = fs p m (fun i => Jv p m (dv p v) (en p m (row X t) (vo (JV p m v C X) i).toNat) (en p m (row (Qn p m v C X) i) c)) (JV p m v C X).length := by
  have R := hF.ring
  have q1 : 1 < p ^ m := R.q2
  have hp : 0 < p := by have := hF.p2; omega
  obtain ⟨g, G⟩ := Jfn hF
  have hS := Jax (p := p) (m := m) (v := v) hs
  have red := Jh4 hF hs he
  have hasc := Zg (p := p) (m := m) (v := v) C X
  have hr : (JV p m v C X).length <= X.length := YQ hs
  have hrow : ∀ i, i < (JV p m v C X).length -> row (Qn p m v C X) i = row (ec p m v C X).X i := fun i hi => Jar hi
  have hneg : ∀ y, y < p ^ m -> QY p m y < p ^ m := fun y _ => Zv hp y
  have L := Juo (w := C.toNat) hF (c := c) (r := (JV p m v C X).length) (pv := fun i => (vo (JV p m v C X) i).toNat) (nR := fun i => QY p m (en p m (row (ec p m v C X).X i) c)) hc (fun i hi => by have := hasc.1 i hi; show (vo (JV p m v C X) i).toNat < _; omega) (fun i => hneg _ (QT hF _ _))
  have hann := Jfx G hF L (Z3 hs) he C.toNat (fun s hsl => by
    have hsl' : s < X.length := by have := hS.xl; exact Nat.lt_of_lt_of_eq hsl this
    show cof _ _ _ _ _ _ _ (en p m (row (ec p m v C X).X s)) = 0
    unfold cof
    by_cases hsr : s < (JV p m v C X).length
    . have hd : ∀ i, i < (JV p m v C X).length -> en p m (row (ec p m v C X).X s) (vo (JV p m v C X) i).toNat = if s = i then 1 else 0 := fun i hi => by
        have := red.one i hi s hsl
        by_cases e : s = i
        . rw [if_pos e] at this ⊢; exact Zd hF q1 this
        . rw [if_neg e] at this ⊢; exact Zd hF (by omega) this
      have h9 := Jbw hF (f := fun i => Jv p m (dv p v) (QY p m (en p m (row (ec p m v C X).X i) c)) (en p m (row (ec p m v C X).X s) (vo (JV p m v C X) i).toNat)) (j := s) (R.Ml _ _) _ hsr fun i hi hne => by
        show Jv p m (dv p v) _ _ = 0
        rw [hd i hi, if_neg (fun e => hne e.symm), R.M0 (hneg _ (QT hF _ _))]
      show JU p m _ (fs p m (fun i => Jv p m (dv p v) (QY p m (en p m (row (ec p m v C X).X i) c)) (en p m (row (ec p m v C X).X s) (vo (JV p m v C X) i).toNat)) (JV p m v C X).length) = 0
      rw [h9]
      show JU p m _ (Jv p m (dv p v) _ _) = 0
      rw [hd s hsr, if_pos rfl, R.M1 (hneg _ (QT hF _ _))]
      exact Zb hp (QT hF _ _)
    . have hz : ∀ d, d < C.toNat -> en p m (row (ec p m v C X).X s) d = 0 := fun d hd => Zd hF (by omega) (red.lo s (by show (JV p m v C X).length <= s; omega) hsl d hd)
      rw [hz c hc, Jac hF _ fun i hi => by
        show Jv p m (dv p v) _ _ = 0
        rw [hz (vo (JV p m v C X) i).toNat (by have := hasc.1 i hi; omega), R.M0 (hneg _ (QT hF _ _))], R.Az (by omega)]) t ht
  unfold cof at hann
  have hG := YW hF (fun i => Jv p m (dv p v) (en p m (row X t) (vo (JV p m v C X) i).toNat) (en p m (row (Qn p m v C X) i) c)) (JV p m v C X).length
  have hN := YW hF (fun i => Jv p m (dv p v) (QY p m (en p m (row (ec p m v C X).X i) c)) (en p m (row X t) (vo (JV p m v C X) i).toNat)) (JV p m v C X).length
  have hGN : JU p m (fs p m (fun i => Jv p m (dv p v) (en p m (row X t) (vo (JV p m v C X) i).toNat) (en p m (row (Qn p m v C X) i) c)) (JV p m v C X).length) (fs p m (fun i => Jv p m (dv p v) (QY p m (en p m (row (ec p m v C X).X i) c)) (en p m (row X t) (vo (JV p m v C X) i).toNat)) (JV p m v C X).length) = 0 := by
    have h1 := Jfo hF (f := fun i => Jv p m (dv p v) (en p m (row X t) (vo (JV p m v C X) i).toNat) (en p m (row (Qn p m v C X) i) c)) (h := fun i => Jv p m (dv p v) (QY p m (en p m (row (ec p m v C X).X i) c)) (en p m (row X t) (vo (JV p m v C X) i).toNat)) (x := 1) (fun i => R.Ml _ _) (fun i => R.Ml _ _) q1 (JV p m v C X).length
    rw [R.Mc q1 hN, R.M1 hN] at h1
    rw [<- h1]
    refine Jac hF _ fun i hi => ?_
    show JU p m (Jv p m (dv p v) _ _) (Jv p m (dv p v) 1 (Jv p m (dv p v) _ _)) = 0
    have ha := QT hF (row X t) (vo (JV p m v C X) i).toNat
    have hb := QT hF (row (ec p m v C X).X i) c
    rw [R.Mc q1 (R.Ml _ _), R.M1 (R.Ml _ _), hrow i hi, R.Mc (hneg _ hb) ha, <- R.Md ha hb (hneg _ hb), Zb hp hb, R.M0 ha]
  have hx := QT hF (row X t) c
  generalize fs p m (fun i => Jv p m (dv p v) (en p m (row X t) (vo (JV p m v C X) i).toNat) (en p m (row (Qn p m v C X) i) c)) (JV p m v C X).length = G1 at *
  generalize fs p m (fun i => Jv p m (dv p v) (QY p m (en p m (row (ec p m v C X).X i) c)) (en p m (row X t) (vo (JV p m v C X) i).toNat)) (JV p m v C X).length = N1 at *
  generalize en p m (row X t) c = a at *
  calc a = JU p m a (JU p m G1 N1) := by rw [hGN, R.Az hx]
    _ = JU p m G1 (JU p m a N1) := by rw [<- R.Aa hx hG hN, R.Ac a G1, R.Aa hG hx hN]
    _ = G1 := by rw [hann, R.Az hG]
theorem Jr0 (hF : FV P M mf p m v) {x : List Int} {n c : Nat} {Z : List (List Int)} (hc : c < n) : ∀ k, en p m (cmb p m v x n Z k) c = fs p m (fun i => Jv p m (dv p v) (inE (p ^ m) (vo x i)) (en p m (row Z i) c)) k
 | 0 => by
  show en p m (List.replicate n 0) c = 0; exact Zd hF (by have := hF.ring.q2; omega) (ZC n c)
 | k + 1 => by
  rw [Jcq, Jfq hF (by rw [Jek]; exact hc), Jr0 hF hc k]; rfl
theorem Jnp (hF : FV P M mf p m v) {x : List Int} {n : Nat} {Z : List (List Int)} : ∀ k, Elr p m (cmb p m v x n Z k)
 | 0 => Jdj fun t ht => by
  have : vo (cmb p m v x n Z 0) t = 0 := ZC n t; rw [this]; exact Jlu (q := 0) (by have := hF.ring.q2; omega)
 | k + 1 => by rw [Jcq]; exact Jia (by have := hF.p2; omega) (Jnp hF k)
theorem Jr5 (hF : FV P M mf p m v) (he : Els p m X) : Els p m (Qn p m v C X) := fun r hr => Ze (S := ⟨X, List.replicate X.length [], [], 1⟩) (by have := hF.p2; omega) he C.toNat r (List.mem_of_mem_take hr)
theorem Jfu (hF : FV P M mf p m v) (hs : shp C X) (he : Els p m X) {i t : Nat} (hi : i < (JV p m v C X).length) (ht : t < (JV p m v C X).length) : vo (row (Qn p m v C X) t) (vo (JV p m v C X) i).toNat = if t = i then 1 else 0 := by
 have hS := Jax (p := p) (m := m) (v := v) hs; have := YQ (p := p) (m := m) (v := v) hs; rw [show row (Qn p m v C X) t = row (ec p m v C X).X t from Jar ht]; exact (Jh4 hF hs he).one i hi t (by have := hS.xl; omega)
end
end Go.Proofs.Ytlfeialpcdoleaa
set_option linter.unusedVariables false
set_option linter.unusedSimpArgs false
namespace Go.Proofs.Ytlfeialpcdoleaa
end Go.Proofs.Ytlfeialpcdoleaa
set_option linter.unusedVariables false
set_option linter.unusedSimpArgs false
namespace Go.Proofs.Ytlfeialpcdoleaa
section
variable {p m v : Nat} {P M : Int} {mf : List Int} {X Y : List (List Int)} {C : Int} {w : Nat}
theorem Jse {f : (Nat -> Nat) -> Nat} {r cur : Nat} (hr : r < X.length) (hc : cur < X.length) (h : Ann p m f X) : Ann p m f (swq X r cur) := fun t ht => by
  rw [JL] at ht
  rw [QQ hr hc]
  split
  . exact h r hr
  . split
    . exact h cur hc
    . exact h t ht
theorem Jsg {f : (Nat -> Nat) -> Nat} (L : Lin p m v w f) (hF : FV P M mf p m v) {cur : Nat} {e : Int} (hc : cur < X.length) (hw : (row X cur).length = w) (h : Ann p m f X) : Ann p m f (scq p m v X cur e) := fun t ht => by
 rw [Qa] at ht; rw [YD hc]; split
 .rw [L.sc hF hw, h cur hc, hF.ring.M0 (Qe (by have := hF.ring.q2; omega) _)]
 .exact h t ht
theorem Jsh {f : (Nat -> Nat) -> Nat} (L : Lin p m v w f) (hF : FV P M mf p m v) {cur : Nat} {g : Nat -> Int} (hc : cur < X.length) (hw : ∀ t, t < X.length -> (row X t).length = w) (h : Ann p m f X) : Ann p m f (clr p m v g cur X) := fun t ht => by
 have R := hF.ring; have hq : 0 < p ^ m := by have := R.q2; omega
 rw [Q5] at ht; rw [Q4 ht]; split
 .exact h t ht
 .rw [L.adx hF (hw t ht), h cur hc, h t ht, R.M0 (Qe hq _), R.Az hq]
theorem Jph (hF : FV P M mf p m v) {f : (Nat -> Nat) -> Nat} (L : Lin p m v w f) {S : ES} {c : Nat} (hw : ∀ t, t < S.X.length -> (row S.X t).length = w) (h : Ann p m f S.X) : Ann p m f (Qv p m v S c).X := by
 unfold Qv; split
 .rename_i h1
  obtain ⟨hc, hr⟩ := h1; rw [Zc]; have hw1 : ∀ t, t < (swq S.X (nz S.X c S.pv.length) S.pv.length).length -> (row (swq S.X (nz S.X c S.pv.length) S.pv.length) t).length = w := fun t ht => by
   rw [JL] at ht; exact QO hr hc hw ht
  exact Jsh L hF (by rw [Qa, JL]; exact hc) (fun t ht => by rw [Qa] at ht; exact QP (by rw [JL]; exact hc) hw1 ht) (Jsg L hF (by rw [JL]; exact hc) (hw1 _ (by rw [JL]; exact hc)) (Jse hr hc h))
 .exact h
theorem Jgz (hF : FV P M mf p m v) {f : (Nat -> Nat) -> Nat} (L : Lin p m v w f) {n wy : Nat} {S : ES} (hS : Shp n w wy S) (h : Ann p m f S.X) : ∀ k, Ann p m f (elim p m v k S).X
 | 0 => h
 | k + 1 => by
  rw [Qs]; have hk := QL (p := p) (m := m) (v := v) hS k; exact Jph hF L (fun t ht => hk.xr t (by have := hk.xl; omega)) (Jgz hF L hS h k)
theorem Jh9 (hF : FV P M mf p m v) (hs : shp C X) (he : Els p m X) {f : (Nat -> Nat) -> Nat} (L : Lin p m v C.toNat f) : Ann p m f (Qn p m v C X) ↔ Ann p m f X := by
  have R := hF.ring
  have hq : 0 < p ^ m := by have := R.q2; omega
  obtain ⟨g, G⟩ := Jfn hF
  have hS := Jax (p := p) (m := m) (v := v) hs
  have red := Jh4 hF hs he
  have hl := Zf (p := p) (m := m) (v := v) hs
  have hpl := YQ (p := p) (m := m) (v := v) hs
  have f0 : ∀ a : Nat -> Nat, (∀ c, c < C.toNat -> a c = 0) -> f a = 0 := fun a ha => by
    have h1 := L.ml (a := fun _ => 0) (x := 0) (fun _ => hq) hq
    rw [R.Mc hq (L.lt _), R.M0 (L.lt _)] at h1
    rw [<- h1]
    exact L.cg fun c hc => by rw [ha c hc, R.M0 hq]
  refine ⟨fun h => Jfx G hF L (Z3 hs) he C.toNat fun t ht => ?_, fun h t ht => ?_⟩
  . by_cases hr : t < (JV p m v C X).length
    . have := h t (by omega)
      rwa [show row (Qn p m v C X) t = row (ec p m v C X).X t from Jar hr] at this
    . exact f0 _ fun c hc => Zd hF hq (red.lo t (by show (JV p m v C X).length <= t; omega) ht c hc)
  . rw [show row (Qn p m v C X) t = row (ec p m v C X).X t from Jar (by show t < (JV p m v C X).length; omega)]
    exact Jgz hF L (Z3 hs) h C.toNat t (by have := hS.xl; show t < (ec p m v C X).X.length; omega)
end
end Go.Proofs.Ytlfeialpcdoleaa
set_option linter.unusedVariables false
set_option linter.unusedSimpArgs false
namespace Go.Proofs.Ytlfeialpcdoleaa
section
variable {p m v : Nat} {P M : Int} {mf : List Int} {X Y : List (List Int)} {C : Int} {w : Nat}
def dt (p m v w : Nat) (u a : Nat -> Nat) : Nat := fs p m (fun c => Jv p m (dv p v) (u c) (a c)) w
theorem Jdm (hF : FV P M mf p m v) {u : Nat -> Nat} (hu : ∀ c, u c < p ^ m) : Lin p m v w (dt p m v w u) where
 lt a := YW hF _ _
 cg h := Jbr _ fun c hc => by rw [h c hc]
 ad {a b x} ha hb hx := by
  have R := hF.ring; unfold dt; have e : (fun c => Jv p m (dv p v) (u c) (JU p m (a c) (Jv p m (dv p v) x (b c)))) = fun c => JU p m (Jv p m (dv p v) (u c) (a c)) (Jv p m (dv p v) x (Jv p m (dv p v) (u c) (b c))) := funext fun c => by
   rw [R.Md (hu c) (ha _) (R.Ml _ _), <- R.Ma (hu c) hx (hb _), R.Mc (hu c) hx, R.Ma hx (hu c) (hb _)]
  rw [e, Jfo hF (fun c => R.Ml _ _) (fun c => R.Ml _ _) hx]
 ml {a x} ha hx := by
  have R := hF.ring; unfold dt; have e : (fun c => Jv p m (dv p v) (u c) (Jv p m (dv p v) x (a c))) = fun c => Jv p m (dv p v) x (Jv p m (dv p v) (u c) (a c)) := funext fun c => by
   rw [<- R.Ma (hu c) hx (ha _), R.Mc (hu c) hx, R.Ma hx (hu c) (ha _)]
  rw [e, Jni hF (fun c => R.Ml _ _) hx]
theorem Jlv (hF : FV P M mf p m v) {u u' a : Nat -> Nat} {d y : Nat} (ha : ∀ c, a c < p ^ m) (hy : y < p ^ m) (h0 : u d = 0) (h : ∀ c, u' c = if c = d then y else u c) : ∀ w, d < w -> dt p m v w u' a = JU p m (dt p m v w u a) (Jv p m (dv p v) y (a d))
 | 0, hd => absurd hd (Nat.not_lt_zero _)
 | k + 1, hd => by
  have R := hF.ring; have hq : 0 < p ^ m := by have := R.q2; omega
  show JU p m (dt p m v k u' a) (Jv p m (dv p v) (u' k) (a k)) = JU p m (JU p m (dt p m v k u a) (Jv p m (dv p v) (u k) (a k))) (Jv p m (dv p v) y (a d)); have hD : dt p m v k u a < p ^ m := YW hF (fun c => Jv p m (dv p v) (u c) (a c)) k; by_cases e : k = d
  .subst e; have e1 : dt p m v k u' a = dt p m v k u a := Jbr _ fun c hc => by rw [h c, if_neg (by omega)]
   rw [e1, h k, if_pos rfl, h0, R.Mc hq (ha k), R.M0 (ha k), R.Az hD]
  .rw [Jlv hF ha hy h0 h k (by omega), h k, if_neg e, R.Aa hD (R.Ml _ _) (R.Ml _ _), R.Aa hD (R.Ml _ _) (R.Ml _ _), R.Ac (Jv p m (dv p v) y (a d))]
theorem Ji3 {n t d : Nat} {R : List (List Int)} {pv : List Int} (hd : d ≠ t) : ∀ k, (∀ i, i < k -> (vo pv i).toNat ≠ d) -> vo (Zm p m n R pv t k) d = 0
 | 0, _ => by
  show vo ((List.replicate n (0 : Int)).set t 1) d = 0; rw [J8, if_neg (fun h => hd h.1.symm)]; exact ZC n d
 | k + 1, h => by
  rw [ZI, J8, if_neg (fun e => h k (by omega) e.1)]; exact Ji3 hd k fun i hi => h i (by omega)
theorem Jry (hF : FV P M mf p m v) {n t : Nat} {R : List (List Int)} {pv : List Int} (ht : t < n) (hp : Asc n pv) (hf : ∀ i, i < pv.length -> (vo pv i).toNat ≠ t) {a : Nat -> Nat} (ha : ∀ c, a c < p ^ m) : ∀ k, k <= pv.length ->
  dt p m v n (en p m (Zm p m n R pv t k)) a = cof p m v t k (fun i => (vo pv i).toNat) (fun i => QY p m (en p m (row R i) t)) a
 | 0, _ => by
  have R' := hF.ring; have q1 : 1 < p ^ m := R'.q2; have h1 := Jlv (w := n) hF (u := fun _ => 0) (u' := en p m (Zm p m n R pv t 0)) (a := a) (d := t) (y := 1) ha q1 rfl (fun c => by
   show inE (p ^ m) (vo ((List.replicate n (0 : Int)).set t 1) c) = _; rw [J8]; by_cases e : t = c
   .rw [if_pos ⟨e, by rw [List.length_replicate]; exact ht⟩, if_pos e.symm]; exact QA (x := 1) q1
   .rw [if_neg (fun h => e h.1), if_neg (fun h => e h.symm), ZC]; exact QA (x := 0) (by omega)) ht
  rw [h1]; have h2 : dt p m v n (fun _ => 0) a = 0 := Jac hF _ fun c _ => by
   show Jv p m (dv p v) 0 (a c) = 0; rw [R'.Mc (by omega) (ha c), R'.M0 (ha c)]
  rw [h2, R'.Ac, R'.Az (R'.Ml _ _), R'.Mc q1 (ha t), R'.M1 (ha t)]; show a t = JU p m (a t) 0; rw [R'.Az (ha t)]
 | k + 1, hk => by
  have R' := hF.ring; have hpos : 0 < p := by have := hF.p2; omega
  have hpk := hp.1 k (by omega); have hne : ∀ i, i < k -> (vo pv i).toNat ≠ (vo pv k).toNat := fun i hi => by
   have h1 := hp.2 i k hi (by omega); have h2 := hp.1 i (by omega); omega
  have hn := Zv (m := m) hpos (en p m (row R k) t); have h1 := Jlv (w := n) hF (u := en p m (Zm p m n R pv t k)) (u' := en p m (Zm p m n R pv t (k + 1))) (a := a) (d := (vo pv k).toNat) (y := QY p m (en p m (row R k) t)) ha hn (by
    unfold en; rw [Ji3 (hf k (by omega)) k hne]; exact QA (x := 0) (by have := R'.q2; omega)) (fun c => by
   unfold en; rw [ZI, J8]; by_cases e : (vo pv k).toNat = c
   .rw [if_pos ⟨e, by rw [Je7]; omega⟩, if_pos e.symm]; exact QA hn
   .rw [if_neg (fun h => e h.1), if_neg (fun h => e h.symm)]) (by omega)
  rw [h1, Jry hF ht hp hf ha k (by omega)]; show JU p m (JU p m (a t) _) _ = JU p m (a t) (JU p m _ _); rw [R'.Aa (ha t) (YW hF _ _) (R'.Ml _ _)]
theorem Jmx (hF : FV P M mf p m v) (hs : shp C X) (he : Els p m X) {t : Nat} (ht : t < C.toNat) (hf : ∀ i, i < (JV p m v C X).length -> (vo (JV p m v C X) i).toNat ≠ t) : Ann p m (dt p m v C.toNat (en p m (Zm p m C.toNat (Qn p m v C X) (JV p m v C X) t (JV p m v C X).length))) X := by
  have R := hF.ring
  have q1 : 1 < p ^ m := R.q2
  have hp : 0 < p := by have := hF.p2; omega
  have hasc := Zg (p := p) (m := m) (v := v) C X
  have hl := Zf (p := p) (m := m) (v := v) hs
  refine (Jh9 hF hs he (Jdm hF fun c => QT hF _ c)).1 fun s hs' => ?_
  rw [Jry hF ht hasc hf (fun c => QT hF _ c) _ (Nat.le_refl _)]
  unfold cof
  have hsr : s < (JV p m v C X).length := by omega
  have hd : ∀ i, i < (JV p m v C X).length -> en p m (row (Qn p m v C X) s) (vo (JV p m v C X) i).toNat = if s = i then 1 else 0 := fun i hi => by
    have := Jfu hF hs he hi hsr
    by_cases e : s = i
    . rw [if_pos e] at this ⊢; exact Zd hF q1 this
    . rw [if_neg e] at this ⊢; exact Zd hF (by omega) this
  have hneg : ∀ i, QY p m (en p m (row (Qn p m v C X) i) t) < p ^ m := fun i => Zv hp _
  rw [Jbw hF (f := fun i => Jv p m (dv p v) (QY p m (en p m (row (Qn p m v C X) i) t)) (en p m (row (Qn p m v C X) s) (vo (JV p m v C X) i).toNat)) (j := s) (R.Ml _ _) _ hsr fun i hi hne => by
    show Jv p m (dv p v) _ _ = 0
    rw [hd i hi, if_neg (fun e => hne e.symm), R.M0 (hneg i)]]
  show JU p m _ (Jv p m (dv p v) _ _) = 0
  rw [hd s hsr, if_pos rfl, R.M1 (hneg s)]
  exact Zb hp (QT hF _ _)
end
end Go.Proofs.Ytlfeialpcdoleaa
set_option linter.unusedVariables false
set_option linter.unusedSimpArgs false
namespace Go.Proofs.Ytlfeialpcdoleaa
section
variable {p m v : Nat} {P M : Int} {mf : List Int} {X Y : List (List Int)} {C : Int} {w : Nat}
theorem Jlk {pv : List Int} {c : Nat} (h : ¬ inP pv c = true) : ∀ i, i < pv.length -> vo pv i ≠ (c : Int) := fun i hi e => h (Jei.2 ⟨i, hi, e⟩)
theorem Jnq {n : Nat} (R : List (List Int)) {pv : List Int} (hp : Asc n pv) : ∀ k, k <= n -> ∃ c, c <= pv.length /\ (∀ i, i < pv.length -> (vo pv i < (k : Int) ↔ i < c)) /\ (bas p m n R pv k).length + c = k
 | 0, _ => ⟨0, Nat.zero_le _, fun i hi => ⟨fun h => by have := hp.1 i hi; omega, fun h => absurd h (Nat.not_lt_zero _)⟩, rfl⟩
 | k + 1, hk => by
  obtain ⟨c, h1, h2, h3⟩ := Jnq R hp k (by omega); rw [ZQ]; by_cases hin : inP pv k = true
  .rw [if_pos hin]; obtain ⟨j, hj, e⟩ := Jei.1 hin; have hcj : c <= j := by
    rcases Nat.lt_or_ge j c with h | h
    .have := (h2 j hj).2 h; omega
    .exact h
   have hc : c < pv.length := by omega
   have e2 : c = j := by
    rcases Nat.lt_or_ge c j with h | h
    .have h5 := hp.2 c j h hj; have h6 := (h2 c hc).1 (by omega); omega
    .omega
   subst e2; refine ⟨c + 1, by omega, fun i hi => ⟨fun h => ?_, fun h => ?_⟩, by omega⟩
   .rcases Nat.lt_or_ge i (c + 1) with h' | h'
    .exact h'
    .have := hp.2 c i (by omega) hi; omega
   .rcases Nat.lt_or_ge i c with h' | h'
    .have := (h2 i hi).2 h'; omega
    .rw [show i = c by omega]; omega
  .rw [if_neg hin]; refine ⟨c, h1, fun i hi => ?_, by rw [List.length_append, List.length_singleton]; omega⟩; have := Jlk hin i hi; rw [<- h2 i hi]; omega
theorem Jj7 {n : Nat} (R : List (List Int)) {pv : List Int} (hp : Asc n pv) : (bas p m n R pv n).length + pv.length = n := by
 obtain ⟨c, h1, h2, h3⟩ := Jnq (p := p) (m := m) R hp n (Nat.le_refl _); have : c = pv.length := by
  rcases Nat.lt_or_ge c pv.length with h | h
  .have := (h2 c h).1 (hp.1 c h).2; omega
  .omega
 omega
theorem Jtn {Z : List (List Int)} {l : List Int} {t : Nat} : row (Z ++ [l]) t = if t < Z.length then row Z t else if t = Z.length then l else [] := by
 unfold row; rw [List.getD_eq_getElem?_getD, List.getElem?_append]; split
 .rw [<- List.getD_eq_getElem?_getD]
 .rename_i h
  split
  .rename_i e; rw [e, Nat.sub_self]; rfl
  .rw [List.getElem?_eq_none (by simp; omega)]; rfl
theorem Jfv {n : Nat} (R : List (List Int)) (pv : List Int) : ∀ k, ∃ fc : Nat -> Nat, (∀ j, j < (bas p m n R pv k).length -> fc j < k /\ ¬ inP pv (fc j) = true /\ row (bas p m n R pv k) j = Zm p m n R pv (fc j) pv.length) /\ ∀ i j, i < j -> j < (bas p m n R pv k).length -> fc i < fc j
 | 0 => ⟨fun _ => 0, fun j hj => absurd hj (Nat.not_lt_zero _), fun i j _ hj => absurd hj (Nat.not_lt_zero _)⟩
 | k + 1 => by
  obtain ⟨fc, h1, h2⟩ := Jfv (n := n) R pv k; rw [ZQ]; by_cases hin : inP pv k = true
  .rw [if_pos hin]; exact ⟨fc, fun j hj => ⟨by have := (h1 j hj).1; omega, (h1 j hj).2⟩, h2⟩
  .rw [if_neg hin]; refine ⟨fun j => if j < (bas p m n R pv k).length then fc j else k, fun j hj => ?_, fun i j hij hj => ?_⟩
   .rw [List.length_append, List.length_singleton] at hj; dsimp only; rw [Jtn]; by_cases e : j < (bas p m n R pv k).length
    .rw [if_pos e, if_pos e]; exact ⟨by have := (h1 j e).1; omega, (h1 j e).2⟩
    .rw [if_neg e, if_neg e, if_pos (by omega)]; exact ⟨by omega, hin, rfl⟩
   .rw [List.length_append, List.length_singleton] at hj; dsimp only; rw [if_pos (by omega : i < (bas p m n R pv k).length)]; by_cases e : j < (bas p m n R pv k).length
    .rw [if_pos e]; exact h2 i j hij e
    .rw [if_neg e]; exact (h1 i (by omega)).1
theorem Jqp {n t : Nat} {R : List (List Int)} {pv : List Int} (ht : t < n) : ∀ k, (∀ i, i < k -> (vo pv i).toNat ≠ t) -> vo (Zm p m n R pv t k) t = 1
 | 0, _ => by
  show vo ((List.replicate n (0 : Int)).set t 1) t = 1; rw [J8, if_pos ⟨rfl, by rw [List.length_replicate]; exact ht⟩]
 | k + 1, h => by
  rw [ZI, J8, if_neg (fun e => h k (by omega) e.1)]; exact Jqp ht k fun i hi => h i (by omega)
theorem Jnh (hF : FV P M mf p m v) {u : Nat -> Nat} {A : Nat -> Nat -> Nat} {R' : Nat -> Nat} (hu : ∀ j, u j < p ^ m) (hA : ∀ i j, A i j < p ^ m) (hR : ∀ i, R' i < p ^ m) (n : Nat) : ∀ r,
  fs p m (fun j => Jv p m (dv p v) (u j) (fs p m (fun i => Jv p m (dv p v) (A i j) (R' i)) r)) n = fs p m (fun i => Jv p m (dv p v) (R' i) (fs p m (fun j => Jv p m (dv p v) (u j) (A i j)) n)) r
 | 0 => Jac hF _ fun j _ => hF.ring.M0 (hu j)
 | r + 1 => by
  have R := hF.ring; show _ = JU p m (fs p m _ r) (Jv p m (dv p v) (R' r) (fs p m _ n)); rw [<- Jnh hF hu hA hR n r, <- Jfo hF (fun j => R.Ml _ _) (fun j => R.Ml _ _) (hR r)]; refine Jbr _ fun j _ => ?_; show Jv p m (dv p v) (u j) (JU p m _ _) = _; rw [R.Md (hu j) (YW hF _ _) (R.Ml _ _), R.Mc (hA r j) (hR r), <- R.Ma (hu j) (hR r) (hA r j), R.Mc (hu j) (hR r), R.Ma (hR r) (hu j) (hA r j)]
theorem Jr2 (hF : FV P M mf p m v) {B : List (List Int)} (hs : shp C B) (he : Els p m B) (fc : Nat -> Nat) (hf : ∀ j, j < B.length -> fc j < C.toNat) (hu : ∀ i j, i < B.length -> j < B.length -> vo (row B i) (fc j) = if i = j then 1 else 0) : (JV p m v C B).length = B.length := by
  have R := hF.ring
  have q1 : 1 < p ^ m := R.q2
  have hle := YQ (p := p) (m := m) (v := v) hs
  rcases Nat.lt_or_ge (JV p m v C B).length B.length with hlt | h
  . exfalso
    have hB := YX hs
    -- the entries at the pivots, as a matrix of fewer rows than columns
    have hA : ∃ A : List (List Int), A = (List.range (JV p m v C B).length).map fun i => (List.range B.length).map fun j => vo (row B j) (vo (JV p m v C B) i).toNat := ⟨_, rfl⟩
    obtain ⟨A, hA⟩ := hA
    have hAl : A.length = (JV p m v C B).length := by rw [hA]; simp
    have hAr : ∀ i, i < A.length -> row A i = (List.range B.length).map fun j => vo (row B j) (vo (JV p m v C B) i).toNat := fun i hi => by rw [hA]; exact Zq (by omega)
    have hAe : ∀ i, i < A.length -> ∀ j, j < B.length -> vo (row A i) j = vo (row B j) (vo (JV p m v C B) i).toNat := fun i hi j hj => by rw [hAr i hi]; exact Jko hj
    have hAs : shp (B.length : Int) A := ⟨by omega, by omega, by omega, fun r hr => by
      obtain ⟨i, hi, rfl⟩ := YE hr
      rw [hAr i hi]; simp⟩
    have hasc := Zg (p := p) (m := m) (v := v) C B
    have hAE : Els p m A := YC fun i hi => Jdj fun j hj => by
      rw [hAr i hi, List.length_map, List.length_range] at hj
      rw [hAe i hi j hj]
      have h5 := hasc.1 i (by omega)
      exact J4 he j _ (Jaq (by rw [Yk hs hj]; omega))
    have hal := YQ (p := p) (m := m) (v := v) hAs
    have hascA := Zg (p := p) (m := m) (v := v) (B.length : Int) A
    have e0 : ((B.length : Nat) : Int).toNat = B.length := by omega
    have hbl := Jj7 (p := p) (m := m) (Qn p m v (B.length : Int) A) hascA
    obtain ⟨fa, h1, _⟩ := Jfv (p := p) (m := m) (n := ((B.length : Nat) : Int).toNat) (Qn p m v (B.length : Int) A) (JV p m v (B.length : Int) A) ((B.length : Nat) : Int).toNat
    obtain ⟨ht, hnp, _⟩ := h1 0 (by omega)
    generalize fa 0 = t at *
    have hnp' : ∀ i, i < (JV p m v (B.length : Int) A).length -> (vo (JV p m v (B.length : Int) A) i).toNat ≠ t := fun i hi => by
      have h5 := Jlk hnp i hi
      have h6 := hascA.1 i hi
      omega
    have hann := Jmx hF hAs hAE ht hnp'
    have hut : en p m (Zm p m ((B.length : Nat) : Int).toNat (Qn p m v (B.length : Int) A) (JV p m v (B.length : Int) A) t (JV p m v (B.length : Int) A).length) t = 1 := Zd hF q1 (Jqp ht _ hnp')
    have hul := QT hF (Zm p m ((B.length : Nat) : Int).toNat (Qn p m v (B.length : Int) A) (JV p m v (B.length : Int) A) t (JV p m v (B.length : Int) A).length)
    generalize en p m (Zm p m ((B.length : Nat) : Int).toNat (Qn p m v (B.length : Int) A) (JV p m v (B.length : Int) A) t (JV p m v (B.length : Int) A).length) = u at *
    rw [e0] at hann ht
    have hl := hf t ht
    -- the sum of the rows by u, at t's own column, in two ways
    have s1 : fs p m (fun j => Jv p m (dv p v) (u j) (en p m (row B j) (fc t))) B.length = 1 := by
      have h5 : ∀ j, j < B.length -> en p m (row B j) (fc t) = if j = t then 1 else 0 := fun j hj => by
        have := hu j t hj ht
        by_cases e : j = t
        . rw [if_pos e] at this ⊢; exact Zd hF q1 this
        . rw [if_neg e] at this ⊢; exact Zd hF (by omega) this
      rw [Jbw hF (f := fun j => Jv p m (dv p v) (u j) (en p m (row B j) (fc t))) (j := t) (R.Ml _ _) _ ht fun j hj hne => by
        show Jv p m (dv p v) _ _ = 0
        rw [h5 j hj, if_neg hne, R.M0 (hul j)]]
      show Jv p m (dv p v) _ _ = 1
      rw [h5 t ht, if_pos rfl, hut, R.M1 q1]
    have s2 : fs p m (fun j => Jv p m (dv p v) (u j) (en p m (row B j) (fc t))) B.length = 0 := by
      rw [Jbr (h := fun j => Jv p m (dv p v) (u j) (fs p m (fun i => Jv p m (dv p v) (en p m (row B j) (vo (JV p m v C B) i).toNat) (en p m (row (Qn p m v C B) i) (fc t))) (JV p m v C B).length)) B.length fun j hj => by rw [Jr3 hF hs he hj hl]]
      rw [Jnh hF (A := fun i j => en p m (row B j) (vo (JV p m v C B) i).toNat) (R' := fun i => en p m (row (Qn p m v C B) i) (fc t)) hul (fun i j => QT hF _ _) (fun i => QT hF _ _)]
      refine Jac hF _ fun i hi => ?_
      show Jv p m (dv p v) _ _ = 0
      have h5 : fs p m (fun j => Jv p m (dv p v) (u j) (en p m (row B j) (vo (JV p m v C B) i).toNat)) B.length = 0 := by
        have h6 := hann i (by omega)
        unfold dt at h6
        rw [<- h6]
        refine Jbr _ fun j hj => ?_
        show Jv p m (dv p v) _ _ = Jv p m (dv p v) _ _
        congr 1
        unfold en
        rw [hAe i (by omega) j hj]
      rw [h5, R.M0 (QT hF _ _)]
    rw [s1] at s2; exact absurd s2 (by decide)
  . omega
end
end Go.Proofs.Ytlfeialpcdoleaa
set_option linter.unusedVariables false
set_option linter.unusedSimpArgs false
namespace Go.Proofs.Ytlfeialpcdoleaa
section
variable {p m v : Nat} {P M : Int} {mf : List Int} {X Y : List (List Int)} {C : Int} {w : Nat}
end
end Go.Proofs.Ytlfeialpcdoleaa
set_option linter.unusedVariables false
set_option linter.unusedSimpArgs false
namespace Go.Proofs.Ytlfeialpcdoleaa
section
variable {p m v : Nat} {P M : Int} {mf : List Int} {X Y : List (List Int)} {C : Int} {w wy : Nat}
def e2 (p m w : Nat) (a b : List Int) : Nat -> Nat := fun c => if c < w then en p m a c else en p m b (c - w)
theorem Jfr (hF : FV P M mf p m v) (a b : List Int) (c : Nat) : e2 p m w a b c < p ^ m := by
 unfold e2; split <;> exact QT hF _ _
def An2 (p m w : Nat) (f : (Nat -> Nat) -> Nat) (X Y : List (List Int)) : Prop := ∀ t, t < X.length -> f (e2 p m w (row X t) (row Y t)) = 0
theorem Jjl {f : (Nat -> Nat) -> Nat} (L : Lin p m v (w + wy) f) (hF : FV P M mf p m v) {a o b r : List Int} {x : Int} (ha : a.length = w) (hb : b.length = wy) : f (e2 p m w (adx p m v a x o) (adx p m v b x r)) = JU p m (f (e2 p m w a b)) (Jv p m (dv p v) (inE (p ^ m) x) (f (e2 p m w o r))) := by
 rw [<- L.ad (Jfr hF a b) (Jfr hF o r) (Qe (by have := hF.ring.q2; omega) x)]; refine L.cg fun c hc => ?_; unfold e2; split
 .exact Jfq hF (by omega)
 .exact Jfq hF (by omega)
theorem Juc {f : (Nat -> Nat) -> Nat} (L : Lin p m v (w + wy) f) (hF : FV P M mf p m v) {a b : List Int} {x : Int} (ha : a.length = w) (hb : b.length = wy) : f (e2 p m w (sc p m v x a) (sc p m v x b)) = Jv p m (dv p v) (inE (p ^ m) x) (f (e2 p m w a b)) := by
 rw [<- L.ml (Jfr hF a b) (Qe (by have := hF.ring.q2; omega) x)]; refine L.cg fun c hc => ?_; unfold e2; split
 .exact Jrt hF (by omega)
 .exact Jrt hF (by omega)
theorem Jsi {g : Nat} (K : Gn (p ^ m) (Jv p m (dv p v)) g) (hF : FV P M mf p m v) {f : (Nat -> Nat) -> Nat} (L : Lin p m v (w + wy) f) {S : ES} {c n : Nat} (he : Els p m S.X) (hS : Shp n w wy S) : An2 p m w f (Qv p m v S c).X (Qv p m v S c).Y ↔ An2 p m w f S.X S.Y := by
  have R := hF.ring
  have hq : 0 < p ^ m := by have := R.q2; omega
  have q1 : 1 < p ^ m := R.q2
  unfold Qv
  split
  case isFalse => exact Iff.rfl
  case isTrue h1 =>
    obtain ⟨hc, hr⟩ := h1
    have hxl := hS.xl
    have hyl := hS.yl
    have hne := (Zu S.X c S.pv.length (by omega)).2.2 hr
    have hcl : c < (row S.X (nz S.X c S.pv.length)).length := by
      rcases Nat.lt_or_ge c (row S.X (nz S.X c S.pv.length)).length with h | h
      . exact h
      . exact absurd (Jb9 h) hne
    have hel : El p m (vo (row S.X (nz S.X c S.pv.length)) c) := J4 he _ _ (Jaq hcl)
    obtain ⟨h4, h5⟩ := Jrf K hF hne hel
    generalize nz S.X c S.pv.length = r at *
    generalize S.pv.length = cur at *
    have hi := Qe (q := p ^ m) hq (Iv p m v (vo (row S.X r) c))
    have hx : ∀ t, t < S.X.length -> ∃ z : Int, row (es1 p m v c r cur S).X t = (if t = cur then sc p m v (Iv p m v (vo (row S.X r) c)) (row S.X r) else adx p m v (if t = r then row S.X cur else row S.X t) z (sc p m v (Iv p m v (vo (row S.X r) c)) (row S.X r))) /\ row (es1 p m v c r cur S).Y t = (if t = cur then sc p m v (Iv p m v (vo (row S.X r) c)) (row S.Y r) else adx p m v (if t = r then row S.Y cur else row S.Y t) z (sc p m v (Iv p m v (vo (row S.X r) c)) (row S.Y r))) := fun t ht => by
      refine ⟨Ng p m (vo (row (scq p m v (swq S.X r cur) cur (vo (row (swq S.X r cur) cur) c)) t) c), ?_, ?_⟩
      . rw [Zc, Q4 (by rw [Qa, JL]; exact ht), YD (by rw [JL]; exact hc), YD (by rw [JL]; exact hc), QQ hr hc, QQ hr hc, if_pos rfl, if_pos rfl]
        split <;> rfl
      . rw [Jgu, Q4 (by rw [Qa, JL]; omega), YD (X := swq S.Y r cur) (by rw [JL]; omega), YD (X := swq S.Y r cur) (by rw [JL]; omega), QQ (X := S.Y) (by omega) (by omega), QQ (X := S.Y) (by omega) (by omega), QQ hr hc, if_pos rfl, if_pos rfl, if_pos rfl]
        split <;> rfl
    have hn : (es1 p m v c r cur S).X.length = S.X.length := by rw [Zc, Q5, Qa, JL]
    have hcur : f (e2 p m w (row (es1 p m v c r cur S).X cur) (row (es1 p m v c r cur S).Y cur)) = Jv p m (dv p v) (inE (p ^ m) (Iv p m v (vo (row S.X r) c))) (f (e2 p m w (row S.X r) (row S.Y r))) := by
      obtain ⟨z, e1, e3⟩ := hx cur hc
      rw [e1, e3, if_pos rfl, if_pos rfl, Juc L hF (hS.xr r (by omega)) (hS.yr r (by omega))]
    have hoth : ∀ t, t < S.X.length -> t ≠ cur -> ∃ z : Nat, z < p ^ m /\ f (e2 p m w (row (es1 p m v c r cur S).X t) (row (es1 p m v c r cur S).Y t)) = JU p m (f (e2 p m w (row S.X (if t = r then cur else t)) (row S.Y (if t = r then cur else t)))) (Jv p m (dv p v) z (f (e2 p m w (row (es1 p m v c r cur S).X cur) (row (es1 p m v c r cur S).Y cur)))) := fun t ht hne' => by
      obtain ⟨z, e1, e3⟩ := hx t ht
      obtain ⟨z', e4, e5⟩ := hx cur hc
      rw [if_pos rfl] at e4 e5
      rw [if_neg hne'] at e1 e3
      refine ⟨inE (p ^ m) z, Qe hq z, ?_⟩
      rw [e1, e3, e4, e5]
      by_cases e : t = r
      . rw [if_pos e, if_pos e, if_pos e]; exact Jjl L hF (hS.xr cur (by omega)) (hS.yr cur (by omega))
      . rw [if_neg e, if_neg e, if_neg e]; exact Jjl L hF (hS.xr t (by omega)) (hS.yr t (by omega))
    refine ⟨fun h t ht => ?_, fun h t ht => ?_⟩
    . have h6 := h cur (by rw [hn]; exact hc)
      have h7 : f (e2 p m w (row S.X r) (row S.Y r)) = 0 := by
        rw [hcur] at h6
        have h8 := R.Ma h4 hi (L.lt (e2 p m w (row S.X r) (row S.Y r)))
        rw [h5, h6, R.M0 h4, R.Mc q1 (L.lt _), R.M1 (L.lt _)] at h8
        exact h8
      have key : ∀ s, s < S.X.length -> s ≠ cur -> f (e2 p m w (row S.X (if s = r then cur else s)) (row S.Y (if s = r then cur else s))) = 0 := fun s hs hsc => by
        obtain ⟨z, hz, e⟩ := hoth s hs hsc
        have h9 := h s (by rw [hn]; exact hs)
        rw [e, h6, R.M0 hz, R.Az (L.lt _)] at h9
        exact h9
      by_cases e : t = r
      . rw [e]; exact h7
      . by_cases ec : t = cur
        . have := key r hr (fun h => e (ec.trans h.symm))
          rw [if_pos rfl] at this
          rw [ec]; exact this
        . have := key t ht ec
          rw [if_neg e] at this; exact this
    . rw [hn] at ht
      have h6 : f (e2 p m w (row (es1 p m v c r cur S).X cur) (row (es1 p m v c r cur S).Y cur)) = 0 := by rw [hcur, h r hr, R.M0 hi]
      by_cases ec : t = cur
      . rw [ec]; exact h6
      . obtain ⟨z, hz, e⟩ := hoth t ht ec
        rw [e, h6, R.M0 hz, h _ (by split <;> omega), R.Az hq]
theorem Jfy {g : Nat} (K : Gn (p ^ m) (Jv p m (dv p v)) g) (hF : FV P M mf p m v) {f : (Nat -> Nat) -> Nat} (L : Lin p m v (w + wy) f) {n : Nat} {S : ES} (hS : Shp n w wy S) (he : Els p m S.X) : ∀ k, An2 p m w f (elim p m v k S).X (elim p m v k S).Y ↔ An2 p m w f S.X S.Y
 | 0 => Iff.rfl
 | k + 1 => by
  rw [Qs]; exact (Jsi K hF L (Ze (by have := hF.p2; omega) he k) (QL hS k)).trans (Jfy K hF L hS he k)
end
end Go.Proofs.Ytlfeialpcdoleaa
set_option linter.unusedVariables false
set_option linter.unusedSimpArgs false
namespace Go.Proofs.Ytlfeialpcdoleaa
section
variable {p m v : Nat} {P M : Int} {mf : List Int} {X Y : List (List Int)} {C : Int} {w wy : Nat}
theorem Jrr (hp : 0 < p) {c r cur : Nat} {S : ES} (h : Els p m S.Y) (hr : r < S.Y.length) (hc : cur < S.Y.length) : Els p m (es1 p m v c r cur S).Y := by
  rw [Jgu]
  have h1 : Els p m (swq S.Y r cur) := YC fun t ht => by
    rw [JL] at ht
    unfold swq
    split
    . exact J4 h t
    . rw [Zp hr hc]
      split
      . exact J4 h _
      . split <;> exact J4 h _
  have h2 : ∀ e, Els p m (scq p m v (swq S.Y r cur) cur e) := fun e => YC fun t ht => by
    unfold scq; rw [QH]
    split
    . exact Jk0 hp
    . exact J4 h1 t
  refine YC fun t ht => ?_
  rw [Q5] at ht
  rw [Q4 ht]
  split
  . exact J4 (h2 _) t
  . exact Jia hp (J4 (h2 _) t)
theorem Jgv (hp : 0 < p) {n : Nat} {S : ES} (hS : Shp n w wy S) (h : Els p m S.Y) : ∀ k, Els p m (elim p m v k S).Y
 | 0 => h
 | k + 1 => by
  have h1 := QL (p := p) (m := m) (v := v) hS k; have h2 := Jgv hp hS h k; rw [Qs]; unfold Qv; split
  .rename_i hc
   have hx := h1.xl; have hy := h1.yl; exact Jrr hp h2 (by omega) (by omega)
  .exact h2
theorem Jt5 (hF : FV P M mf p m v) {A z : Nat} (hA : A < p ^ m) (hz : z < p ^ m) : JU p m A (Jv p m (dv p v) (QY p m 1) z) = 0 ↔ A = z := by
  have R := hF.ring
  have hp : 0 < p := by have := hF.p2; omega
  have q1 : 1 < p ^ m := R.q2
  have hn := Zv (m := m) hp 1
  have h0 : JU p m (Jv p m (dv p v) (QY p m 1) z) z = 0 := by
    have : JU p m (Jv p m (dv p v) z (QY p m 1)) (Jv p m (dv p v) z 1) = 0 := by rw [<- R.Md hz hn q1, R.Ac, Zb hp q1, R.M0 hz]
    rwa [R.M1 hz, R.Mc hz hn] at this
  constructor
  . intro h
    have e : JU p m (JU p m A (Jv p m (dv p v) (QY p m 1) z)) z = JU p m 0 z := by rw [h]
    rw [R.Aa hA (R.Ml _ _) hz, h0, R.Az hA, R.Ac, R.Az hz] at e
    exact e
  . rintro rfl; rw [R.Ac]; exact h0
def u1 (p m w : Nat) (u : Nat -> Nat) : Nat -> Nat := fun c => if c < w then u c else QY p m 1
end
end Go.Proofs.Ytlfeialpcdoleaa
set_option linter.unusedVariables false
set_option linter.unusedSimpArgs false
namespace Go.Proofs.Ytlfeialpcdoleaa
end Go.Proofs.Ytlfeialpcdoleaa
set_option linter.unusedVariables false
set_option linter.unusedSimpArgs false
namespace Go.Proofs.Ytlfeialpcdoleaa
section
variable {p m v : Nat} {P M : Int} {mf : List Int} {X Y : List (List Int)} {C D : Int} {w wy : Nat}
def mm (p m v w : Nat) (A B : List (List Int)) : List (List Int) := (List.range A.length).map fun t => cmb p m v (row A t) w B B.length
theorem Jhp (A B : List (List Int)) : (mm p m v w A B).length = A.length := by simp [mm]
theorem Jk1 {A B : List (List Int)} {t : Nat} (h : t < A.length) : row (mm p m v w A B) t = cmb p m v (row A t) w B B.length := Zq h
theorem mm_els (hF : FV P M mf p m v) (A B : List (List Int)) : Els p m (mm p m v w A B) := fun r hr => by
 obtain ⟨t, _, rfl⟩ := List.mem_map.1 hr; exact Jnp hF _
theorem mm_en (hF : FV P M mf p m v) {A B : List (List Int)} {t c : Nat} (ht : t < A.length) (hc : c < w) : en p m (row (mm p m v w A B) t) c = fs p m (fun i => Jv p m (dv p v) (en p m (row A t) i) (en p m (row B i) c)) B.length := by
 rw [Jk1 ht, Jr0 hF hc]; rfl
theorem Jt8 {A B : List (List Int)} (hl : A.length = B.length) (ha : Els p m A) (hb : Els p m B) (hw : ∀ t, t < A.length -> (row A t).length = w /\ (row B t).length = w) (h : ∀ t c, t < A.length -> c < w -> en p m (row A t) c = en p m (row B t) c) : A = B :=
  QE hl fun t ht => YU (by rw [(hw t ht).1, (hw t ht).2]) fun c hc => by
    rw [(hw t ht).1] at hc
    have e := h t c ht hc
    have e1 := Jdg (Jaw (J4 ha t) (t := c) (by rw [(hw t ht).1]; exact hc))
    have e2 := Jdg (Jaw (J4 hb t) (t := c) (by rw [(hw t ht).2]; exact hc))
    unfold en at e
    rw [<- e1, <- e2, e]
theorem Jq2 (hF : FV P M mf p m v) {u : Nat -> Nat} (hu : ∀ c, u c < p ^ m) {q : Nat -> Nat} {r : Nat} (hq : ∀ k, k < r -> q k < w) : Lin p m v w (fun a => dt p m v r u (fun k => a (q k))) where
  lt a := (Jdm (w := r) hF hu).lt _
  cg h := (Jdm (w := r) hF hu).cg fun k hk => h _ (hq k hk)
  ad ha hb hx := (Jdm (w := r) hF hu).ad (fun k => ha _) (fun k => hb _) hx
  ml ha hx := (Jdm (w := r) hF hu).ml (fun k => ha _) hx
theorem Jtp (hF : FV P M mf p m v) {A B : List (List Int)} (hA : shp C A) (hB : shp C B) (eA : Els p m A) (eB : Els p m B) (h : ∀ f, Lin p m v C.toNat f -> Ann p m f B -> Ann p m f A) : (JV p m v C A).length <= (JV p m v C B).length := by
 rcases Nat.lt_or_ge (JV p m v C B).length (JV p m v C A).length with hlt | hge
 .exfalso; have R := hF.ring; have q1 : 1 < p ^ m := R.q2; have hq : 0 < p ^ m := by omega
  have pA := Zg (p := p) (m := m) (v := v) C A; have lA := Zf (p := p) (m := m) (v := v) hA; have lB := Zf (p := p) (m := m) (v := v) hB; have nA := YQ (p := p) (m := m) (v := v) hA; have lA2 := YX hA; have eRB : Els p m (Qn p m v C B) := Jr5 hF eB; have sRB := Jr4 (p := p) (m := m) (v := v) hB; generalize hrA : (JV p m v C A).length = r at *
  let q : Nat -> Nat := fun k => (vo (JV p m v C A) k).toNat
  have hqw : ∀ k, k < r -> q k < C.toNat := fun k hk => by have := pA.1 k (by omega); show (vo (JV p m v C A) k).toNat < _; omega
  -- the canonical rows of B at the pivots of A
  let N : List (List Int) := (List.range (Qn p m v C B).length).map fun i => (List.range r).map fun k => vo (row (Qn p m v C B) i) (q k)
  have hNl : N.length = (Qn p m v C B).length := by simp [N]
  have hNrow : ∀ i, i < (Qn p m v C B).length -> row N i = (List.range r).map fun k => vo (row (Qn p m v C B) i) (q k) := fun i hi => Zq hi; have hNs : shp (r : Int) N := by
   refine ⟨by omega, by omega, by rw [hNl]; have := YX sRB; omega, fun z hz => ?_⟩; obtain ⟨i, _, rfl⟩ := List.mem_map.1 hz; simp
  have hNe : Els p m N := fun z hz => by
   obtain ⟨i, hi, rfl⟩ := List.mem_map.1 hz; have hi := List.mem_range.1 hi; intro y hy; obtain ⟨k, hk, rfl⟩ := List.mem_map.1 hy; have hk := List.mem_range.1 hk; exact Jaw (J4 eRB i) (by rw [Yk sRB hi]; exact hqw k hk)
  have hNp := YQ (p := p) (m := m) (v := v) hNs; have hNa := Zg (p := p) (m := m) (v := v) (r : Int) N; have hbf := Jj7 (p := p) (m := m) (Qn p m v (r : Int) N) hNa; obtain ⟨fc, hfc, _⟩ := Jfv (p := p) (m := m) (n := ((r : Int)).toNat) (Qn p m v (r : Int) N) (JV p m v (r : Int) N) ((r : Int)).toNat; have h0 := hfc 0 (by omega); generalize fc 0 = t at h0; obtain ⟨ht, hnp, _⟩ := h0; rw [Int.toNat_natCast] at ht; have hfree : ∀ i, i < (JV p m v (r : Int) N).length -> (vo (JV p m v (r : Int) N) i).toNat ≠ t := fun i hi e => by
   have h1 := Jlk hnp i hi; have h2 := hNa.1 i hi; omega
  have hu := Jmx hF hNs hNe (t := t) (by omega) hfree; have hut := Jqp (p := p) (m := m) (n := ((r : Int)).toNat) (R := Qn p m v (r : Int) N) (pv := JV p m v (r : Int) N) (t := t) (by omega) (JV p m v (r : Int) N).length hfree; rw [Int.toNat_natCast] at hu hut; generalize Zm p m r (Qn p m v (r : Int) N) (JV p m v (r : Int) N) t (JV p m v (r : Int) N).length = s at *
  have hL := Jq2 (w := C.toNat) hF (u := en p m s) (fun c => QT hF _ c) (q := q) (r := r) hqw; have hB0 : Ann p m (fun a => dt p m v r (en p m s) (fun k => a (q k))) (Qn p m v C B) := fun i hi => by
   have h1 := hu i (by omega); rw [<- h1]; refine Jbr _ fun k hk => ?_; show Jv p m (dv p v) (en p m s k) (inE (p ^ m) (vo (row (Qn p m v C B) i) (q k))) = Jv p m (dv p v) (en p m s k) (inE (p ^ m) (vo (row N i) k)); rw [hNrow i hi, Jko hk]
  have hA0 := (Jh9 hF hA eA hL).2 (h _ hL ((Jh9 hF hB eB hL).1 hB0)); have h1 := hA0 t (by omega); have h2 : dt p m v r (en p m s) (fun k => en p m (row (Qn p m v C A) t) (q k)) = Jv p m (dv p v) (en p m s t) (en p m (row (Qn p m v C A) t) (q t)) := Jbw hF (f := fun k => Jv p m (dv p v) (en p m s k) (en p m (row (Qn p m v C A) t) (q k))) (R.Ml _ _) r ht fun k hk hne => by
   have h3 := Jfu hF hA eA (i := k) (t := t) (by omega) (by omega); rw [if_neg (fun e => hne e.symm)] at h3; show Jv p m (dv p v) (en p m s k) (en p m (row (Qn p m v C A) t) (q k)) = 0; rw [show en p m (row (Qn p m v C A) t) (q k) = 0 from Zd hF (z := 0) hq h3, R.M0 (QT hF _ _)]
  have h3 := Jfu hF hA eA (i := t) (t := t) (by omega) (by omega); rw [if_pos rfl] at h3; have h4 : en p m (row (Qn p m v C A) t) (q t) = 1 := Zd hF (z := 1) q1 h3; have h5 : en p m s t = 1 := Zd hF (z := 1) q1 hut; rw [h4, h5, R.M1 q1] at h2; have h6 : dt p m v r (en p m s) (fun k => en p m (row (Qn p m v C A) t) (q k)) = 0 := h1; omega
 .exact hge
end
end Go.Proofs.Ytlfeialpcdoleaa
set_option linter.unusedVariables false
set_option linter.unusedSimpArgs false
namespace Go.Proofs.Ytlfeialpcdoleaa
section
variable {P M : Int} {mf : List Int} {X : List (List Int)} {C : Int}
theorem w_mMul {Ca Cb : Int} {A B : List (List Int)} {Q : Int × List (List Int) × Int -> Prop} (hb : ∀ e, e ≠ 0 -> (mck P M mf Ca A ≠ 0 ∨ mck P M mf Cb B ≠ 0 ∨ Ca ≠ (B.length : Int)) -> Q (0, [], e))
    (h : ∀ p m v, FV P M mf p m v -> shp Ca A -> Els p m A -> shp Cb B -> Els p m B -> Ca = (B.length : Int) -> Q (Cb, mm p m v Cb.toNat A B, 0)) : Jil P M mf Ca A Cb B Q := by
  refine Jpy (ms := [(Ca, A), (Cb, B)]) (by simp) (fun hn _ => hb 1 (by decide) (.inl (by rw [Jfi hn]; decide))) (fun F p m v g K hF h0 => ?_) (fun hV hne _ => hb _ hne ?_)
  . rw [Jja] at h0
    have hA : mck P M mf Ca A = 0 := by
      by_cases e : mck P M mf Ca A = 0
      . exact e
      . rw [if_neg e] at h0; exact h0
    rw [if_pos hA] at h0
    obtain ⟨_, sA, eA⟩ := Jcl hA
    obtain ⟨_, sB, eB⟩ := Jcl h0
    have eA := (Q9 hF).1 eA
    have eB := (Q9 hF).1 eB
    obtain ⟨a1, a2, a3⟩ := YA sA
    refine ⟨fun hne => hb 10 (by decide) (.inr (.inr hne)), fun he => ?_⟩
    have hC : Ca = (B.length : Int) := Classical.not_not.1 he
    refine ⟨⟨by omega, by omega, by omega⟩, fun x z => ∃ t : Nat, z = t /\ t <= A.length /\ x.length = A.length /\ ∀ s, s < t -> row x s = row (mm p m v Cb.toNat A B) s, fun _ z => (A.length - z).toNat, ⟨0, rfl, Nat.zero_le _, by simp, fun s hs => absurd hs (Nat.not_lt_zero _)⟩, ?_⟩
    rintro x _ ⟨t, rfl, ht, hx, hv⟩
    dsimp only
    refine ⟨fun hlt => ⟨⟨by omega, by omega⟩, _, Jgg K sB (by show (row A t).length = _; rw [Yk sA (by omega)]; omega) rfl, ⟨by omega, by omega⟩, Jz (by omega) (by omega), ⟨t + 1, by push_cast; rfl, by omega, by rw [Jcc]; exact hx, fun s hs => ?_⟩, by omega⟩, fun hge => ?_⟩
    . show row (x.set t _) s = _
      rw [QH]
      by_cases e : t = s
      . subst e; rw [if_pos ⟨rfl, by omega⟩, Jk1 (by omega)]; rfl
      . rw [if_neg (fun q => e q.1)]; exact hv s (by omega)
    . rw [show x = mm p m v Cb.toNat A B from QE (by rw [Jhp]; exact hx) fun i hi => hv i (by omega)]
      exact h p m v hF sA eA sB eB hC
  . rw [Jja] at hne
    by_cases e : mck P M mf Ca A = 0
    . rw [if_pos e] at hne; exact .inr (.inl hne)
    . exact .inl e
end
end Go.Proofs.Ytlfeialpcdoleaa
set_option linter.unusedVariables false
set_option linter.unusedSimpArgs false
namespace Go.Proofs.Ytlfeialpcdoleaa
section
variable {p m v : Nat} {P M : Int} {mf : List Int} {X Y : List (List Int)} {C D : Int} {w wy : Nat}
end
end Go.Proofs.Ytlfeialpcdoleaa
set_option linter.unusedVariables false
set_option linter.unusedSimpArgs false
namespace Go.Proofs.Ytlfeialpcdoleaa
section
variable {p m v : Nat} {P M : Int} {mf : List Int} {X Y : List (List Int)} {C D : Int} {w wy : Nat}
end
end Go.Proofs.Ytlfeialpcdoleaa
set_option linter.unusedVariables false
set_option linter.unusedSimpArgs false
namespace Go.Proofs.Ytlfeialpcdoleaa
section
variable {p m v : Nat} {P M : Int} {mf : List Int} {X Y : List (List Int)} {C D : Int} {w wy n : Nat}
def jn (X Y : List (List Int)) : List (List Int) := (List.range X.length).map fun t => row X t ++ row Y t
theorem QR (X Y : List (List Int)) : (jn X Y).length = X.length := by simp [jn]
theorem Yl {t : Nat} (h : t < X.length) : row (jn X Y) t = row X t ++ row Y t := Zq h
theorem Jew (a b : List Int) (i : Nat) : vo (a ++ b) i = if i < a.length then vo a i else vo b (i - a.length) := by
 unfold vo; rw [List.getD_eq_getElem?_getD, List.getD_eq_getElem?_getD, List.getD_eq_getElem?_getD, List.getElem?_append]; split <;> rfl
theorem sc_app (x : Int) (a b : List Int) : sc p m v x (a ++ b) = sc p m v x a ++ sc p m v x b := by simp [sc]
theorem Juw {a b o r : List Int} {x : Int} (h : a.length = o.length) : adm p m v (a ++ b) x (o ++ r) = adm p m v a x o ++ adm p m v b x r := by
 refine YU (by rw [YF, List.length_append, List.length_append, YF, YF]) fun i hi => ?_; rw [YF, List.length_append] at hi; rw [Y7 (by rw [List.length_append]; exact hi), Jew, Jew, Jew, YF, <- h]; by_cases e : i < a.length
 .rw [if_pos e, if_pos e, if_pos e, Y7 e]
 .rw [if_neg e, if_neg e, if_neg e, Y7 (by omega)]
theorem Juu {a b o r : List Int} {x : Int} (h : a.length = o.length) : adx p m v (a ++ b) x (o ++ r) = adx p m v a x o ++ adx p m v b x r := by
 unfold adx; split
 .rfl
 .exact Juw h
theorem jn_swq {r cur : Nat} (hr : r < X.length) (hc : cur < X.length) (hl : Y.length = X.length) : swq (jn X Y) r cur = jn (swq X r cur) (swq Y r cur) := by
 refine QE (by rw [JL, QR, QR, JL]) fun t ht => ?_; rw [JL, QR] at ht; rw [QQ (by rw [QR]; exact hr) (by rw [QR]; exact hc), Yl hr, Yl hc, Yl ht, Yl (by rw [JL]; exact ht), QQ hr hc, QQ (X := Y) (by omega) (by omega)]; split
 .rfl
 .split <;> rfl
theorem jn_scq {cur : Nat} {e : Int} (hc : cur < X.length) (hl : Y.length = X.length) : scq p m v (jn X Y) cur e = jn (scq p m v X cur e) (scq p m v Y cur e) := by
 refine QE (by rw [Qa, QR, QR, Qa]) fun t ht => ?_; rw [Qa, QR] at ht; rw [YD (by rw [QR]; exact hc), Yl hc, Yl ht, Yl (by rw [Qa]; exact ht), YD hc, YD (X := Y) (by omega)]; split
 .exact sc_app _ _ _
 .rfl
theorem jn_clr {cur : Nat} {f : Nat -> Int} (hc : cur < X.length) (hl : Y.length = X.length) (hw : ∀ t, t < X.length -> (row X t).length = w) : clr p m v f cur (jn X Y) = jn (clr p m v f cur X) (clr p m v f cur Y) := by
 refine QE (by rw [Q5, QR, QR, Q5]) fun t ht => ?_; rw [Q5, QR] at ht; rw [Q4 (by rw [QR]; exact ht), Yl hc, Yl ht, Yl (by rw [Q5]; exact ht), Q4 ht, Q4 (X := Y) (by omega)]; split
 .rfl
 .exact Juu (by rw [hw t ht, hw cur hc])
theorem Jmn {t c : Nat} (hw : ∀ t, t < X.length -> (row X t).length = w) (hc : c < w) : vo (row (jn X Y) t) c = vo (row X t) c := by
 rcases Nat.lt_or_ge t X.length with h | h
 .rw [Yl h, Jew, if_pos (by rw [hw t h]; exact hc)]
 .rw [Jk2 (by rw [QR]; exact h), Jk2 h]
theorem nz_jn {c s : Nat} (hw : ∀ t, t < X.length -> (row X t).length = w) (hc : c < w) (hs : s <= X.length) : nz (jn X Y) c s = nz X c s := by
 have h := Zu X c s hs; refine (Jjk (Jnc X c s) (by rw [QR]; exact h.1) (fun t h1 h2 => ?_) fun h2 => ?_).symm
 .rw [Jmn hw hc]; exact h.2.1 t h1 h2
 .rw [Jmn hw hc]; exact h.2.2 (by rw [QR] at h2; exact h2)
theorem Jrq {S U : ES} (hX : U.X = jn S.X S.Y) (hp : U.pv = S.pv) (hS : Shp n w wy S) {c : Nat} (hc : c < w) : (Qv p m v U c).X = jn (Qv p m v S c).X (Qv p m v S c).Y /\ (Qv p m v U c).pv = (Qv p m v S c).pv := by
  have hxl := hS.xl; have hyl := hS.yl; have hpl := hS.pl
  have hw : ∀ t, t < S.X.length -> (row S.X t).length = w := fun t ht => hS.xr t (by omega)
  have hl : S.Y.length = S.X.length := by omega
  unfold Qv
  rw [hX, hp, QR]
  by_cases h1 : S.pv.length < S.X.length
  . rw [nz_jn hw hc (by omega)]
    split
    . rename_i h2
      obtain ⟨h2, h3⟩ := h2
      generalize nz S.X c S.pv.length = r at *
      generalize hcu : S.pv.length = cur at *
      have hw1 : ∀ t, t < (swq S.X r cur).length -> (row (swq S.X r cur) t).length = w := fun t ht => QO h3 h2 hw (by rw [JL] at ht; exact ht)
      have l1 := JL S.X r cur
      have l2 := JL S.Y r cur
      have hw2 : ∀ e t, t < (scq p m v (swq S.X r cur) cur e).length -> (row (scq p m v (swq S.X r cur) cur e) t).length = w := fun e t ht => QP (by omega) (fun t ht => hw1 t ht) (by rw [Qa] at ht; exact ht)
      refine ⟨?_, ?_⟩
      . rw [Zc, Zc, Jgu, hX, jn_swq h3 h2 hl, Jmn hw1 hc, jn_scq (by omega) (by omega)]
        have hf : (fun t => Ng p m (vo (row (jn (scq p m v (swq S.X r cur) cur (vo (row (swq S.X r cur) cur) c)) (scq p m v (swq S.Y r cur) cur (vo (row (swq S.X r cur) cur) c))) t) c)) = fun t => Ng p m (vo (row (scq p m v (swq S.X r cur) cur (vo (row (swq S.X r cur) cur) c)) t) c) := funext fun t => by rw [Jmn (hw2 _) hc]
        rw [hf]
        exact jn_clr (by rw [Qa]; omega) (by rw [Qa, Qa]; omega) (hw2 _)
      . show U.pv ++ _ = S.pv ++ _; rw [hp]
    . exact ⟨hX, hp⟩
  . rw [if_neg (fun h => h1 h.1), if_neg (fun h => h1 h.1)]
    exact ⟨hX, hp⟩
theorem Jnm {S U : ES} (hX : U.X = jn S.X S.Y) (hp : U.pv = S.pv) (hS : Shp n w wy S) : ∀ k, k <= w -> (elim p m v k U).X = jn (elim p m v k S).X (elim p m v k S).Y /\ (elim p m v k U).pv = (elim p m v k S).pv
 | 0, _ => ⟨hX, hp⟩
 | k + 1, h => by
  rw [Qs, Qs]; have ih := Jnm hX hp hS k (by omega); exact Jrq ih.1 ih.2 (QL hS k) (by omega)
end
end Go.Proofs.Ytlfeialpcdoleaa
set_option linter.unusedVariables false
set_option linter.unusedSimpArgs false
namespace Go.Proofs.Ytlfeialpcdoleaa
section
variable {p m v : Nat} {P M : Int} {mf : List Int} {X Y : List (List Int)} {C D : Int} {w wy n : Nat}
end
end Go.Proofs.Ytlfeialpcdoleaa
set_option linter.unusedVariables false
set_option linter.unusedSimpArgs false
namespace Go.Proofs.Ytlfeialpcdoleaa
section
variable {p m v : Nat} {P M : Int} {mf : List Int} {X Y : List (List Int)} {C D : Int} {w wy n : Nat}
def et (p m v : Nat) (C : Int) (X : List (List Int)) : ES := elim p m v C.toNat ⟨X, idm X.length, [], 1⟩
theorem Jba (hs : shp C X) : Shp X.length C.toNat X.length ⟨X, idm X.length, [], 1⟩ := Jhb hs (Yp _) fun t ht => by rw [Zr ht]; simp
theorem Jis {Q : Int × List (List Int) × Int × List (List Int) × Int -> Prop} (hb : mck P M mf C X ≠ 0 -> Q (0, [], 0, [], mck P M mf C X))
  (h : ∀ p m v, FV P M mf p m v -> shp C X -> Els p m X -> mck P M mf C X = 0 -> Q ((X.length : Nat), (et p m v C X).Y, C, (et p m v C X).X, 0)) : Zz P M mf C X Q := by
 refine Z1 (fun h0 _ => hb h0) fun F p m v g K hF hs he h0 => ?_; have hfin := h p m v hF hs he h0; obtain ⟨h1, h2, h3⟩ := YA hs; refine ⟨fun a z b => a = X /\ z = ((X.length : Nat) : Int) /\ b = idm X.length, ⟨_, _, Jeu (n := ((X.length : Nat) : Int)) ⟨by omega, by omega⟩ rfl, X, Jao (by omega) (YK hs) rfl, rfl, rfl, rfl⟩, ?_⟩; rintro _ _ _ ⟨rfl, rfl, rfl⟩; have e : ∀ Z, J3 F C Z (idm Z.length) = J3 F ((C.toNat : Nat) : Int) Z (idm Z.length) := fun Z => by rw [h3]
 rw [e]; exact YJ K (by omega) (by omega) (by omega) (Jba hs) ⟨True, trivial, fun _ => hfin⟩
theorem Jgn (Z : List (List Int)) : (List.range Z.length).map (row Z) = Z := QE (by simp) fun i hi => Zq (by simpa using hi)
theorem map_succ {f : Nat -> List Int} {t : Nat} : (List.range (t + 1)).map f = (List.range t).map f ++ [f t] := by rw [List.range_succ, List.map_append]; rfl
theorem Jej (hF : FV P M mf p m v) (n : Nat) : Els p m (idm n) := YC fun t ht => Jdj fun c hc => by
 have q1 : 1 < p ^ m := hF.ring.q2; rw [Yp] at ht; rw [Zr ht, J8]; split
 .exact ⟨by omega, by omega⟩
 .rw [ZC]; exact ⟨by omega, by omega⟩
theorem Jb7 {Q : Int × List (List Int) × Int × List (List Int) × Int -> Prop} (hb : mck P M mf C X ≠ 0 -> Q (0, [], 0, [], mck P M mf C X))
  (h : ∀ p m v, FV P M mf p m v -> shp C X -> Els p m X -> mck P M mf C X = 0 -> Q ((X.length : Nat), (et p m v C X).Y, C, (et p m v C X).X, 0)) : Y3 P M mf C X Q := by
 refine Joa ⟨fun e => hb e, fun e => ?_⟩; have h0 : mck P M mf C X = 0 := Classical.not_not.1 e; obtain ⟨⟨p, m, v, hF⟩, hs, he⟩ := Jcl h0; have he := (Q9 hF).1 he; have hfin := h p m v hF hs he h0; obtain ⟨h1, h2, h3⟩ := YA hs; refine Jtc (n := ((X.length : Nat) : Int)) ⟨by omega, by omega⟩ ?_; show ∃ I μ, _; rw [Int.toNat_natCast]; have hil := Yp X.length; have hir : ∀ t, t < X.length -> (row (idm X.length) t).length = X.length := fun t ht => by rw [Zr ht]; simp
 have hS := Jba hs; unfold et at hfin; have hie := Jej hF X.length; generalize idm X.length = Y at *
 refine ⟨fun x z => ∃ t : Nat, z = t /\ t <= X.length /\ x = (List.range t).map (fun t => row X t ++ row Y t), fun _ z => (X.length - z).toNat, ⟨0, rfl, Nat.zero_le _, rfl⟩, ?_⟩; rintro _ _ ⟨t, rfl, ht, rfl⟩; refine ⟨fun hlt => ?_, fun hge => ?_⟩
 .have hr : (gl X (t : Int)).length = C.toNat := Yk hs (by omega); have hr2 : (gl Y (t : Int)).length = X.length := hir t (by omega); refine ⟨fun x => x = (List.range (t + 1)).map (fun t => row X t ++ row Y t), ⟨⟨by omega, by omega⟩, by omega, ⟨by omega, by omega⟩, by omega, by rw [List.length_map, List.length_range]; omega, map_succ.symm⟩, ?_⟩; rintro _ rfl; exact ⟨Jz (by omega) (by omega), ⟨t + 1, by push_cast; rfl, by omega, rfl⟩, by dsimp only; omega⟩
 have htb : t = X.length := by omega
 have ej : (List.range t).map (fun t => row X t ++ row Y t) = jn X Y := by rw [htb]; rfl
 rw [ej]; have hjr : ∀ t, t < X.length -> (row (jn X Y) t).length = C.toNat + X.length := fun t ht => by
  rw [Yl ht, List.length_append, Yk hs ht, hir t ht]
 have hjl := QR X Y; have hSj : Shp (jn X Y).length (C.toNat + X.length) 0 ⟨jn X Y, List.replicate (jn X Y).length [], [], 1⟩ := ⟨rfl, fun t ht => hjr t (by omega), by simp, fun t ht => by rw [Jm1 ht]; rfl, Nat.zero_le _⟩
 have hje : Els p m (jn X Y) := YC fun t ht => Jdj fun c hc => by
  rw [hjl] at ht; rw [hjr t ht] at hc; rw [Yl ht, Jew, Yk hs ht]; split
  .exact Jaw (J4 he t) (by rw [Yk hs ht]; omega)
  .exact Jaw (J4 hie t) (by rw [hir t ht]; omega)
 have e : Q8 P M mf (jn X Y) C = Q8 P M mf (jn X Y) ((C.toNat : Nat) : Int) := by rw [h3]
 rw [e]; refine Jf7 hF (by omega) (show C.toNat <= C.toNat + X.length by omega) (by omega) hSj hje ?_; obtain ⟨k1, k2⟩ := Jnm (p := p) (m := m) (v := v) (S := ⟨X, Y, [], 1⟩) (U := ⟨jn X Y, List.replicate (jn X Y).length [], [], 1⟩) rfl rfl hS C.toNat (Nat.le_refl _); rw [k1, k2]; have hs2 := QL (p := p) (m := m) (v := v) hS C.toNat; generalize elim p m v C.toNat ⟨X, Y, [], 1⟩ = E at *
 have hxl := hs2.xl; have hyl := hs2.yl; have hyr := hs2.yr; have hxr := hs2.xr; have hEl := QR E.X E.Y; have hER : ∀ i, i < X.length -> gl (jn E.X E.Y) (i : Int) = row E.X i ++ row E.Y i := fun i hi => Yl (by omega); refine ⟨fun x y z => ∃ k : Nat, z = k /\ k <= X.length /\ x = (List.range k).map (row E.Y) /\ y = (List.range k).map (row E.X), fun _ _ z => (X.length - z).toNat, ⟨0, rfl, Nat.zero_le _, rfl, rfl⟩, ?_⟩; rintro _ _ _ ⟨k, rfl, hk, rfl, rfl⟩; refine ⟨fun hlt => ?_, fun hge2 => ?_⟩
 .have hkX : k < X.length := by omega
  have e1 := hxr k hkX; have e2 := hyr k hkX; rw [hER k hkX]; have t1 : (row E.X k ++ row E.Y k).take C.toNat = row E.X k := by rw [<- e1, List.take_left]
  have t2 : (row E.X k ++ row E.Y k).drop C.toNat = row E.Y k := by rw [<- e1, List.drop_left]
  rw [t1, t2, List.length_append, e1, e2]; refine ⟨fun x y => x = (List.range (k + 1)).map (row E.Y) /\ y = (List.range (k + 1)).map (row E.X), ⟨fun y => y = (List.range (k + 1)).map (row E.X), ⟨⟨by omega, by omega⟩, ⟨by omega, by omega⟩, by omega, by rw [List.length_map, List.length_range]; omega, map_succ.symm⟩, fun y hy => ⟨⟨by omega, by omega⟩, ⟨by omega, by omega⟩, by omega, by rw [List.length_map, List.length_range]; omega, map_succ.symm, hy⟩⟩, ?_⟩; rintro _ _ ⟨rfl, rfl⟩; exact ⟨Jz (by omega) (by omega), ⟨k + 1, by push_cast; rfl, by omega, rfl, rfl⟩, by dsimp only; omega⟩
 .have hkX : k = X.length := by omega
  rw [hkX]; have r1 := Jgn E.X; have r2 := Jgn E.Y; rw [hxl] at r1; rw [hyl] at r2; rw [r1, r2]; exact hfin
end
end Go.Proofs.Ytlfeialpcdoleaa
set_option linter.unusedVariables false
set_option linter.unusedSimpArgs false
namespace Go.Proofs.Ytlfeialpcdoleaa
section
variable {p m v : Nat} {P M : Int} {mf : List Int} {X Y : List (List Int)} {C D : Int} {w wy n : Nat}
theorem Jjp (hF : FV P M mf p m v) (f : Nat -> Nat) (hf : ∀ i, f i < p ^ m) (w : Nat) : ∀ k, fs p m f (w + k) = JU p m (fs p m f w) (fs p m (fun j => f (w + j)) k)
 | 0 => (hF.ring.Az (YW hF _ _)).symm
 | k + 1 => by
  have R := hF.ring; show JU p m (fs p m f (w + k)) (f (w + k)) = JU p m (fs p m f w) (JU p m (fs p m (fun j => f (w + j)) k) (f (w + k))); rw [Jjp hF f hf w k, R.Aa (YW hF _ _) (YW hF _ _) (hf _)]
def uc (p m v w c : Nat) (x : Nat -> Nat) : Nat -> Nat := fun i => if i < w then (if i = c then 1 else 0) else Jv p m (dv p v) (QY p m 1) (x (i - w))
theorem uc_lt (hF : FV P M mf p m v) {c : Nat} {x : Nat -> Nat} (i : Nat) : uc p m v w c x i < p ^ m := by
 have R := hF.ring; have q1 : 1 < p ^ m := R.q2; unfold uc; split
 .split <;> omega
 .exact R.Ml _ _
theorem Jmr (hF : FV P M mf p m v) {c : Nat} (hc : c < w) {x : Nat -> Nat} (hx : ∀ i, x i < p ^ m) (a b : List Int) :
  dt p m v (w + wy) (uc p m v w c x) (e2 p m w a b) = 0 ↔ en p m a c = fs p m (fun j => Jv p m (dv p v) (x j) (en p m b j)) wy := by
 have R := hF.ring; have q1 : 1 < p ^ m := R.q2; have hp : 0 < p := by have := hF.p2; omega
 have hn := Zv (m := m) hp 1; have e1 : fs p m (fun i => Jv p m (dv p v) (uc p m v w c x i) (e2 p m w a b i)) w = en p m a c := by
  rw [Jbw hF (f := fun i => Jv p m (dv p v) (uc p m v w c x i) (e2 p m w a b i)) (j := c) (R.Ml _ _) w hc fun i hi hne => by
   show Jv p m (dv p v) (uc p m v w c x i) _ = 0; rw [show uc p m v w c x i = 0 by unfold uc; rw [if_pos hi, if_neg hne], R.Mc (by omega) (Jfr hF _ _ _), R.M0 (Jfr hF _ _ _)]]
  show Jv p m (dv p v) (uc p m v w c x c) (e2 p m w a b c) = _; rw [show uc p m v w c x c = 1 by unfold uc; rw [if_pos hc, if_pos rfl], R.Mc q1 (Jfr hF _ _ _), R.M1 (Jfr hF _ _ _)]; unfold e2; rw [if_pos hc]
 have e3 : fs p m (fun j => Jv p m (dv p v) (uc p m v w c x (w + j)) (e2 p m w a b (w + j))) wy = Jv p m (dv p v) (QY p m 1) (fs p m (fun j => Jv p m (dv p v) (x j) (en p m b j)) wy) := by
  rw [<- Jni hF (fun j => R.Ml _ _) hn]; refine Jbr _ fun j _ => ?_; have h1 : uc p m v w c x (w + j) = Jv p m (dv p v) (QY p m 1) (x j) := by unfold uc; rw [if_neg (by omega), Nat.add_sub_cancel_left]
  have h2 : e2 p m w a b (w + j) = en p m b j := by unfold e2; rw [if_neg (by omega), Nat.add_sub_cancel_left]
  rw [h1, h2, R.Ma hn (hx j) (QT hF _ _)]
 show fs p m _ (w + wy) = 0 ↔ _; rw [Jjp hF _ (fun i => R.Ml _ _) w wy, e1, e3]; exact Jt5 hF (QT hF _ _) (YW hF _ _)
theorem Jru (hF : FV P M mf p m v) {t j : Nat} (ht : t < n) : en p m (row (idm n) t) j = if j = t then 1 else 0 := by
 have q1 : 1 < p ^ m := hF.ring.q2; rw [Zr ht]; by_cases e : j = t
 .rw [if_pos e]; exact Zd hF (z := 1) q1 (by rw [J8, if_pos ⟨e.symm, by rw [List.length_replicate]; exact ht⟩]; rfl)
 .rw [if_neg e]; exact Zd hF (z := 0) (by omega) (by rw [J8, if_neg (fun h => e h.1.symm), ZC]; rfl)
theorem Jls (hs : shp C X) : Shp X.length C.toNat X.length (et p m v C X) := QL (Jba hs) _
theorem Jnl (hF : FV P M mf p m v) (he : Els p m X) : Els p m (et p m v C X).X := Ze (S := ⟨X, idm X.length, [], 1⟩) (by have := hF.p2; omega) he C.toNat
theorem Jnk (hF : FV P M mf p m v) (hs : shp C X) : Els p m (et p m v C X).Y := Jgv (v := v) (by have := hF.p2; omega) (Jba hs) (Jej hF _) C.toNat
theorem et_mul (hF : FV P M mf p m v) (hs : shp C X) (he : Els p m X) : mm p m v C.toNat (et p m v C X).Y X = (et p m v C X).X := by
  have R := hF.ring
  have q1 : 1 < p ^ m := R.q2
  obtain ⟨g, G⟩ := Jfn hF
  have hS := Jls (p := p) (m := m) (v := v) hs
  have hxl := hS.xl; have hyl := hS.yl
  refine Jt8 (w := C.toNat) (by rw [Jhp, hyl, hxl]) (mm_els hF _ _) (Jnl hF he) (fun t ht => ?_) fun t c ht hc => ?_
  . rw [Jhp] at ht
    exact ⟨by rw [Jk1 ht, Jek], hS.xr t (by omega)⟩
  . rw [Jhp] at ht
    rw [mm_en hF ht hc]
    have hx : ∀ i, en p m (row X i) c < p ^ m := fun i => QT hF _ _
    have h0 : An2 p m C.toNat (dt p m v (C.toNat + X.length) (uc p m v C.toNat c fun i => en p m (row X i) c)) X (idm X.length) := fun t ht => by
      rw [Jmr hF hc hx]
      rw [Jbw hF (f := fun j => Jv p m (dv p v) (en p m (row X j) c) (en p m (row (idm X.length) t) j)) (j := t) (R.Ml _ _) _ ht fun i hi hne => by
        show Jv p m (dv p v) _ _ = 0
        rw [Jru hF ht, if_neg hne, R.M0 (hx i)]]
      show _ = Jv p m (dv p v) (en p m (row X t) c) (en p m (row (idm X.length) t) t)
      rw [Jru hF ht, if_pos rfl, R.M1 (hx t)]
    have h1 := (Jfy G hF (Jdm (w := C.toNat + X.length) hF fun i => uc_lt (w := C.toNat) hF (c := c) (x := fun i => en p m (row X i) c) i) (Jba hs) he C.toNat).2 h0 t (by show t < (et p m v C X).X.length; omega)
    have h2 := (Jmr (w := C.toNat) (wy := X.length) hF hc hx (row (et p m v C X).X t) (row (et p m v C X).Y t)).1 h1
    rw [h2]
    exact Jbr _ fun i _ => R.Mc (QT hF _ _) (hx i)
theorem Joh (hF : FV P M mf p m v) {f : (Nat -> Nat) -> Nat} (L : Lin p m v wy f) : Lin p m v (w + wy) (fun a => f (fun j => a (w + j))) where
 lt a := L.lt _
 cg h := L.cg fun c hc => h _ (by omega)
 ad ha hb hx := L.ad (fun c => ha _) (fun c => hb _) hx
 ml ha hx := L.ml (fun c => ha _) hx
theorem Jul (hF : FV P M mf p m v) (hs : shp C X) (he : Els p m X) (hsY : shp (X.length : Int) (et p m v C X).Y) : X.length <= (JV p m v (X.length : Int) (et p m v C X).Y).length := by
  obtain ⟨g, G⟩ := Jfn hF
  obtain ⟨h1, h2, h3⟩ := YA hs
  have hS := Jls (p := p) (m := m) (v := v) hs
  have hsI : shp (X.length : Int) (idm X.length) := ⟨by omega, by omega, by rw [Yp]; exact h1, fun r hr => by
    obtain ⟨t, ht, rfl⟩ := YE hr
    rw [Yp] at ht
    rw [Zr ht]; simp⟩
  have hle := Jtp hF hsI hsY (Jej hF _) (Jnk hF hs) fun f L hf => ?_
  . have hfull := Jr2 hF hsI (Jej hF _) (fun j => j) (fun j hj => by rw [Yp] at hj; omega) fun i j hi hj => by
      rw [Yp] at hi hj
      rw [Zr hi, J8]
      by_cases e : i = j
      . rw [if_pos ⟨e, by rw [List.length_replicate]; exact hi⟩, if_pos e]
      . rw [if_neg (fun h => e h.1), if_neg e, ZC]
    rw [hfull, Yp] at hle
    exact hle
  . have hR := Joh (w := C.toNat) hF L
    have key : ∀ (a b : List Int), (fun j => e2 p m C.toNat a b (C.toNat + j)) = en p m b := fun a b => funext fun j => by
      unfold e2; rw [if_neg (by omega), Nat.add_sub_cancel_left]
    have hxl := hS.xl; have hyl := hS.yl
    have h0 : An2 p m C.toNat (fun a => f (fun j => a (C.toNat + j))) (et p m v C X).X (et p m v C X).Y := fun t ht => by
      show f _ = 0
      rw [key]; exact hf t (by omega)
    rw [Int.toNat_natCast] at hR
    have h4 := (Jfy G hF hR (Jba hs) he C.toNat).1 h0
    intro t ht
    rw [Yp] at ht
    have h5 := h4 t ht
    rw [<- key (row X t) (row (idm X.length) t)]; exact h5
end
theorem Jbk (P M : Int) (mf : List Int) (C : Int) (X : List (List Int)) : Jal P M mf C X (fun r => r = true) := by
 refine Jg5 ⟨fun h => absurd h (by decide), fun _ => w_rFew ⟨by omega, by omega⟩ (fun h1 h2 h3 => ⟨fun h => absurd h (by decide), fun _ => ⟨fun _ => Jg5 rfl, fun hb => ?_⟩⟩) ⟨fun _ => Jg5 rfl, fun h => absurd h (by decide)⟩⟩; refine Jis (fun h0 => Jb7 (fun _ => ⟨fun h => absurd rfl h, fun _ => Zo (by simp) (by simp) ⟨fun h => absurd h (by decide), fun _ => Zo (by simp) (by simp) ⟨fun h => absurd h (by decide), fun _ => ⟨fun _ => rfl, fun h => absurd h0 h⟩⟩⟩⟩) fun p m v hF hs he hk => absurd hk h0) fun p m v hF hs he hk => ?_; refine Jb7 (fun h0 => absurd hk h0) fun p' m' v' hF' _ _ _ => ?_; obtain ⟨rfl, rfl, rfl⟩ := hF.uniq3 hF'; obtain ⟨l1, l2, l3⟩ := YA hs; have hS := Jls (p := p) (m := m) (v := v) hs; have hmul := et_mul hF hs he; have eX := Jnl (C := C) hF he; have eY := Jnk hF hs; have sX : shp C (et p m v C X).X := ⟨hs.1, hs.2.1, by rw [hS.xl]; exact l1, fun r hr => by
  obtain ⟨t, ht, rfl⟩ := YE hr; rw [hS.xr t (by have := hS.xl; omega)]; exact l3⟩
 have sY : shp (X.length : Int) (et p m v C X).Y := ⟨by omega, by omega, by rw [hS.yl]; exact l1, fun r hr => by
  obtain ⟨t, ht, rfl⟩ := YE hr; rw [hS.yr t (by have := hS.yl; omega)]⟩
 have hrk := Jul hF hs he sY; have hyl := hS.yl; generalize (et p m v C X).X = R at *
 generalize (et p m v C X).Y = T1 at *
 have ok : ∀ {D : Int} {Z : List (List Int)}, shp D Z -> Els p m Z -> mck P M mf D Z = 0 := fun s e => Jfh ⟨p, m, v, hF⟩ s ((Q9 hF).2 e); refine ⟨fun h => absurd rfl h, fun _ => Zo (by have := YX sY; omega) (YK sY) ⟨fun h => absurd h (by decide), fun _ => Zo (by have := YX sX; omega) (YK sX) ⟨fun h => absurd h (by decide), fun _ => ⟨fun h => absurd rfl h, fun _ => ?_⟩⟩⟩⟩; refine w_mMul (fun e he' hor => ?_) fun p' m' v' hF' _ _ _ _ _ => ?_
 .rcases hor with h | h | h
  .exact absurd (ok sY eY) h
  .exact absurd hk h
  .exact absurd rfl h
 obtain ⟨rfl, rfl, rfl⟩ := hF.uniq3 hF'; rw [hmul]; refine Jgh (fun h => absurd (Jkx (ok sY eY) (by omega)) h) fun p' m' v' hF' _ _ _ _ => ⟨fun hlt => ?_, fun _ => ?_⟩
 .obtain ⟨rfl, rfl, rfl⟩ := hF.uniq3 hF'; have e : (ei p m v (X.length : Int) T1).pv = JV p m v (X.length : Int) T1 := (Jdl (S := ⟨T1, idm ((X.length : Int)).toNat, [], 1⟩) (U := ⟨T1, List.replicate T1.length [], [], 1⟩) rfl rfl _).2; rw [e] at hlt; omega
 .exact ⟨fun _ => ⟨fun _ => Zo (by have := YX sX; omega) (YK sX) rfl, fun h => absurd rfl h⟩, fun h => absurd rfl h⟩
end Go.Proofs.Ytlfeialpcdoleaa
