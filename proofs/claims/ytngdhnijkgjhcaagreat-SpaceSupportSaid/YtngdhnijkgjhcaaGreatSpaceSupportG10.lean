/- Contracts of functions of the program, and what they lean on: M11, M12, M13, M14, M15, M16, M17, M18, M19, M20, M21, M22, M23, M24, S1, S2, S3, S4, S5, S6, S7, S8, S9, S10, S11, S12, D21, S13, D20, S14, S15, S16. -/
import Derived.Test.YtngdhnijkgjhcaaGreatSpaceSupportG9
set_option linter.unusedVariables false
set_option linter.unusedSimpArgs false
namespace Go.Proofs.YtngdhnijkgjhcaaGreat
section
variable {p m v g : Nat} {P M : Int} {mf : List Int} {X Y : List (List Int)} {C : Int} {w : Nat}
def fs (p m : Nat) (f : Nat -> Nat) : Nat -> Nat
  | 0 => 0
  | n + 1 => JS p m (fs p m f n) (f n)
theorem Zs (hF : FV P M mf p m v) (f : Nat -> Nat) : ∀ n, fs p m f n < p ^ m
 | 0 => by have := hF.ring.q2; show 0 < _; omega
 | n + 1 => hF.ring.Al _ _
theorem YX {f h : Nat -> Nat} : ∀ n, (∀ i, i < n -> f i = h i) -> fs p m f n = fs p m h n
 | 0, _ => rfl
 | n + 1, e => by show JS p m _ _ = JS p m _ _; rw [YX n fun i hi => e i (by omega), e n (by omega)]
theorem mix (hF : FV P M mf p m v) {a b c d : Nat} (ha : a < p ^ m) (hb : b < p ^ m) (hc : c < p ^ m) (hd : d < p ^ m) : JS p m (JS p m a b) (JS p m c d) = JS p m (JS p m a c) (JS p m b d) := by
 have R := hF.ring; rw [R.Aa ha hb (R.Al _ _), <- R.Aa hb hc hd, R.Ac b c, R.Aa hc hb hd, <- R.Aa ha hc (R.Al _ _)]
theorem Jeo (hF : FV P M mf p m v) {f h : Nat -> Nat} {x : Nat} (hf : ∀ i, f i < p ^ m) (hh : ∀ i, h i < p ^ m) (hx : x < p ^ m) : ∀ n, fs p m (fun i => JS p m (f i) (Jt p m (dv p v) x (h i))) n = JS p m (fs p m f n) (Jt p m (dv p v) x (fs p m h n))
 | 0 => by
  have R := hF.ring; show 0 = JS p m 0 (Jt p m (dv p v) x 0); rw [R.M0 hx, R.Az (by have := R.q2; omega)]
 | n + 1 => by
  have R := hF.ring; show JS p m (fs p m _ n) _ = JS p m (JS p m _ _) (Jt p m (dv p v) x (JS p m _ _)); rw [Jeo hF hf hh hx n, R.Md hx (Zs hF h n) (hh n), mix hF (Zs hF f n) (R.Ml _ _) (hf n) (R.Ml _ _)]
theorem Jxi (hF : FV P M mf p m v) {f : Nat -> Nat} {x : Nat} (hf : ∀ i, f i < p ^ m) (hx : x < p ^ m) : ∀ n, fs p m (fun i => Jt p m (dv p v) x (f i)) n = Jt p m (dv p v) x (fs p m f n)
 | 0 => by show 0 = Jt p m (dv p v) x 0; rw [hF.ring.M0 hx]
 | n + 1 => by
  show JS p m (fs p m _ n) _ = Jt p m (dv p v) x (JS p m _ _); rw [Jxi hF hf hx n, hF.ring.Md hx (Zs hF f n) (hf n)]
theorem QT (hF : FV P M mf p m v) {f : Nat -> Nat} : ∀ n, (∀ i, i < n -> f i = 0) -> fs p m f n = 0
 | 0, _ => rfl
 | n + 1, h => by
  show JS p m (fs p m f n) (f n) = 0; rw [QT hF n fun i hi => h i (by omega), h n (by omega), hF.ring.Az (by have := hF.ring.q2; omega)]
theorem Y6 (hF : FV P M mf p m v) {f : Nat -> Nat} {j : Nat} (hj : f j < p ^ m) : ∀ n, j < n -> (∀ i, i < n -> i ≠ j -> f i = 0) -> fs p m f n = f j
 | 0, h, _ => absurd h (Nat.not_lt_zero _)
 | n + 1, h, e => by
  have R := hF.ring; show JS p m (fs p m f n) (f n) = f j; by_cases en : n = j
  .subst en; rw [QT hF n fun i hi => e i (by omega) (by omega), R.Ac, R.Az hj]
  .rw [Y6 hF hj n (by omega) fun i hi => e i (by omega), e n (by omega) en, R.Az hj]
def cof (p m v c r : Nat) (pv : Nat -> Nat) (nR : Nat -> Nat) (a : Nat -> Nat) : Nat := JS p m (a c) (fs p m (fun i => Jt p m (dv p v) (nR i) (a (pv i))) r)
theorem Jrd (hF : FV P M mf p m v) {c r : Nat} {pv nR : Nat -> Nat} (hc : c < w) (hpv : ∀ i, i < r -> pv i < w) (hn : ∀ i, nR i < p ^ m) : Lin p m v w (cof p m v c r pv nR) where
 lt a := hF.ring.Al _ _
 cg h := by
  unfold cof; rw [h c hc, YX r fun i hi => by rw [h _ (hpv i hi)]]
 ad {a b x} ha hb hx := by
  have R := hF.ring; unfold cof; have e : (fun i => Jt p m (dv p v) (nR i) (JS p m (a (pv i)) (Jt p m (dv p v) x (b (pv i))))) = fun i => JS p m (Jt p m (dv p v) (nR i) (a (pv i))) (Jt p m (dv p v) x (Jt p m (dv p v) (nR i) (b (pv i)))) := funext fun i => by
   rw [R.Md (hn i) (ha _) (R.Ml _ _), <- R.Ma (hn i) hx (hb _), R.Mc (hn i) hx, R.Ma hx (hn i) (hb _)]
  rw [e, Jeo hF (fun i => R.Ml _ _) (fun i => R.Ml _ _) hx, mix hF (ha c) (R.Ml _ _) (Zs hF _ _) (R.Ml _ _), <- R.Md hx (hb c) (Zs hF _ _)]
 ml {a x} ha hx := by
  have R := hF.ring; unfold cof; have e : (fun i => Jt p m (dv p v) (nR i) (Jt p m (dv p v) x (a (pv i)))) = fun i => Jt p m (dv p v) x (Jt p m (dv p v) (nR i) (a (pv i))) := funext fun i => by
   rw [<- R.Ma (hn i) hx (ha _), R.Mc (hn i) hx, R.Ma hx (hn i) (ha _)]
  rw [e, Jxi hF (fun i => R.Ml _ _) hx, <- R.Md hx (ha c) (Zs hF _ _)]
theorem Jn1 (hF : FV P M mf p m v) : ∃ g, Gn (p ^ m) (Jt p m (dv p v)) g := hF.gen
end
end Go.Proofs.YtngdhnijkgjhcaaGreat
set_option linter.unusedVariables false
set_option linter.unusedSimpArgs false
namespace Go.Proofs.YtngdhnijkgjhcaaGreat
section
variable {p m v g : Nat} {P M : Int} {mf : List Int} {X Y : List (List Int)} {C : Int} {w : Nat}
theorem Yn (hF : FV P M mf p m v) {l : List Int} {c : Nat} {z : Nat} (hz : z < p ^ m) (h : vo l c = (z : Int)) : en p m l c = z := by unfold en; rw [h]; exact Ql hz
theorem Jfk (hF : FV P M mf p m v) (hs : shp C X) (he : Els p m X) : Red C.toNat (ec p m v C X) := by
 obtain ⟨g, G⟩ := Jn1 hF; exact Jk3 G hF (Jbt hs) he rfl _
theorem Jxx (hF : FV P M mf p m v) (hs : shp C X) (he : Els p m X) {t c : Nat} (ht : t < X.length) (hc : c < C.toNat) :
    en p m (row X t) c = fs p m (fun i => Jt p m (dv p v) (en p m (row X t) (vo (JA p m v C X) i).toNat) (en p m (row (JI p m v C X) i) c)) (JA p m v C X).length := by
  have R := hF.ring
  have q1 : 1 < p ^ m := R.q2
  have hp : 0 < p := by have := hF.p2; omega
  obtain ⟨g, G⟩ := Jn1 hF
  have hS := Jbm (p := p) (m := m) (v := v) hs
  have red := Jfk hF hs he
  have hasc := Qp (p := p) (m := m) (v := v) C X
  have hr : (JA p m v C X).length <= X.length := Ya hs
  have hrow : ∀ i, i < (JA p m v C X).length -> row (JI p m v C X) i = row (ec p m v C X).X i := fun i hi => Zo hi
  have hneg : ∀ y, y < p ^ m -> Qz p m y < p ^ m := fun y _ => QU hp y
  have L := Jrd (w := C.toNat) hF (c := c) (r := (JA p m v C X).length) (pv := fun i => (vo (JA p m v C X) i).toNat) (nR := fun i => Qz p m (en p m (row (ec p m v C X).X i) c)) hc (fun i hi => by have := hasc.1 i hi; show (vo (JA p m v C X) i).toNat < _; omega) (fun i => hneg _ (JN hF _ _))
  have hann := Jhe G hF L (Jbt hs) he C.toNat (fun s hsl => by
    have hsl' : s < X.length := by have := hS.xl; exact Nat.lt_of_lt_of_eq hsl this
    show cof _ _ _ _ _ _ _ (en p m (row (ec p m v C X).X s)) = 0
    unfold cof
    by_cases hsr : s < (JA p m v C X).length
    . have hd : ∀ i, i < (JA p m v C X).length -> en p m (row (ec p m v C X).X s) (vo (JA p m v C X) i).toNat = if s = i then 1 else 0 := fun i hi => by
        have := red.one i hi s hsl
        by_cases e : s = i
        . rw [if_pos e] at this ⊢; exact Yn hF q1 this
        . rw [if_neg e] at this ⊢; exact Yn hF (by omega) this
      have h9 := Y6 hF (f := fun i => Jt p m (dv p v) (Qz p m (en p m (row (ec p m v C X).X i) c)) (en p m (row (ec p m v C X).X s) (vo (JA p m v C X) i).toNat)) (j := s) (R.Ml _ _) _ hsr fun i hi hne => by
        show Jt p m (dv p v) _ _ = 0
        rw [hd i hi, if_neg (fun e => hne e.symm), R.M0 (hneg _ (JN hF _ _))]
      show JS p m _ (fs p m (fun i => Jt p m (dv p v) (Qz p m (en p m (row (ec p m v C X).X i) c)) (en p m (row (ec p m v C X).X s) (vo (JA p m v C X) i).toNat)) (JA p m v C X).length) = 0
      rw [h9]
      show JS p m _ (Jt p m (dv p v) _ _) = 0
      rw [hd s hsr, if_pos rfl, R.M1 (hneg _ (JN hF _ _))]
      exact QL hp (JN hF _ _)
    . have hz : ∀ d, d < C.toNat -> en p m (row (ec p m v C X).X s) d = 0 := fun d hd => Yn hF (by omega) (red.lo s (by show (JA p m v C X).length <= s; omega) hsl d hd)
      rw [hz c hc, QT hF _ fun i hi => by
        show Jt p m (dv p v) _ _ = 0
        rw [hz (vo (JA p m v C X) i).toNat (by have := hasc.1 i hi; omega), R.M0 (hneg _ (JN hF _ _))], R.Az (by omega)]) t ht
  unfold cof at hann
  have hG := Zs hF (fun i => Jt p m (dv p v) (en p m (row X t) (vo (JA p m v C X) i).toNat) (en p m (row (JI p m v C X) i) c)) (JA p m v C X).length
  have hN := Zs hF (fun i => Jt p m (dv p v) (Qz p m (en p m (row (ec p m v C X).X i) c)) (en p m (row X t) (vo (JA p m v C X) i).toNat)) (JA p m v C X).length
  have hGN : JS p m (fs p m (fun i => Jt p m (dv p v) (en p m (row X t) (vo (JA p m v C X) i).toNat) (en p m (row (JI p m v C X) i) c)) (JA p m v C X).length) (fs p m (fun i => Jt p m (dv p v) (Qz p m (en p m (row (ec p m v C X).X i) c)) (en p m (row X t) (vo (JA p m v C X) i).toNat)) (JA p m v C X).length) = 0 := by
    have h1 := Jeo hF (f := fun i => Jt p m (dv p v) (en p m (row X t) (vo (JA p m v C X) i).toNat) (en p m (row (JI p m v C X) i) c)) (h := fun i => Jt p m (dv p v) (Qz p m (en p m (row (ec p m v C X).X i) c)) (en p m (row X t) (vo (JA p m v C X) i).toNat)) (x := 1) (fun i => R.Ml _ _) (fun i => R.Ml _ _) q1 (JA p m v C X).length
    rw [R.Mc q1 hN, R.M1 hN] at h1
    rw [<- h1]
    refine QT hF _ fun i hi => ?_
    show JS p m (Jt p m (dv p v) _ _) (Jt p m (dv p v) 1 (Jt p m (dv p v) _ _)) = 0
    have ha := JN hF (row X t) (vo (JA p m v C X) i).toNat
    have hb := JN hF (row (ec p m v C X).X i) c
    rw [R.Mc q1 (R.Ml _ _), R.M1 (R.Ml _ _), hrow i hi, R.Mc (hneg _ hb) ha, <- R.Md ha hb (hneg _ hb), QL hp hb, R.M0 ha]
  have hx := JN hF (row X t) c
  generalize fs p m (fun i => Jt p m (dv p v) (en p m (row X t) (vo (JA p m v C X) i).toNat) (en p m (row (JI p m v C X) i) c)) (JA p m v C X).length = G1 at *
  generalize fs p m (fun i => Jt p m (dv p v) (Qz p m (en p m (row (ec p m v C X).X i) c)) (en p m (row X t) (vo (JA p m v C X) i).toNat)) (JA p m v C X).length = N1 at *
  generalize en p m (row X t) c = a at *
  calc a = JS p m a (JS p m G1 N1) := by rw [hGN, R.Az hx]
    _ = JS p m G1 (JS p m a N1) := by rw [<- R.Aa hx hG hN, R.Ac a G1, R.Aa hG hx hN]
    _ = G1 := by rw [hann, R.Az hG]
theorem Jju (hF : FV P M mf p m v) {x : List Int} {n c : Nat} {Z : List (List Int)} (hc : c < n) : ∀ k, en p m (cmb p m v x n Z k) c = fs p m (fun i => Jt p m (dv p v) (inE (p ^ m) (vo x i)) (en p m (row Z i) c)) k
 | 0 => by
  show en p m (List.replicate n 0) c = 0; exact Yn hF (by have := hF.ring.q2; omega) (Jbc n c)
 | k + 1 => by
  rw [Jbo, Jjp hF (by rw [Jdv]; exact hc), Jju hF hc k]; rfl
theorem Jrf (hF : FV P M mf p m v) {x : List Int} {n : Nat} {Z : List (List Int)} : ∀ k, Elr p m (cmb p m v x n Z k)
 | 0 => Jc0 fun t ht => by
  have : vo (cmb p m v x n Z 0) t = 0 := Jbc n t; rw [this]; exact Jeq (q := 0) (by have := hF.ring.q2; omega)
 | k + 1 => by rw [Jbo]; exact Jj1 (by have := hF.p2; omega) (Jrf hF k)
theorem Q1 (hF : FV P M mf p m v) (he : Els p m X) : Els p m (JI p m v C X) := fun r hr => Jds (S := ⟨X, List.replicate X.length [], [], 1⟩) (by have := hF.p2; omega) he C.toNat r (List.mem_of_mem_take hr)
theorem Q0 (hF : FV P M mf p m v) (hs : shp C X) (he : Els p m X) {i t : Nat} (hi : i < (JA p m v C X).length) (ht : t < (JA p m v C X).length) : vo (row (JI p m v C X) t) (vo (JA p m v C X) i).toNat = if t = i then 1 else 0 := by
 have hS := Jbm (p := p) (m := m) (v := v) hs; have := Ya (p := p) (m := m) (v := v) hs; rw [show row (JI p m v C X) t = row (ec p m v C X).X t from Zo ht]; exact (Jfk hF hs he).one i hi t (by have := hS.xl; omega)
theorem Jg9 (hF : FV P M mf p m v) (hs : shp C X) (he : Els p m X) {i c : Nat} (hi : i < (JA p m v C X).length) (hc : (c : Int) < vo (JA p m v C X) i) : vo (row (JI p m v C X) i) c = 0 := by
 rw [show row (JI p m v C X) i = row (ec p m v C X).X i from Zo hi]; exact (Jfk hF hs he).lf i hi c hc
end
end Go.Proofs.YtngdhnijkgjhcaaGreat
set_option linter.unusedVariables false
set_option linter.unusedSimpArgs false
namespace Go.Proofs.YtngdhnijkgjhcaaGreat
end Go.Proofs.YtngdhnijkgjhcaaGreat
set_option linter.unusedVariables false
set_option linter.unusedSimpArgs false
namespace Go.Proofs.YtngdhnijkgjhcaaGreat
section
variable {p m v : Nat} {P M : Int} {mf : List Int} {X Y : List (List Int)} {C : Int} {w : Nat}
theorem Jx7 {f : (Nat -> Nat) -> Nat} {r cur : Nat} (hr : r < X.length) (hc : cur < X.length) (h : Ann p m f X) : Ann p m f (swq X r cur) := fun t ht => by
  rw [J6] at ht
  rw [Jak hr hc]
  split
  . exact h r hr
  . split
    . exact h cur hc
    . exact h t ht
theorem Jx9 {f : (Nat -> Nat) -> Nat} (L : Lin p m v w f) (hF : FV P M mf p m v) {cur : Nat} {e : Int} (hc : cur < X.length) (hw : (row X cur).length = w) (h : Ann p m f X) : Ann p m f (scq p m v X cur e) := fun t ht => by
 rw [QE] at ht; rw [Ji5 hc]; split
 .rw [L.sc hF hw, h cur hc, hF.ring.M0 (J5 (by have := hF.ring.q2; omega) _)]
 .exact h t ht
theorem Jya {f : (Nat -> Nat) -> Nat} (L : Lin p m v w f) (hF : FV P M mf p m v) {cur : Nat} {g : Nat -> Int} (hc : cur < X.length) (hw : ∀ t, t < X.length -> (row X t).length = w) (h : Ann p m f X) : Ann p m f (clr p m v g cur X) := fun t ht => by
 have R := hF.ring; have hq : 0 < p ^ m := by have := R.q2; omega
 rw [Zf] at ht; rw [ZC ht]; split
 .exact h t ht
 .rw [L.adx hF (hw t ht), h cur hc, h t ht, R.M0 (J5 hq _), R.Az hq]
theorem Jtj (hF : FV P M mf p m v) {f : (Nat -> Nat) -> Nat} (L : Lin p m v w f) {S : ES} {c : Nat} (hw : ∀ t, t < S.X.length -> (row S.X t).length = w) (h : Ann p m f S.X) : Ann p m f (YI p m v S c).X := by
 unfold YI; split
 .rename_i h1
  obtain ⟨hc, hr⟩ := h1; rw [Jdr]; have hw1 : ∀ t, t < (swq S.X (nz S.X c S.pv.length) S.pv.length).length -> (row (swq S.X (nz S.X c S.pv.length) S.pv.length) t).length = w := fun t ht => by
   rw [J6] at ht; exact Yk hr hc hw ht
  exact Jya L hF (by rw [QE, J6]; exact hc) (fun t ht => by rw [QE] at ht; exact Yl (by rw [J6]; exact hc) hw1 ht) (Jx9 L hF (by rw [J6]; exact hc) (hw1 _ (by rw [J6]; exact hc)) (Jx7 hr hc h))
 .exact h
theorem Jiq (hF : FV P M mf p m v) {f : (Nat -> Nat) -> Nat} (L : Lin p m v w f) {n wy : Nat} {S : ES} (hS : Shp n w wy S) (h : Ann p m f S.X) : ∀ k, Ann p m f (elim p m v k S).X
 | 0 => h
 | k + 1 => by
  rw [Q5]; have hk := Z3 (p := p) (m := m) (v := v) hS k; exact Jtj hF L (fun t ht => hk.xr t (by have := hk.xl; omega)) (Jiq hF L hS h k)
theorem Qy (hF : FV P M mf p m v) (hs : shp C X) (he : Els p m X) {f : (Nat -> Nat) -> Nat} (L : Lin p m v C.toNat f) : Ann p m f (JI p m v C X) ↔ Ann p m f X := by
  have R := hF.ring
  have hq : 0 < p ^ m := by have := R.q2; omega
  obtain ⟨g, G⟩ := Jn1 hF
  have hS := Jbm (p := p) (m := m) (v := v) hs
  have red := Jfk hF hs he
  have hl := Qm (p := p) (m := m) (v := v) hs
  have hpl := Ya (p := p) (m := m) (v := v) hs
  have f0 : ∀ a : Nat -> Nat, (∀ c, c < C.toNat -> a c = 0) -> f a = 0 := fun a ha => by
    have h1 := L.ml (a := fun _ => 0) (x := 0) (fun _ => hq) hq
    rw [R.Mc hq (L.lt _), R.M0 (L.lt _)] at h1
    rw [<- h1]
    exact L.cg fun c hc => by rw [ha c hc, R.M0 hq]
  refine ⟨fun h => Jhe G hF L (Jbt hs) he C.toNat fun t ht => ?_, fun h t ht => ?_⟩
  . by_cases hr : t < (JA p m v C X).length
    . have := h t (by omega)
      rwa [show row (JI p m v C X) t = row (ec p m v C X).X t from Zo hr] at this
    . exact f0 _ fun c hc => Yn hF hq (red.lo t (by show (JA p m v C X).length <= t; omega) ht c hc)
  . rw [show row (JI p m v C X) t = row (ec p m v C X).X t from Zo (by show t < (JA p m v C X).length; omega)]
    exact Jiq hF L (Jbt hs) h C.toNat t (by have := hS.xl; show t < (ec p m v C X).X.length; omega)
end
end Go.Proofs.YtngdhnijkgjhcaaGreat
set_option linter.unusedVariables false
set_option linter.unusedSimpArgs false
namespace Go.Proofs.YtngdhnijkgjhcaaGreat
section
variable {p m v : Nat} {P M : Int} {mf : List Int} {X Y : List (List Int)} {C : Int} {w : Nat}
def dt (p m v w : Nat) (u a : Nat -> Nat) : Nat := fs p m (fun c => Jt p m (dv p v) (u c) (a c)) w
theorem ZS (hF : FV P M mf p m v) {u : Nat -> Nat} (hu : ∀ c, u c < p ^ m) : Lin p m v w (dt p m v w u) where
 lt a := Zs hF _ _
 cg h := YX _ fun c hc => by rw [h c hc]
 ad {a b x} ha hb hx := by
  have R := hF.ring; unfold dt; have e : (fun c => Jt p m (dv p v) (u c) (JS p m (a c) (Jt p m (dv p v) x (b c)))) = fun c => JS p m (Jt p m (dv p v) (u c) (a c)) (Jt p m (dv p v) x (Jt p m (dv p v) (u c) (b c))) := funext fun c => by
   rw [R.Md (hu c) (ha _) (R.Ml _ _), <- R.Ma (hu c) hx (hb _), R.Mc (hu c) hx, R.Ma hx (hu c) (hb _)]
  rw [e, Jeo hF (fun c => R.Ml _ _) (fun c => R.Ml _ _) hx]
 ml {a x} ha hx := by
  have R := hF.ring; unfold dt; have e : (fun c => Jt p m (dv p v) (u c) (Jt p m (dv p v) x (a c))) = fun c => Jt p m (dv p v) x (Jt p m (dv p v) (u c) (a c)) := funext fun c => by
   rw [<- R.Ma (hu c) hx (ha _), R.Mc (hu c) hx, R.Ma hx (hu c) (ha _)]
  rw [e, Jxi hF (fun c => R.Ml _ _) hx]
theorem Jn5 (hF : FV P M mf p m v) {u u' a : Nat -> Nat} {d y : Nat} (ha : ∀ c, a c < p ^ m) (hy : y < p ^ m) (h0 : u d = 0) (h : ∀ c, u' c = if c = d then y else u c) : ∀ w, d < w -> dt p m v w u' a = JS p m (dt p m v w u a) (Jt p m (dv p v) y (a d))
 | 0, hd => absurd hd (Nat.not_lt_zero _)
 | k + 1, hd => by
  have R := hF.ring; have hq : 0 < p ^ m := by have := R.q2; omega
  show JS p m (dt p m v k u' a) (Jt p m (dv p v) (u' k) (a k)) = JS p m (JS p m (dt p m v k u a) (Jt p m (dv p v) (u k) (a k))) (Jt p m (dv p v) y (a d)); have hD : dt p m v k u a < p ^ m := Zs hF (fun c => Jt p m (dv p v) (u c) (a c)) k; by_cases e : k = d
  .subst e; have e1 : dt p m v k u' a = dt p m v k u a := YX _ fun c hc => by rw [h c, if_neg (by omega)]
   rw [e1, h k, if_pos rfl, h0, R.Mc hq (ha k), R.M0 (ha k), R.Az hD]
  .rw [Jn5 hF ha hy h0 h k (by omega), h k, if_neg e, R.Aa hD (R.Ml _ _) (R.Ml _ _), R.Aa hD (R.Ml _ _) (R.Ml _ _), R.Ac (Jt p m (dv p v) y (a d))]
theorem Jbd {n t d : Nat} {R : List (List Int)} {pv : List Int} (hd : d ≠ t) : ∀ k, (∀ i, i < k -> (vo pv i).toNat ≠ d) -> vo (YJ p m n R pv t k) d = 0
 | 0, _ => by
  show vo ((List.replicate n (0 : Int)).set t 1) d = 0; rw [Qn, if_neg (fun h => hd h.1.symm)]; exact Jbc n d
 | k + 1, h => by
  rw [Zk, Qn, if_neg (fun e => h k (by omega) e.1)]; exact Jbd hd k fun i hi => h i (by omega)
theorem Jxr (hF : FV P M mf p m v) {n t : Nat} {R : List (List Int)} {pv : List Int} (ht : t < n) (hp : Asc n pv) (hf : ∀ i, i < pv.length -> (vo pv i).toNat ≠ t) {a : Nat -> Nat} (ha : ∀ c, a c < p ^ m) : ∀ k, k <= pv.length ->
  dt p m v n (en p m (YJ p m n R pv t k)) a = cof p m v t k (fun i => (vo pv i).toNat) (fun i => Qz p m (en p m (row R i) t)) a
 | 0, _ => by
  have R' := hF.ring; have q1 : 1 < p ^ m := R'.q2; have h1 := Jn5 (w := n) hF (u := fun _ => 0) (u' := en p m (YJ p m n R pv t 0)) (a := a) (d := t) (y := 1) ha q1 rfl (fun c => by
   show inE (p ^ m) (vo ((List.replicate n (0 : Int)).set t 1) c) = _; rw [Qn]; by_cases e : t = c
   .rw [if_pos ⟨e, by rw [List.length_replicate]; exact ht⟩, if_pos e.symm]; exact Ql (x := 1) q1
   .rw [if_neg (fun h => e h.1), if_neg (fun h => e h.symm), Jbc]; exact Ql (x := 0) (by omega)) ht
  rw [h1]; have h2 : dt p m v n (fun _ => 0) a = 0 := QT hF _ fun c _ => by
   show Jt p m (dv p v) 0 (a c) = 0; rw [R'.Mc (by omega) (ha c), R'.M0 (ha c)]
  rw [h2, R'.Ac, R'.Az (R'.Ml _ _), R'.Mc q1 (ha t), R'.M1 (ha t)]; show a t = JS p m (a t) 0; rw [R'.Az (ha t)]
 | k + 1, hk => by
  have R' := hF.ring; have hpos : 0 < p := by have := hF.p2; omega
  have hpk := hp.1 k (by omega); have hne : ∀ i, i < k -> (vo pv i).toNat ≠ (vo pv k).toNat := fun i hi => by
   have h1 := hp.2 i k hi (by omega); have h2 := hp.1 i (by omega); omega
  have hn := QU (m := m) hpos (en p m (row R k) t); have h1 := Jn5 (w := n) hF (u := en p m (YJ p m n R pv t k)) (u' := en p m (YJ p m n R pv t (k + 1))) (a := a) (d := (vo pv k).toNat) (y := Qz p m (en p m (row R k) t)) ha hn (by
    unfold en; rw [Jbd (hf k (by omega)) k hne]; exact Ql (x := 0) (by have := R'.q2; omega)) (fun c => by
   unfold en; rw [Zk, Qn]; by_cases e : (vo pv k).toNat = c
   .rw [if_pos ⟨e, by rw [Jgc]; omega⟩, if_pos e.symm]; exact Ql hn
   .rw [if_neg (fun h => e h.1), if_neg (fun h => e h.symm)]) (by omega)
  rw [h1, Jxr hF ht hp hf ha k (by omega)]; show JS p m (JS p m (a t) _) _ = JS p m (a t) (JS p m _ _); rw [R'.Aa (ha t) (Zs hF _ _) (R'.Ml _ _)]
theorem Ji2 (hF : FV P M mf p m v) (hs : shp C X) (he : Els p m X) {t : Nat} (ht : t < C.toNat) (hf : ∀ i, i < (JA p m v C X).length -> (vo (JA p m v C X) i).toNat ≠ t) : Ann p m (dt p m v C.toNat (en p m (YJ p m C.toNat (JI p m v C X) (JA p m v C X) t (JA p m v C X).length))) X := by
  have R := hF.ring
  have q1 : 1 < p ^ m := R.q2
  have hp : 0 < p := by have := hF.p2; omega
  have hasc := Qp (p := p) (m := m) (v := v) C X
  have hl := Qm (p := p) (m := m) (v := v) hs
  refine (Qy hF hs he (ZS hF fun c => JN hF _ c)).1 fun s hs' => ?_
  rw [Jxr hF ht hasc hf (fun c => JN hF _ c) _ (Nat.le_refl _)]
  unfold cof
  have hsr : s < (JA p m v C X).length := by omega
  have hd : ∀ i, i < (JA p m v C X).length -> en p m (row (JI p m v C X) s) (vo (JA p m v C X) i).toNat = if s = i then 1 else 0 := fun i hi => by
    have := Q0 hF hs he hi hsr
    by_cases e : s = i
    . rw [if_pos e] at this ⊢; exact Yn hF q1 this
    . rw [if_neg e] at this ⊢; exact Yn hF (by omega) this
  have hneg : ∀ i, Qz p m (en p m (row (JI p m v C X) i) t) < p ^ m := fun i => QU hp _
  rw [Y6 hF (f := fun i => Jt p m (dv p v) (Qz p m (en p m (row (JI p m v C X) i) t)) (en p m (row (JI p m v C X) s) (vo (JA p m v C X) i).toNat)) (j := s) (R.Ml _ _) _ hsr fun i hi hne => by
    show Jt p m (dv p v) _ _ = 0
    rw [hd i hi, if_neg (fun e => hne e.symm), R.M0 (hneg i)]]
  show JS p m _ (Jt p m (dv p v) _ _) = 0
  rw [hd s hsr, if_pos rfl, R.M1 (hneg s)]
  exact QL hp (JN hF _ _)
end
end Go.Proofs.YtngdhnijkgjhcaaGreat
set_option linter.unusedVariables false
set_option linter.unusedSimpArgs false
namespace Go.Proofs.YtngdhnijkgjhcaaGreat
section
variable {p m v : Nat} {P M : Int} {mf : List Int} {X Y : List (List Int)} {C : Int} {w : Nat}
theorem Jen {pv : List Int} {c : Nat} (h : ¬ inP pv c = true) : ∀ i, i < pv.length -> vo pv i ≠ (c : Int) := fun i hi e => h (ZG.2 ⟨i, hi, e⟩)
theorem Jrk {n : Nat} (R : List (List Int)) {pv : List Int} (hp : Asc n pv) : ∀ k, k <= n -> ∃ c, c <= pv.length /\ (∀ i, i < pv.length -> (vo pv i < (k : Int) ↔ i < c)) /\ (bas p m n R pv k).length + c = k
 | 0, _ => ⟨0, Nat.zero_le _, fun i hi => ⟨fun h => by have := hp.1 i hi; omega, fun h => absurd h (Nat.not_lt_zero _)⟩, rfl⟩
 | k + 1, hk => by
  obtain ⟨c, h1, h2, h3⟩ := Jrk R hp k (by omega); rw [Zu]; by_cases hin : inP pv k = true
  .rw [if_pos hin]; obtain ⟨j, hj, e⟩ := ZG.1 hin; have hcj : c <= j := by
    rcases Nat.lt_or_ge j c with h | h
    .have := (h2 j hj).2 h; omega
    .exact h
   have hc : c < pv.length := by omega
   have e2 : c = j := by
    rcases Nat.lt_or_ge c j with h | h
    .have h5 := hp.2 c j h hj; have h6 := (h2 c hc).1 (by omega); omega
    .omega
   subst e2; refine ⟨c + 1, by omega, fun i hi => ⟨fun h => ?_, fun h => ?_⟩, by omega⟩
   .rcases Nat.lt_or_ge i (c + 1) with h' | h'
    .exact h'
    .have := hp.2 c i (by omega) hi; omega
   .rcases Nat.lt_or_ge i c with h' | h'
    .have := (h2 i hi).2 h'; omega
    .rw [show i = c by omega]; omega
  .rw [if_neg hin]; refine ⟨c, h1, fun i hi => ?_, by rw [List.length_append, List.length_singleton]; omega⟩; have := Jen hin i hi; rw [<- h2 i hi]; omega
theorem Jhc {n : Nat} (R : List (List Int)) {pv : List Int} (hp : Asc n pv) : (bas p m n R pv n).length + pv.length = n := by
 obtain ⟨c, h1, h2, h3⟩ := Jrk (p := p) (m := m) R hp n (Nat.le_refl _); have : c = pv.length := by
  rcases Nat.lt_or_ge c pv.length with h | h
  .have := (h2 c h).1 (hp.1 c h).2; omega
  .omega
 omega
theorem Ji6 {Z : List (List Int)} {l : List Int} {t : Nat} : row (Z ++ [l]) t = if t < Z.length then row Z t else if t = Z.length then l else [] := by
 unfold row; rw [List.getD_eq_getElem?_getD, List.getElem?_append]; split
 .rw [<- List.getD_eq_getElem?_getD]
 .rename_i h
  split
  .rename_i e; rw [e, Nat.sub_self]; rfl
  .rw [List.getElem?_eq_none (by simp; omega)]; rfl
theorem Z5 {n : Nat} (R : List (List Int)) (pv : List Int) : ∀ k, ∃ fc : Nat -> Nat, (∀ j, j < (bas p m n R pv k).length -> fc j < k /\ ¬ inP pv (fc j) = true /\ row (bas p m n R pv k) j = YJ p m n R pv (fc j) pv.length) /\ ∀ i j, i < j -> j < (bas p m n R pv k).length -> fc i < fc j
 | 0 => ⟨fun _ => 0, fun j hj => absurd hj (Nat.not_lt_zero _), fun i j _ hj => absurd hj (Nat.not_lt_zero _)⟩
 | k + 1 => by
  obtain ⟨fc, h1, h2⟩ := Z5 (n := n) R pv k; rw [Zu]; by_cases hin : inP pv k = true
  .rw [if_pos hin]; exact ⟨fc, fun j hj => ⟨by have := (h1 j hj).1; omega, (h1 j hj).2⟩, h2⟩
  .rw [if_neg hin]; refine ⟨fun j => if j < (bas p m n R pv k).length then fc j else k, fun j hj => ?_, fun i j hij hj => ?_⟩
   .rw [List.length_append, List.length_singleton] at hj; dsimp only; rw [Ji6]; by_cases e : j < (bas p m n R pv k).length
    .rw [if_pos e, if_pos e]; exact ⟨by have := (h1 j e).1; omega, (h1 j e).2⟩
    .rw [if_neg e, if_neg e, if_pos (by omega)]; exact ⟨by omega, hin, rfl⟩
   .rw [List.length_append, List.length_singleton] at hj; dsimp only; rw [if_pos (by omega : i < (bas p m n R pv k).length)]; by_cases e : j < (bas p m n R pv k).length
    .rw [if_pos e]; exact h2 i j hij e
    .rw [if_neg e]; exact (h1 i (by omega)).1
theorem Jh9 {n t : Nat} {R : List (List Int)} {pv : List Int} (ht : t < n) : ∀ k, (∀ i, i < k -> (vo pv i).toNat ≠ t) -> vo (YJ p m n R pv t k) t = 1
 | 0, _ => by
  show vo ((List.replicate n (0 : Int)).set t 1) t = 1; rw [Qn, if_pos ⟨rfl, by rw [List.length_replicate]; exact ht⟩]
 | k + 1, h => by
  rw [Zk, Qn, if_neg (fun e => h k (by omega) e.1)]; exact Jh9 ht k fun i hi => h i (by omega)
theorem Jq9 (hF : FV P M mf p m v) {u : Nat -> Nat} {A : Nat -> Nat -> Nat} {R' : Nat -> Nat} (hu : ∀ j, u j < p ^ m) (hA : ∀ i j, A i j < p ^ m) (hR : ∀ i, R' i < p ^ m) (n : Nat) : ∀ r,
  fs p m (fun j => Jt p m (dv p v) (u j) (fs p m (fun i => Jt p m (dv p v) (A i j) (R' i)) r)) n = fs p m (fun i => Jt p m (dv p v) (R' i) (fs p m (fun j => Jt p m (dv p v) (u j) (A i j)) n)) r
 | 0 => QT hF _ fun j _ => hF.ring.M0 (hu j)
 | r + 1 => by
  have R := hF.ring; show _ = JS p m (fs p m _ r) (Jt p m (dv p v) (R' r) (fs p m _ n)); rw [<- Jq9 hF hu hA hR n r, <- Jeo hF (fun j => R.Ml _ _) (fun j => R.Ml _ _) (hR r)]; refine YX _ fun j _ => ?_; show Jt p m (dv p v) (u j) (JS p m _ _) = _; rw [R.Md (hu j) (Zs hF _ _) (R.Ml _ _), R.Mc (hA r j) (hR r), <- R.Ma (hu j) (hR r) (hA r j), R.Mc (hu j) (hR r), R.Ma (hR r) (hu j) (hA r j)]
theorem Jxw (hF : FV P M mf p m v) {B : List (List Int)} (hs : shp C B) (he : Els p m B) (fc : Nat -> Nat) (hf : ∀ j, j < B.length -> fc j < C.toNat) (hu : ∀ i j, i < B.length -> j < B.length -> vo (row B i) (fc j) = if i = j then 1 else 0) : (JA p m v C B).length = B.length := by
  have R := hF.ring
  have q1 : 1 < p ^ m := R.q2
  have hle := Ya (p := p) (m := m) (v := v) hs
  rcases Nat.lt_or_ge (JA p m v C B).length B.length with hlt | h
  . exfalso
    have hB := QA hs
    -- the entries at the pivots, as a matrix of fewer rows than columns
    have hA : ∃ A : List (List Int), A = (List.range (JA p m v C B).length).map fun i => (List.range B.length).map fun j => vo (row B j) (vo (JA p m v C B) i).toNat := ⟨_, rfl⟩
    obtain ⟨A, hA⟩ := hA
    have hAl : A.length = (JA p m v C B).length := by rw [hA]; simp
    have hAr : ∀ i, i < A.length -> row A i = (List.range B.length).map fun j => vo (row B j) (vo (JA p m v C B) i).toNat := fun i hi => by rw [hA]; exact ZB (by omega)
    have hAe : ∀ i, i < A.length -> ∀ j, j < B.length -> vo (row A i) j = vo (row B j) (vo (JA p m v C B) i).toNat := fun i hi j hj => by rw [hAr i hi]; exact Jah hj
    have hAs : shp (B.length : Int) A := ⟨by omega, by omega, by omega, fun r hr => by
      obtain ⟨i, hi, rfl⟩ := Jar hr
      rw [hAr i hi]; simp⟩
    have hasc := Qp (p := p) (m := m) (v := v) C B
    have hAE : Els p m A := ZR fun i hi => Jc0 fun j hj => by
      rw [hAr i hi, List.length_map, List.length_range] at hj
      rw [hAe i hi j hj]
      have h5 := hasc.1 i (by omega)
      exact J9 he j _ (ZQ (by rw [J1 hs hj]; omega))
    have hal := Ya (p := p) (m := m) (v := v) hAs
    have hascA := Qp (p := p) (m := m) (v := v) (B.length : Int) A
    have e0 : ((B.length : Nat) : Int).toNat = B.length := by omega
    have hbl := Jhc (p := p) (m := m) (JI p m v (B.length : Int) A) hascA
    obtain ⟨fa, h1, _⟩ := Z5 (p := p) (m := m) (n := ((B.length : Nat) : Int).toNat) (JI p m v (B.length : Int) A) (JA p m v (B.length : Int) A) ((B.length : Nat) : Int).toNat
    obtain ⟨ht, hnp, _⟩ := h1 0 (by omega)
    generalize fa 0 = t at *
    have hnp' : ∀ i, i < (JA p m v (B.length : Int) A).length -> (vo (JA p m v (B.length : Int) A) i).toNat ≠ t := fun i hi => by
      have h5 := Jen hnp i hi
      have h6 := hascA.1 i hi
      omega
    have hann := Ji2 hF hAs hAE ht hnp'
    have hut : en p m (YJ p m ((B.length : Nat) : Int).toNat (JI p m v (B.length : Int) A) (JA p m v (B.length : Int) A) t (JA p m v (B.length : Int) A).length) t = 1 := Yn hF q1 (Jh9 ht _ hnp')
    have hul := JN hF (YJ p m ((B.length : Nat) : Int).toNat (JI p m v (B.length : Int) A) (JA p m v (B.length : Int) A) t (JA p m v (B.length : Int) A).length)
    generalize en p m (YJ p m ((B.length : Nat) : Int).toNat (JI p m v (B.length : Int) A) (JA p m v (B.length : Int) A) t (JA p m v (B.length : Int) A).length) = u at *
    rw [e0] at hann ht
    have hl := hf t ht
    -- the sum of the rows by u, at t's own column, in two ways
    have s1 : fs p m (fun j => Jt p m (dv p v) (u j) (en p m (row B j) (fc t))) B.length = 1 := by
      have h5 : ∀ j, j < B.length -> en p m (row B j) (fc t) = if j = t then 1 else 0 := fun j hj => by
        have := hu j t hj ht
        by_cases e : j = t
        . rw [if_pos e] at this ⊢; exact Yn hF q1 this
        . rw [if_neg e] at this ⊢; exact Yn hF (by omega) this
      rw [Y6 hF (f := fun j => Jt p m (dv p v) (u j) (en p m (row B j) (fc t))) (j := t) (R.Ml _ _) _ ht fun j hj hne => by
        show Jt p m (dv p v) _ _ = 0
        rw [h5 j hj, if_neg hne, R.M0 (hul j)]]
      show Jt p m (dv p v) _ _ = 1
      rw [h5 t ht, if_pos rfl, hut, R.M1 q1]
    have s2 : fs p m (fun j => Jt p m (dv p v) (u j) (en p m (row B j) (fc t))) B.length = 0 := by
      rw [YX (h := fun j => Jt p m (dv p v) (u j) (fs p m (fun i => Jt p m (dv p v) (en p m (row B j) (vo (JA p m v C B) i).toNat) (en p m (row (JI p m v C B) i) (fc t))) (JA p m v C B).length)) B.length fun j hj => by rw [Jxx hF hs he hj hl]]
      rw [Jq9 hF (A := fun i j => en p m (row B j) (vo (JA p m v C B) i).toNat) (R' := fun i => en p m (row (JI p m v C B) i) (fc t)) hul (fun i j => JN hF _ _) (fun i => JN hF _ _)]
      refine QT hF _ fun i hi => ?_
      show Jt p m (dv p v) _ _ = 0
      have h5 : fs p m (fun j => Jt p m (dv p v) (u j) (en p m (row B j) (vo (JA p m v C B) i).toNat)) B.length = 0 := by
        have h6 := hann i (by omega)
        unfold dt at h6
        rw [<- h6]
        refine YX _ fun j hj => ?_
        show Jt p m (dv p v) _ _ = Jt p m (dv p v) _ _
        congr 1
        unfold en
        rw [hAe i (by omega) j hj]
      rw [h5, R.M0 (JN hF _ _)]
    rw [s1] at s2; exact absurd s2 (by decide)
  . omega
theorem Jx4 (hF : FV P M mf p m v) (hs : shp C X) (he : Els p m X) : (JI p m v C (QX p m v C X)).length + (JA p m v C X).length = C.toNat := by
  have hasc := Qp (p := p) (m := m) (v := v) C X
  obtain ⟨fc, h1, h2⟩ := Z5 (p := p) (m := m) (n := C.toNat) (JI p m v C X) (JA p m v C X) C.toNat
  have hb := Jhc (p := p) (m := m) (JI p m v C X) hasc
  have hnp : ∀ j, j < (QX p m v C X).length -> ∀ i, i < (JA p m v C X).length -> (vo (JA p m v C X) i).toNat ≠ fc j := fun j hj i hi => by
    have h5 := Jen (h1 j hj).2.1 i hi
    have h6 := hasc.1 i hi
    omega
  have h5 := Jxw hF (B := QX p m v C X) (QM hs) (QN hF) fc (fun j hj => (h1 j hj).1) fun i j hi hj => by
    have e : row (QX p m v C X) i = YJ p m C.toNat (JI p m v C X) (JA p m v C X) (fc i) (JA p m v C X).length := (h1 i hi).2.2
    rw [e]
    by_cases e2 : i = j
    . subst e2; rw [if_pos rfl]; exact Jh9 (h1 i hi).1 _ (hnp i hi)
    . rw [if_neg e2]
      refine Jbd ?_ _ (hnp j hj)
      rcases Nat.lt_or_ge i j with h | h
      . have := h2 i j h hj; omega
      . have := h2 j i (by omega) hi; omega
  rw [Qm (QM hs), h5]
  exact hb
theorem Z6 (hF : FV P M mf p m v) (hs : shp C X) (he : Els p m X) {t : Nat} (ht : t < X.length) : Ann p m (dt p m v C.toNat (en p m (row X t))) (JI p m v C (QX p m v C X)) := by
  have R := hF.ring
  have hasc := Qp (p := p) (m := m) (v := v) C X
  refine (Qy hF (QM hs) (QN hF) (ZS hF fun c => JN hF _ c)).2 fun j hj => ?_
  obtain ⟨fc, h1, h2⟩ := Z5 (p := p) (m := m) (n := C.toNat) (JI p m v C X) (JA p m v C X) C.toNat
  have e : row (QX p m v C X) j = YJ p m C.toNat (JI p m v C X) (JA p m v C X) (fc j) (JA p m v C X).length := (h1 j hj).2.2
  rw [e]
  have := Ji2 hF hs he (h1 j hj).1 (fun i hi => by
    have h5 := Jen (h1 j hj).2.1 i hi
    have h6 := hasc.1 i hi
    omega) t ht
  rw [<- this]
  refine YX _ fun c _ => ?_
  exact R.Mc (JN hF _ _) (JN hF _ _)
end
end Go.Proofs.YtngdhnijkgjhcaaGreat
set_option linter.unusedVariables false
set_option linter.unusedSimpArgs false
namespace Go.Proofs.YtngdhnijkgjhcaaGreat
section
variable {p m v : Nat} {P M : Int} {mf : List Int} {X Y : List (List Int)} {C : Int} {w : Nat}
end
end Go.Proofs.YtngdhnijkgjhcaaGreat
set_option linter.unusedVariables false
set_option linter.unusedSimpArgs false
namespace Go.Proofs.YtngdhnijkgjhcaaGreat
section
variable {p m v : Nat} {P M : Int} {mf : List Int} {X Y : List (List Int)} {C : Int} {w wy : Nat}
def e2 (p m w : Nat) (a b : List Int) : Nat -> Nat := fun c => if c < w then en p m a c else en p m b (c - w)
end
end Go.Proofs.YtngdhnijkgjhcaaGreat
set_option linter.unusedVariables false
set_option linter.unusedSimpArgs false
namespace Go.Proofs.YtngdhnijkgjhcaaGreat
section
variable {p m v : Nat} {P M : Int} {mf : List Int} {X Y : List (List Int)} {C : Int} {w wy : Nat}
def u1 (p m w : Nat) (u : Nat -> Nat) : Nat -> Nat := fun c => if c < w then u c else Qz p m 1
end
end Go.Proofs.YtngdhnijkgjhcaaGreat
set_option linter.unusedVariables false
set_option linter.unusedSimpArgs false
namespace Go.Proofs.YtngdhnijkgjhcaaGreat
end Go.Proofs.YtngdhnijkgjhcaaGreat
set_option linter.unusedVariables false
set_option linter.unusedSimpArgs false
namespace Go.Proofs.YtngdhnijkgjhcaaGreat
section
variable {p m v : Nat} {P M : Int} {mf : List Int} {X Y : List (List Int)} {C D : Int} {w wy : Nat}
theorem Jgz (hF : FV P M mf p m v) {f : (Nat -> Nat) -> Nat} (L : Lin p m v w f) {a : Nat -> Nat} (ha : ∀ c, c < w -> a c = 0) : f a = 0 := by
  have hq : 0 < p ^ m := by have := hF.ring.q2; omega
  have h := L.ml (a := fun _ => 0) (x := 0) (fun _ => hq) hq
  have e : f (fun _ => Jt p m (dv p v) 0 0) = f a := L.cg fun c hc => by rw [ha c hc, hF.ring.M0 hq]
  rw [<- e, h, hF.ring.Mc hq (L.lt _), hF.ring.M0 (L.lt _)]
theorem Jb1 (hF : FV P M mf p m v) {f : (Nat -> Nat) -> Nat} (L : Lin p m v w f) (x : List Int) (B : List (List Int)) : ∀ k, f (en p m (cmb p m v x w B k)) = fs p m (fun i => Jt p m (dv p v) (inE (p ^ m) (vo x i)) (f (en p m (row B i)))) k
 | 0 => Jgz hF L fun c hc => by
  show inE (p ^ m) (vo (List.replicate w 0) c) = 0; rw [Jbc]; exact Ql (x := 0) (by have := hF.ring.q2; omega)
 | k + 1 => by
  rw [Jbo, L.adx hF (Jdv x w k), Jb1 hF L x B k]; rfl
def mm (p m v w : Nat) (A B : List (List Int)) : List (List Int) := (List.range A.length).map fun t => cmb p m v (row A t) w B B.length
theorem Jgv (A B : List (List Int)) : (mm p m v w A B).length = A.length := by simp [mm]
theorem Jgg {A B : List (List Int)} {t : Nat} (h : t < A.length) : row (mm p m v w A B) t = cmb p m v (row A t) w B B.length := ZB h
theorem mm_shp {A B : List (List Int)} (hA : A.length <= 256) (hs : shp D B) : shp D (mm p m v D.toNat A B) := by
 obtain ⟨h1, h2, h3⟩ := Yi hs; refine ⟨hs.1, hs.2.1, by rw [Jgv]; exact hA, fun r hr => ?_⟩; obtain ⟨t, _, rfl⟩ := List.mem_map.1 hr; rw [Jdv]; exact h3
theorem mm_els (hF : FV P M mf p m v) (A B : List (List Int)) : Els p m (mm p m v w A B) := fun r hr => by
 obtain ⟨t, _, rfl⟩ := List.mem_map.1 hr; exact Jrf hF _
theorem mm_en (hF : FV P M mf p m v) {A B : List (List Int)} {t c : Nat} (ht : t < A.length) (hc : c < w) : en p m (row (mm p m v w A B) t) c = fs p m (fun i => Jt p m (dv p v) (en p m (row A t) i) (en p m (row B i) c)) B.length := by
 rw [Jgg ht, Jju hF hc]; rfl
theorem Jq4 {A B : List (List Int)} (hl : A.length = B.length) (ha : Els p m A) (hb : Els p m B) (hw : ∀ t, t < A.length -> (row A t).length = w /\ (row B t).length = w) (h : ∀ t c, t < A.length -> c < w -> en p m (row A t) c = en p m (row B t) c) : A = B :=
  QS hl fun t ht => QY (by rw [(hw t ht).1, (hw t ht).2]) fun c hc => by
    rw [(hw t ht).1] at hc
    have e := h t c ht hc
    have e1 := Jav (Jax (J9 ha t) (t := c) (by rw [(hw t ht).1]; exact hc))
    have e2 := Jav (Jax (J9 hb t) (t := c) (by rw [(hw t ht).2]; exact hc))
    unfold en at e
    rw [<- e1, <- e2, e]
def tr (n : Nat) (A : List (List Int)) : List (List Int) := (List.range n).map fun c => (List.range A.length).map fun t => vo (row A t) c
theorem Zn (n : Nat) (A : List (List Int)) : (tr n A).length = n := by simp [tr]
theorem Jwm {n c : Nat} {A : List (List Int)} (h : c < n) : row (tr n A) c = (List.range A.length).map fun t => vo (row A t) c := ZB h
theorem Jai {n c : Nat} {A : List (List Int)} (h : c < n) : (row (tr n A) c).length = A.length := by rw [Jwm h]; simp
theorem Jkp {n c t : Nat} {A : List (List Int)} (h : c < n) (ht : t < A.length) : vo (row (tr n A) c) t = vo (row A t) c := by rw [Jwm h]; exact Jah ht
theorem Jqi {n c t : Nat} {A : List (List Int)} (h : c < n) (ht : t < A.length) : en p m (row (tr n A) c) t = en p m (row A t) c := by unfold en; rw [Jkp h ht]
theorem Jf6 (hs : shp C X) : shp (X.length : Int) (tr C.toNat X) := by
 obtain ⟨h1, h2, h3⟩ := Yi hs; refine ⟨by omega, by omega, by rw [Zn]; exact h2, fun r hr => ?_⟩; obtain ⟨c, _, rfl⟩ := List.mem_map.1 hr; simp
theorem Jf7 (hs : shp C X) (he : Els p m X) : Els p m (tr C.toNat X) := fun r hr => by
 obtain ⟨c, hc, rfl⟩ := List.mem_map.1 hr; have hc := List.mem_range.1 hc; intro x hx; obtain ⟨t, ht, rfl⟩ := List.mem_map.1 hx; have ht := List.mem_range.1 ht; exact Jax (J9 he t) (by rw [J1 hs ht]; exact hc)
theorem Jws (hF : FV P M mf p m v) {u : Nat -> Nat} (hu : ∀ c, u c < p ^ m) {q : Nat -> Nat} {r : Nat} (hq : ∀ k, k < r -> q k < w) : Lin p m v w (fun a => dt p m v r u (fun k => a (q k))) where
  lt a := (ZS (w := r) hF hu).lt _
  cg h := (ZS (w := r) hF hu).cg fun k hk => h _ (hq k hk)
  ad ha hb hx := (ZS (w := r) hF hu).ad (fun k => ha _) (fun k => hb _) hx
  ml ha hx := (ZS (w := r) hF hu).ml (fun k => ha _) hx
theorem Jzy (hF : FV P M mf p m v) {A B : List (List Int)} (hA : shp C A) (hB : shp C B) (eA : Els p m A) (eB : Els p m B) (h : ∀ f, Lin p m v C.toNat f -> Ann p m f B -> Ann p m f A) : (JA p m v C A).length <= (JA p m v C B).length := by
 rcases Nat.lt_or_ge (JA p m v C B).length (JA p m v C A).length with hlt | hge
 .exfalso; have R := hF.ring; have q1 : 1 < p ^ m := R.q2; have hq : 0 < p ^ m := by omega
  have pA := Qp (p := p) (m := m) (v := v) C A; have lA := Qm (p := p) (m := m) (v := v) hA; have lB := Qm (p := p) (m := m) (v := v) hB; have nA := Ya (p := p) (m := m) (v := v) hA; have lA2 := QA hA; have eRB : Els p m (JI p m v C B) := Q1 hF eB; have sRB := YB (p := p) (m := m) (v := v) hB; generalize hrA : (JA p m v C A).length = r at *
  let q : Nat -> Nat := fun k => (vo (JA p m v C A) k).toNat
  have hqw : ∀ k, k < r -> q k < C.toNat := fun k hk => by have := pA.1 k (by omega); show (vo (JA p m v C A) k).toNat < _; omega
  -- the canonical rows of B at the pivots of A
  let N : List (List Int) := (List.range (JI p m v C B).length).map fun i => (List.range r).map fun k => vo (row (JI p m v C B) i) (q k)
  have hNl : N.length = (JI p m v C B).length := by simp [N]
  have hNrow : ∀ i, i < (JI p m v C B).length -> row N i = (List.range r).map fun k => vo (row (JI p m v C B) i) (q k) := fun i hi => ZB hi; have hNs : shp (r : Int) N := by
   refine ⟨by omega, by omega, by rw [hNl]; have := QA sRB; omega, fun z hz => ?_⟩; obtain ⟨i, _, rfl⟩ := List.mem_map.1 hz; simp
  have hNe : Els p m N := fun z hz => by
   obtain ⟨i, hi, rfl⟩ := List.mem_map.1 hz; have hi := List.mem_range.1 hi; intro y hy; obtain ⟨k, hk, rfl⟩ := List.mem_map.1 hy; have hk := List.mem_range.1 hk; exact Jax (J9 eRB i) (by rw [J1 sRB hi]; exact hqw k hk)
  have hNp := Ya (p := p) (m := m) (v := v) hNs; have hNa := Qp (p := p) (m := m) (v := v) (r : Int) N; have hbf := Jhc (p := p) (m := m) (JI p m v (r : Int) N) hNa; obtain ⟨fc, hfc, _⟩ := Z5 (p := p) (m := m) (n := ((r : Int)).toNat) (JI p m v (r : Int) N) (JA p m v (r : Int) N) ((r : Int)).toNat; have h0 := hfc 0 (by omega); generalize fc 0 = t at h0; obtain ⟨ht, hnp, _⟩ := h0; rw [Int.toNat_natCast] at ht; have hfree : ∀ i, i < (JA p m v (r : Int) N).length -> (vo (JA p m v (r : Int) N) i).toNat ≠ t := fun i hi e => by
   have h1 := Jen hnp i hi; have h2 := hNa.1 i hi; omega
  have hu := Ji2 hF hNs hNe (t := t) (by omega) hfree; have hut := Jh9 (p := p) (m := m) (n := ((r : Int)).toNat) (R := JI p m v (r : Int) N) (pv := JA p m v (r : Int) N) (t := t) (by omega) (JA p m v (r : Int) N).length hfree; rw [Int.toNat_natCast] at hu hut; generalize YJ p m r (JI p m v (r : Int) N) (JA p m v (r : Int) N) t (JA p m v (r : Int) N).length = s at *
  have hL := Jws (w := C.toNat) hF (u := en p m s) (fun c => JN hF _ c) (q := q) (r := r) hqw; have hB0 : Ann p m (fun a => dt p m v r (en p m s) (fun k => a (q k))) (JI p m v C B) := fun i hi => by
   have h1 := hu i (by omega); rw [<- h1]; refine YX _ fun k hk => ?_; show Jt p m (dv p v) (en p m s k) (inE (p ^ m) (vo (row (JI p m v C B) i) (q k))) = Jt p m (dv p v) (en p m s k) (inE (p ^ m) (vo (row N i) k)); rw [hNrow i hi, Jah hk]
  have hA0 := (Qy hF hA eA hL).2 (h _ hL ((Qy hF hB eB hL).1 hB0)); have h1 := hA0 t (by omega); have h2 : dt p m v r (en p m s) (fun k => en p m (row (JI p m v C A) t) (q k)) = Jt p m (dv p v) (en p m s t) (en p m (row (JI p m v C A) t) (q t)) := Y6 hF (f := fun k => Jt p m (dv p v) (en p m s k) (en p m (row (JI p m v C A) t) (q k))) (R.Ml _ _) r ht fun k hk hne => by
   have h3 := Q0 hF hA eA (i := k) (t := t) (by omega) (by omega); rw [if_neg (fun e => hne e.symm)] at h3; show Jt p m (dv p v) (en p m s k) (en p m (row (JI p m v C A) t) (q k)) = 0; rw [show en p m (row (JI p m v C A) t) (q k) = 0 from Yn hF (z := 0) hq h3, R.M0 (JN hF _ _)]
  have h3 := Q0 hF hA eA (i := t) (t := t) (by omega) (by omega); rw [if_pos rfl] at h3; have h4 : en p m (row (JI p m v C A) t) (q t) = 1 := Yn hF (z := 1) q1 h3; have h5 : en p m s t = 1 := Yn hF (z := 1) q1 hut; rw [h4, h5, R.M1 q1] at h2; have h6 : dt p m v r (en p m s) (fun k => en p m (row (JI p m v C A) t) (q k)) = 0 := h1; omega
 .exact hge
end
end Go.Proofs.YtngdhnijkgjhcaaGreat
set_option linter.unusedVariables false
set_option linter.unusedSimpArgs false
namespace Go.Proofs.YtngdhnijkgjhcaaGreat
section
variable {P M : Int} {mf : List Int} {X : List (List Int)} {C : Int}
theorem w_mMul {Ca Cb : Int} {A B : List (List Int)} {Q : Int × List (List Int) × Int -> Prop} (hb : ∀ e, e ≠ 0 -> (mck P M mf Ca A ≠ 0 ∨ mck P M mf Cb B ≠ 0 ∨ Ca ≠ (B.length : Int)) -> Q (0, [], e))
    (h : ∀ p m v, FV P M mf p m v -> shp Ca A -> Els p m A -> shp Cb B -> Els p m B -> Ca = (B.length : Int) -> Q (Cb, mm p m v Cb.toNat A B, 0)) : Jj7 P M mf Ca A Cb B Q := by
  refine Jvm (ms := [(Ca, A), (Cb, B)]) (by simp) (fun hn _ => hb 1 (by decide) (.inl (by rw [Jgw hn]; decide))) (fun F p m v g K hF h0 => ?_) (fun hV hne _ => hb _ hne ?_)
  . rw [Jk9] at h0
    have hA : mck P M mf Ca A = 0 := by
      by_cases e : mck P M mf Ca A = 0
      . exact e
      . rw [if_neg e] at h0; exact h0
    rw [if_pos hA] at h0
    obtain ⟨_, sA, eA⟩ := Jdp hA
    obtain ⟨_, sB, eB⟩ := Jdp h0
    have eA := (QB hF).1 eA
    have eB := (QB hF).1 eB
    obtain ⟨a1, a2, a3⟩ := Yi sA
    refine ⟨fun hne => hb 10 (by decide) (.inr (.inr hne)), fun he => ?_⟩
    have hC : Ca = (B.length : Int) := Classical.not_not.1 he
    refine ⟨⟨by omega, by omega, by omega⟩, fun x z => ∃ t : Nat, z = t /\ t <= A.length /\ x.length = A.length /\ ∀ s, s < t -> row x s = row (mm p m v Cb.toNat A B) s, fun _ z => (A.length - z).toNat, ⟨0, rfl, Nat.zero_le _, by simp, fun s hs => absurd hs (Nat.not_lt_zero _)⟩, ?_⟩
    rintro x _ ⟨t, rfl, ht, hx, hv⟩
    dsimp only
    refine ⟨fun hlt => ⟨⟨by omega, by omega⟩, _, Jsa K sB (by show (row A t).length = _; rw [J1 sA (by omega)]; omega) rfl, ⟨by omega, by omega⟩, JD (by omega) (by omega), ⟨t + 1, by push_cast; rfl, by omega, by rw [Zy]; exact hx, fun s hs => ?_⟩, by omega⟩, fun hge => ?_⟩
    . show row (x.set t _) s = _
      rw [Qk]
      by_cases e : t = s
      . subst e; rw [if_pos ⟨rfl, by omega⟩, Jgg (by omega)]; rfl
      . rw [if_neg (fun q => e q.1)]; exact hv s (by omega)
    . rw [show x = mm p m v Cb.toNat A B from QS (by rw [Jgv]; exact hx) fun i hi => hv i (by omega)]
      exact h p m v hF sA eA sB eB hC
  . rw [Jk9] at hne
    by_cases e : mck P M mf Ca A = 0
    . rw [if_pos e] at hne; exact .inr (.inl hne)
    . exact .inl e
theorem Jkl {Q : Int × List (List Int) × Int -> Prop} (hb : mck P M mf C X ≠ 0 -> Q (0, [], mck P M mf C X))
  (h : ∀ p m v, FV P M mf p m v -> shp C X -> Els p m X -> mck P M mf C X = 0 -> Q ((X.length : Int), tr C.toNat X, 0)) : ZN P M mf C X Q := by
 refine Jdc (fun h0 _ => hb h0) fun F p m v g K hF hs he h0 => ?_; have hfin := h p m v hF hs he h0; obtain ⟨a1, a2, a3⟩ := Yi hs; generalize hn : C.toNat = n at *
 refine ⟨⟨by omega, by omega, by omega⟩, fun x z => ∃ c : Nat, z = c /\ c <= n /\ x.length = n /\ ∀ d, d < c -> row x d = row (tr n X) d, fun _ z => (n - z).toNat, ⟨0, rfl, Nat.zero_le _, by simp, fun d hd => absurd hd (Nat.not_lt_zero _)⟩, ?_⟩; rintro x _ ⟨c, rfl, hc, hx, hv⟩; dsimp only; refine ⟨fun hlt => ?_, fun hge => ?_⟩
 .have hcn : c < n := by omega
  refine ⟨⟨by omega, by omega, by omega⟩, ⟨by omega, by omega⟩, fun y z => ∃ t : Nat, z = t /\ t <= X.length /\ y.length = n /\ (∀ d, d < c -> row y d = row (tr n X) d) /\ (row y c).length = X.length /\ ∀ s, s < t -> vo (row y c) s = vo (row X s) c, fun _ z => (X.length - z).toNat, ⟨0, rfl, Nat.zero_le _, by rw [Zy]; exact hx, fun d hd => ?_, ?_, fun s hs => absurd hs (Nat.not_lt_zero _)⟩, ?_⟩
  .show row (x.set c _) d = _; rw [Qk, if_neg (fun q => by omega)]; exact hv d hd
  .show (row (x.set c _) c).length = _; rw [Qk, if_pos ⟨rfl, by omega⟩]; simp
  rintro y _ ⟨t, rfl, ht, hy, h1, h2, h3⟩; dsimp only; refine ⟨fun hlt2 => ?_, fun hge2 => ⟨JD (by omega) (by omega), ⟨c + 1, by push_cast; rfl, by omega, hy, fun d hd => ?_⟩, by omega⟩⟩
  .have htx : t < X.length := by omega
   have hrl : (row X t).length = n := by rw [J1 hs htx]; exact hn
   refine ⟨⟨by omega, by omega⟩, ⟨by omega, by omega⟩, ⟨by omega, by show (c : Int) < ((row X t).length : Int); omega⟩, ⟨by omega, by show (t : Int) < ((row y c).length : Int); omega⟩, JD (by omega) (by omega), ⟨t + 1, by push_cast; rfl, by omega, by rw [Zy]; exact hy, fun d hd => ?_, ?_, fun s hs' => ?_⟩, by omega⟩
   .show row (y.set c _) d = _; rw [Qk, if_neg (fun q => by omega)]; exact h1 d hd
   .show (row (y.set c ((row y c).set t (vo (row X t) c))) c).length = _; rw [Qk, if_pos ⟨rfl, by omega⟩, List.length_set]; exact h2
   .show vo (row (y.set c ((row y c).set t (vo (row X t) c))) c) s = _; rw [Qk, if_pos ⟨rfl, by omega⟩, Qn]; by_cases e : t = s
    .subst e; rw [if_pos ⟨rfl, by omega⟩]
    .rw [if_neg (fun q => e q.1)]; exact h3 s (by omega)
  .by_cases e : d = c
   .subst e; exact QY (by rw [h2, Jai hcn]) fun s hs' => by rw [h3 s (by omega), Jkp hcn (by omega)]
   .exact h1 d (by omega)
 .rw [show x = tr n X from QS (by rw [Zn]; exact hx) fun i hi => hv i (by omega)]; exact hfin
end
end Go.Proofs.YtngdhnijkgjhcaaGreat
set_option linter.unusedVariables false
set_option linter.unusedSimpArgs false
namespace Go.Proofs.YtngdhnijkgjhcaaGreat
section
variable {p m v : Nat} {P M : Int} {mf : List Int} {X Y : List (List Int)} {C D : Int} {w wy : Nat}
theorem Jx6 {n k : Nat} {a b : List Int} (ha : Asc n a) (hb : Asc n b) (h1 : ∀ i, i < a.length -> ∃ j, j < b.length /\ vo b j = vo a i) (h2 : ∀ j, j < b.length -> ∃ i, i < a.length /\ vo a i = vo b j) : ∀ k, k < a.length -> k < b.length /\ vo a k = vo b k := by
  intro k
  induction k using Nat.strongRecOn with
  | ind k ih =>
    intro hk
    obtain ⟨j, hj, e⟩ := h1 k hk
    have hjk : k <= j := by
      rcases Nat.lt_or_ge j k with h | h
      . have h3 := (ih j h (by omega)).2
        have h4 := ha.2 j k h hk
        omega
      . exact h
    have hkb : k < b.length := by omega
    refine ⟨hkb, ?_⟩
    obtain ⟨i, hi, e2⟩ := h2 k hkb
    rcases Nat.lt_trichotomy i k with h | h | h
    . have h3 := (ih i h hi).2
      have h4 := hb.2 i k h hkb
      omega
    . rw [<- e2, h]
    . have h3 := ha.2 k i h hi
      rcases Nat.lt_or_ge k j with h5 | h5
      . have := hb.2 k j h5 hj; omega
      . rw [show k = j by omega] at e2 ⊢; omega
theorem Jx5 {n : Nat} {a b : List Int} (ha : Asc n a) (hb : Asc n b) (h1 : ∀ i, i < a.length -> ∃ j, j < b.length /\ vo b j = vo a i) (h2 : ∀ j, j < b.length -> ∃ i, i < a.length /\ vo a i = vo b j) : a = b := by
 have k1 := Jx6 (k := 0) ha hb h1 h2; have k2 := Jx6 (k := 0) hb ha h2 h1; refine QY ?_ fun i hi => (k1 i hi).2; rcases Nat.lt_trichotomy a.length b.length with h | h | h
 .have := (k2 a.length h).1; omega
 .exact h
 .have := (k1 b.length h).1; omega
theorem Jb5 (hF : FV P M mf p m v) (hs : shp C X) (he : Els p m X) {a : Nat -> Nat} (ha : ∀ c, a c < p ^ m) (hA : ∀ f, Lin p m v C.toNat f -> Ann p m f (JI p m v C X) -> f a = 0) {c : Nat} (hc : c < C.toNat) :
    a c = fs p m (fun i => Jt p m (dv p v) (a (vo (JA p m v C X) i).toNat) (en p m (row (JI p m v C X) i) c)) (JA p m v C X).length := by
  have R := hF.ring
  have q1 : 1 < p ^ m := R.q2
  have hp : 0 < p := by have := hF.p2; omega
  have hasc := Qp (p := p) (m := m) (v := v) C X
  have hcl := Qm (p := p) (m := m) (v := v) hs
  have hneg : ∀ y, y < p ^ m -> Qz p m y < p ^ m := fun y _ => QU hp y
  have L := Jrd (w := C.toNat) hF (c := c) (r := (JA p m v C X).length) (pv := fun i => (vo (JA p m v C X) i).toNat) (nR := fun i => Qz p m (en p m (row (JI p m v C X) i) c)) hc (fun i hi => by have := hasc.1 i hi; show (vo (JA p m v C X) i).toNat < _; omega) (fun i => hneg _ (JN hF _ _))
  have hann := hA _ L (fun s hsl => by
    show cof _ _ _ _ _ _ _ (en p m (row (JI p m v C X) s)) = 0
    unfold cof
    have hsr : s < (JA p m v C X).length := by omega
    have hd : ∀ i, i < (JA p m v C X).length -> en p m (row (JI p m v C X) s) (vo (JA p m v C X) i).toNat = if s = i then 1 else 0 := fun i hi => by
      have := Q0 hF hs he hi hsr
      by_cases e : s = i
      . rw [if_pos e] at this ⊢; exact Yn hF q1 this
      . rw [if_neg e] at this ⊢; exact Yn hF (by omega) this
    have h9 := Y6 hF (f := fun i => Jt p m (dv p v) (Qz p m (en p m (row (JI p m v C X) i) c)) (en p m (row (JI p m v C X) s) (vo (JA p m v C X) i).toNat)) (j := s) (R.Ml _ _) _ hsr fun i hi hne => by
      show Jt p m (dv p v) _ _ = 0
      rw [hd i hi, if_neg (fun e => hne e.symm), R.M0 (hneg _ (JN hF _ _))]
    show JS p m _ (fs p m (fun i => Jt p m (dv p v) (Qz p m (en p m (row (JI p m v C X) i) c)) (en p m (row (JI p m v C X) s) (vo (JA p m v C X) i).toNat)) (JA p m v C X).length) = 0
    rw [h9]
    show JS p m _ (Jt p m (dv p v) _ _) = 0
    rw [hd s hsr, if_pos rfl, R.M1 (hneg _ (JN hF _ _))]
    exact QL hp (JN hF _ _))
  unfold cof at hann
  have hG := Zs hF (fun i => Jt p m (dv p v) (a (vo (JA p m v C X) i).toNat) (en p m (row (JI p m v C X) i) c)) (JA p m v C X).length
  have hN := Zs hF (fun i => Jt p m (dv p v) (Qz p m (en p m (row (JI p m v C X) i) c)) (a (vo (JA p m v C X) i).toNat)) (JA p m v C X).length
  have hGN : JS p m (fs p m (fun i => Jt p m (dv p v) (a (vo (JA p m v C X) i).toNat) (en p m (row (JI p m v C X) i) c)) (JA p m v C X).length) (fs p m (fun i => Jt p m (dv p v) (Qz p m (en p m (row (JI p m v C X) i) c)) (a (vo (JA p m v C X) i).toNat)) (JA p m v C X).length) = 0 := by
    have h1 := Jeo hF (f := fun i => Jt p m (dv p v) (a (vo (JA p m v C X) i).toNat) (en p m (row (JI p m v C X) i) c)) (h := fun i => Jt p m (dv p v) (Qz p m (en p m (row (JI p m v C X) i) c)) (a (vo (JA p m v C X) i).toNat)) (x := 1) (fun i => R.Ml _ _) (fun i => R.Ml _ _) q1 (JA p m v C X).length
    rw [R.Mc q1 hN, R.M1 hN] at h1
    rw [<- h1]
    refine QT hF _ fun i hi => ?_
    show JS p m (Jt p m (dv p v) _ _) (Jt p m (dv p v) 1 (Jt p m (dv p v) _ _)) = 0
    have ha' := ha (vo (JA p m v C X) i).toNat
    have hb := JN hF (row (JI p m v C X) i) c
    rw [R.Mc q1 (R.Ml _ _), R.M1 (R.Ml _ _), R.Mc (hneg _ hb) ha', <- R.Md ha' hb (hneg _ hb), QL hp hb, R.M0 ha']
  have hx := ha c
  generalize fs p m (fun i => Jt p m (dv p v) (a (vo (JA p m v C X) i).toNat) (en p m (row (JI p m v C X) i) c)) (JA p m v C X).length = G1 at *
  generalize fs p m (fun i => Jt p m (dv p v) (Qz p m (en p m (row (JI p m v C X) i) c)) (a (vo (JA p m v C X) i).toNat)) (JA p m v C X).length = N1 at *
  generalize a c = b at *
  calc b = JS p m b (JS p m G1 N1) := by rw [hGN, R.Az hx]
    _ = JS p m G1 (JS p m b N1) := by rw [<- R.Aa hx hG hN, R.Ac b G1, R.Aa hG hx hN]
    _ = G1 := by rw [hann, R.Az hG]
theorem Jnh (hF : FV P M mf p m v) (hX : shp C X) (eX : Els p m X) (hY : shp C Y) (eY : Els p m Y) (h : ∀ f, Lin p m v C.toNat f -> Ann p m f Y -> Ann p m f X) : ∀ t, t < (JA p m v C X).length -> ∃ j, j < (JA p m v C Y).length /\ vo (JA p m v C Y) j = vo (JA p m v C X) t := by
  intro t ht
  have R := hF.ring
  have q1 : 1 < p ^ m := R.q2
  have hq : 0 < p ^ m := by omega
  have pX := Qp (p := p) (m := m) (v := v) C X
  have pY := Qp (p := p) (m := m) (v := v) C Y
  have lX := Qm (p := p) (m := m) (v := v) hX
  have hk := fun f (L : Lin p m v C.toNat f) (h1 : Ann p m f (JI p m v C Y)) => (Qy hF hX eX L).2 (h f L ((Qy hF hY eY L).1 h1)) t (by omega)
  have ht' := pX.1 t ht
  have hc := Jb5 hF hY eY (a := en p m (row (JI p m v C X) t)) (fun c => JN hF _ c) hk (c := (vo (JA p m v C X) t).toNat) (by omega)
  have hu := Q0 hF hX eX (i := t) (t := t) ht ht
  rw [if_pos rfl] at hu
  rw [Yn hF (z := 1) q1 hu] at hc
  refine Classical.byContradiction fun hno => ?_
  rw [QT hF _ fun i hi => ?_] at hc
  . omega
  show Jt p m (dv p v) (en p m (row (JI p m v C X) t) (vo (JA p m v C Y) i).toNat) (en p m (row (JI p m v C Y) i) (vo (JA p m v C X) t).toNat) = 0
  have hi' := pY.1 i hi
  rcases Int.lt_trichotomy (vo (JA p m v C Y) i) (vo (JA p m v C X) t) with h1 | h1 | h1
  . rw [Yn hF (z := 0) hq (Jg9 hF hX eX ht (c := (vo (JA p m v C Y) i).toNat) (by omega)), R.Mc hq (JN hF _ _), R.M0 (JN hF _ _)]
  . exact absurd ⟨i, hi, h1⟩ hno
  . rw [Yn hF (z := 0) hq (Jg9 hF hY eY hi (c := (vo (JA p m v C X) t).toNat) (by omega)), R.M0 (JN hF _ _)]
theorem Jl7 (hF : FV P M mf p m v) (hX : shp C X) (eX : Els p m X) (hY : shp C Y) (eY : Els p m Y) (h : ∀ f, Lin p m v C.toNat f -> (Ann p m f X ↔ Ann p m f Y)) : JA p m v C X = JA p m v C Y /\ JI p m v C X = JI p m v C Y := by
 have R := hF.ring; have q1 : 1 < p ^ m := R.q2; have hq : 0 < p ^ m := by omega
 have pX := Qp (p := p) (m := m) (v := v) C X; have pY := Qp (p := p) (m := m) (v := v) C Y; have lX := Qm (p := p) (m := m) (v := v) hX; have lY := Qm (p := p) (m := m) (v := v) hY; have sX := YB (p := p) (m := m) (v := v) hX; have sY := YB (p := p) (m := m) (v := v) hY; have e : JA p m v C X = JA p m v C Y := Jx5 pX pY (Jnh hF hX eX hY eY fun f L => (h f L).2) (Jnh hF hY eY hX eX fun f L => (h f L).1); refine ⟨e, Jq4 (w := C.toNat) (by rw [lX, lY, e]) (Q1 hF eX) (Q1 hF eY) (fun t ht => ⟨J1 sX ht, J1 sY (by rw [lY, <- e, <- lX]; exact ht)⟩) fun t c ht hc => ?_⟩; have ht' : t < (JA p m v C Y).length := by rw [<- e, <- lX]; exact ht
 have hk := fun f (L : Lin p m v C.toNat f) (h1 : Ann p m f (JI p m v C Y)) => (Qy hF hX eX L).2 ((h f L).2 ((Qy hF hY eY L).1 h1)) t ht; have hc' := Jb5 hF hY eY (a := en p m (row (JI p m v C X) t)) (fun c => JN hF _ c) hk (c := c) hc; rw [hc']; have hd : ∀ i, i < (JA p m v C Y).length -> en p m (row (JI p m v C X) t) (vo (JA p m v C Y) i).toNat = if t = i then 1 else 0 := fun i hi => by
  have := Q0 hF hX eX (i := i) (t := t) (by rw [e]; exact hi) (by rw [e]; exact ht'); rw [e] at this; by_cases e' : t = i
  .rw [if_pos e'] at this ⊢; exact Yn hF q1 this
  .rw [if_neg e'] at this ⊢; exact Yn hF hq this
 rw [Y6 hF (f := fun i => Jt p m (dv p v) (en p m (row (JI p m v C X) t) (vo (JA p m v C Y) i).toNat) (en p m (row (JI p m v C Y) i) c)) (j := t) (R.Ml _ _) _ ht' fun i hi hne => by
  show Jt p m (dv p v) _ _ = 0; rw [hd i hi, if_neg (fun q => hne q.symm), R.Mc hq (JN hF _ _), R.M0 (JN hF _ _)]]
 show Jt p m (dv p v) _ _ = _; rw [hd t ht', if_pos rfl, R.Mc q1 (JN hF _ _), R.M1 (JN hF _ _)]
end
end Go.Proofs.YtngdhnijkgjhcaaGreat
set_option linter.unusedVariables false
set_option linter.unusedSimpArgs false
namespace Go.Proofs.YtngdhnijkgjhcaaGreat
section
variable {p m v : Nat} {P M : Int} {mf : List Int} {X Y : List (List Int)} {C D : Int} {w wy : Nat}
end
end Go.Proofs.YtngdhnijkgjhcaaGreat
set_option linter.unusedVariables false
set_option linter.unusedSimpArgs false
namespace Go.Proofs.YtngdhnijkgjhcaaGreat
variable {P M : Int} {mf : List Int} {p m v : Nat} {C : Int} {X Y : List (List Int)}
structure Cnl (C : Nat) (X : List (List Int)) (q : Nat -> Nat) : Prop where
  lt : ∀ i, i < X.length -> q i < C
  one : ∀ i, i < X.length -> ∀ t, t < X.length -> vo (row X t) (q i) = if t = i then 1 else 0
  lf : ∀ i, i < X.length -> ∀ c, c < q i -> vo (row X i) c = 0
  asc : ∀ i j, i < j -> j < X.length -> q i < q j
def IsCn (C : Int) (X : List (List Int)) : Prop := ∃ q, Cnl C.toNat X q
theorem Jmc (a o : List Int) : adx p m v a 0 o = a := by unfold adx; rw [if_pos rfl]
theorem ng_0 (hF : FV P M mf p m v) : Ng p m 0 = 0 := (Jq1 hF ⟨by omega, by
 have := hF.ring.q2; have h : (0 : Int) < ((p ^ m : Nat) : Int) := by exact_mod_cast (by omega : 0 < p ^ m)
 exact h⟩).2 rfl
theorem Qaq (hF : FV P M mf p m v) {S : ES} {k : Nat} (he : Els p m S.X) (hj : S.pv.length < S.X.length) (h1 : ∀ t, t < S.X.length -> vo (row S.X t) k = if t = S.pv.length then 1 else 0) : (es1 p m v k S.pv.length S.pv.length S).X = S.X := by
 rw [Jdr]; have e1 : swq S.X S.pv.length S.pv.length = S.X := by unfold swq; rw [if_pos rfl]
 rw [e1]; have e2 : scq p m v S.X S.pv.length (vo (row S.X S.pv.length) k) = S.X := by
  unfold scq; rw [h1 _ hj, if_pos rfl, iv_one hF, sc_one hF (J9 he _)]; refine QS (by simp) fun i hi => ?_; rw [Qk]; split
  .rename_i h; rw [h.1]
  .rfl
 rw [e2]; refine QS (by rw [Zf]) fun i hi => ?_; rw [Zf] at hi; rw [ZC hi]; split
 .rfl
 .rename_i hne
  rw [h1 i hi, if_neg hne, ng_0 hF, Jmc]
theorem Jlr (hF : FV P M mf p m v) {q : Nat -> Nat} {w wy : Nat} {Y : List (List Int)} {d : Int} (hq : Cnl w X q) (he : Els p m X) : ∀ k, k <= w -> (elim p m v k ⟨X, Y, [], d⟩).X = X /\ ∃ j, j <= X.length /\ (∀ i, i < j -> q i < k) /\ (∀ i, j <= i -> i < X.length -> k <= q i) /\ (elim p m v k ⟨X, Y, [], d⟩).pv = (List.range j).map fun i => ((q i : Nat) : Int)
 | 0, _ => ⟨rfl, 0, Nat.zero_le _, fun i h => absurd h (Nat.not_lt_zero i), fun i _ _ => Nat.zero_le _, rfl⟩
 | k + 1, hk => by
  obtain ⟨h1, j, hj, h2, h3, h4⟩ := Jlr hF (Y := Y) (d := d) (wy := wy) hq he k (by omega); rw [Q5]; generalize elim p m v k ⟨X, Y, [], d⟩ = S at h1 h4 ⊢; have hl : S.pv.length = j := by rw [h4]; simp
  unfold YI; rw [hl, h1]; by_cases hjn : j < X.length
  .by_cases hqk : q j = k
   .have hn : nz X k j = j := (Jw7 (Nat.le_refl _) hj (fun t a b => by omega) (fun hh => by
     have := hq.one j hh j hh; rw [hqk, if_pos rfl] at this; rw [this]; decide)).symm
    rw [hn, if_pos ⟨hjn, hjn⟩]; have e := Qaq (k := k) hF (S := S) (by rw [h1]; exact he) (by rw [hl, h1]; exact hjn) (fun t ht => by
     rw [h1] at ht ⊢; rw [hl, <- hqk]; exact hq.one j hjn t ht)
    rw [hl] at e; refine ⟨e.trans h1, j + 1, hjn, fun i hi => ?_, fun i a b => ?_, ?_⟩
    .rcases Nat.lt_or_ge i j with h | h
     .have := h2 i h; omega
     .have : i = j := by omega
      subst this; omega
    .have := hq.asc j i (by omega) b; omega
    .show S.pv ++ [(k : Int)] = _; rw [h4, List.range_succ, List.map_append, List.map_cons, List.map_nil, hqk]
   .have hlt : k < q j := by have := h3 j (Nat.le_refl _) hjn; omega
    have hz : ∀ t, j <= t -> t < X.length -> vo (row X t) k = 0 := fun t a b => hq.lf t b k (by
     rcases Nat.lt_or_ge j t with h | h
     .have := hq.asc j t h b; omega
     .have : t = j := by omega
      subst this; exact hlt)
    have hn : ¬ nz X k j < X.length := fun hh => (Jbx X k j hj).2.2 hh (hz _ (Jw6 X k j) hh); rw [if_neg (fun hh => hn hh.2)]; refine ⟨h1, j, hj, fun i hi => by have := h2 i hi; omega, fun i a b => ?_, h4⟩; rcases Nat.lt_or_ge j i with h | h
    .have := hq.asc j i h b; omega
    .have : i = j := by omega
     subst this; omega
  .rw [if_neg (fun hh => hjn hh.1)]; exact ⟨h1, j, hj, fun i hi => by have := h2 i hi; omega, fun i a b => by omega, h4⟩
theorem Jb6 (hF : FV P M mf p m v) (hs : shp C X) (he : Els p m X) {q : Nat -> Nat} (hq : Cnl C.toNat X q) : JI p m v C X = X /\ JA p m v C X = (List.range X.length).map fun i => ((q i : Nat) : Int) := by
 obtain ⟨h1, j, hj, h2, h3, h4⟩ := Jlr (wy := 0) (Y := List.replicate X.length []) (d := 1) hF hq he C.toNat (Nat.le_refl _); have e : j = X.length := by
  rcases Nat.lt_or_ge j X.length with h | h
  .have := h3 j (Nat.le_refl _) h; have := hq.lt j h; omega
  .omega
 subst e; have hP : JA p m v C X = (List.range X.length).map fun i => ((q i : Nat) : Int) := h4; refine ⟨?_, hP⟩; show (elim p m v C.toNat ⟨X, List.replicate X.length [], [], 1⟩).X.take (elim p m v C.toNat ⟨X, List.replicate X.length [], [], 1⟩).pv.length = X; rw [h1, h4, List.length_map, List.length_range, List.take_length]
theorem Zt (hs : shp C X) {i : Nat} (hi : i < (JA p m v C X).length) : (((vo (JA p m v C X) i).toNat : Nat) : Int) = vo (JA p m v C X) i /\ (vo (JA p m v C X) i).toNat < C.toNat := by
 have h := (Qp (p := p) (m := m) (v := v) C X).1 i hi; omega
theorem Jjw (hF : FV P M mf p m v) (hs : shp C X) (he : Els p m X) : Cnl C.toNat (JI p m v C X) fun i => (vo (JA p m v C X) i).toNat := by
 have hl := Qm (p := p) (m := m) (v := v) hs; refine ⟨fun i hi => (Zt hs (by omega)).2, fun i hi t ht => Q0 hF hs he (by omega) (by omega), fun i hi c hc => ?_, fun i j hij hj => ?_⟩
 .exact Jg9 hF hs he (by omega) (by have := (Zt (p := p) (m := m) (v := v) hs (i := i) (by omega)).1; omega)
 .have h := (Qp (p := p) (m := m) (v := v) C X).2 i j hij (by omega); have h1 := (Zt (p := p) (m := m) (v := v) hs (i := i) (by omega)).1; have h2 := (Zt (p := p) (m := m) (v := v) hs (i := j) (by omega)).1; omega
theorem Jjx (hF : FV P M mf p m v) (hs : shp C X) (he : Els p m X) : JI p m v C (JI p m v C X) = JI p m v C X /\ JA p m v C (JI p m v C X) = JA p m v C X := by
 have h := Jb6 hF (YB hs) (Q1 hF he) (Jjw hF hs he); refine ⟨h.1, h.2.trans ?_⟩; have hl := Qm (p := p) (m := m) (v := v) hs; refine List.ext_getElem (by simp [hl]) fun i h1 h2 => ?_; simp only [List.getElem_map, List.getElem_range]; rw [(Zt hs h2).1]; unfold vo; rw [List.getD_eq_getElem?_getD, List.getElem?_eq_getElem h2]; rfl
theorem Cnl.len {w : Nat} {q : Nat -> Nat} (h : Cnl w X q) : X.length <= w := by
  have : ∀ k, k <= X.length -> k = 0 ∨ k <= q (k - 1) + 1 := by
    intro k
    induction k with
    | zero => intro _; exact .inl rfl
    | succ k ih =>
      intro hk
      refine .inr ?_
      rcases ih (by omega) with h0 | h1
      . subst h0; omega
      . rcases Nat.eq_zero_or_pos k with h0 | h0
        . subst h0; omega
        . have := h.asc (k - 1) k (by omega) (by omega)
          rw [Nat.add_sub_cancel]; omega
  rcases this X.length (Nat.le_refl _) with h0 | h1
  . omega
  . rcases Nat.eq_zero_or_pos X.length with h0 | h0
    . omega
    . have := h.lt (X.length - 1) (by omega); omega
end Go.Proofs.YtngdhnijkgjhcaaGreat
set_option linter.unusedVariables false
set_option linter.unusedSimpArgs false
namespace Go.Proofs.YtngdhnijkgjhcaaGreat
variable {P M : Int} {mf : List Int} {p m v : Nat} {C : Int} {X Y : List (List Int)} {w : Nat}
def Sb (p m : Nat) (x y : Int) : Int := ((JS p m (inE (p ^ m) x) (Qz p m (inE (p ^ m) y)) : Nat) : Int)
def sbx (p m v : Nat) (a : List Int) (x : Int) (o : List Int) : List Int := if x = 0 then a else (List.range a.length).map fun i => if i < o.length then Sb p m (vo a i) (Ml p m v x (vo o i)) else vo a i
theorem ml_z (hF : FV P M mf p m v) {x z : Int} (hz : inE (p ^ m) z = 0 ∨ inE (p ^ m) x = 0) : Ml p m v x z = 0 := by
 have hq : 0 < p ^ m := by have := hF.ring.q2; omega
 unfold Ml; rcases hz with h | h
 .rw [h, hF.ring.M0 (J5 hq _)]; rfl
 .rw [h, hF.ring.Mc hq (J5 hq _), hF.ring.M0 (J5 hq _)]; rfl
theorem Ja8 (hF : FV P M mf p m v) : inE (p ^ m) 0 = 0 := Ql (x := 0) (by have := hF.ring.q2; omega)
theorem neg_ml (hF : FV P M mf p m v) {x y : Nat} (hx : x < p ^ m) (hy : y < p ^ m) : Qz p m (Jt p m (dv p v) x y) = Jt p m (dv p v) (Qz p m x) y := by
 have R := hF.ring; have hp : 0 < p := by have := hF.p2; omega
 have hn := QU (m := m) hp x; have h1 : JS p m (Jt p m (dv p v) x y) (Jt p m (dv p v) (Qz p m x) y) = 0 := by
  rw [R.Mc hx hy, R.Mc hn hy, <- R.Md hy hx hn, QL hp hx, R.M0 hy]
 have h2 := QL (m := m) hp (R.Ml x y); have h3 := R.Ml (Qz p m x) y; have h4 := QU (m := m) hp (Jt p m (dv p v) x y); have h5 : JS p m (JS p m (Jt p m (dv p v) (Qz p m x) y) (Jt p m (dv p v) x y)) (Qz p m (Jt p m (dv p v) x y)) = Jt p m (dv p v) (Qz p m x) y := by
  rw [R.Aa h3 (R.Ml x y) h4, h2, R.Az h3]
 rw [R.Ac (Jt p m (dv p v) (Qz p m x) y), h1, R.Ac, R.Az h4] at h5; exact h5
theorem Jq7 (hF : FV P M mf p m v) {x : Nat} (h : x < p ^ m) : inE (p ^ m) ((x : Nat) : Int) = x := Ql h
theorem Jzq (hF : FV P M mf p m v) {a o : List Int} {x : Int} (ha : Elr p m a) (hx : El p m x) : sbx p m v a x o = adx p m v a (Ng p m x) o := by
 have R := hF.ring; have hp : 0 < p := by have := hF.p2; omega
 have hq : 0 < p ^ m := by have := R.q2; omega
 unfold sbx; by_cases h : x = 0
 .subst h; rw [if_pos rfl, ng_0 hF, Jmc]
 .rw [if_neg h]; have hn : Ng p m x ≠ 0 := fun e => h ((Jq1 hF hx).1 e); unfold adx; rw [if_neg hn]; refine List.ext_getElem (by simp [adm]) fun i h1 h2 => ?_; simp only [List.length_map, List.length_range] at h1; simp only [adm, List.getElem_map, List.getElem_range]; have hai : El p m (vo a i) := Jax ha h1; by_cases ho : vo o i = 0
  .rw [if_pos ho, ho]; split
   .unfold Sb; rw [ml_z hF (.inl (Ja8 hF)), Ja8 hF]; have : Qz p m 0 = 0 := by
     have h0 := QL (m := m) hp hq; rw [R.Ac, R.Az (QU hp 0)] at h0; exact h0
    rw [this, R.Az (J5 hq _), Jav hai]
   .rfl
  .have hi : i < o.length := by
    rcases Nat.lt_or_ge i o.length with hh | hh
    .exact hh
    .exact absurd (Jco hh) ho
   rw [if_pos hi, if_neg ho]; unfold Sb Ad Ml Ng; rw [Jq7 hF (R.Ml _ _), Jq7 hF (R.Ml _ _), Jq7 hF (QU hp _), neg_ml hF (J5 hq _) (J5 hq _)]
def rsd (p m v : Nat) (Q : Nat -> Nat) (X : List (List Int)) (u : List Int) : Nat -> List Int
  | 0 => u
  | k + 1 => adx p m v (rsd p m v Q X u k) (Ng p m (vo u (Q k))) (row X k)
theorem Zz (Q : Nat -> Nat) (u : List Int) : ∀ k, (rsd p m v Q X u k).length = u.length
 | 0 => rfl
 | k + 1 => by rw [rsd, Jdx, Zz Q u k]
theorem ZA (hp : 0 < p) (Q : Nat -> Nat) {u : List Int} (hu : Elr p m u) : ∀ k, Elr p m (rsd p m v Q X u k)
 | 0 => hu
 | k + 1 => Jj1 hp (ZA hp Q hu k)
theorem Jwl (hF : FV P M mf p m v) {Q : Nat -> Nat} {u : List Int} {c : Nat} (hc : c < u.length) : ∀ k, en p m (rsd p m v Q X u k) c = JS p m (en p m u c) (fs p m (fun i => Jt p m (dv p v) (inE (p ^ m) (Ng p m (vo u (Q i)))) (en p m (row X i) c)) k)
 | 0 => by
  have R := hF.ring; show en p m u c = JS p m (en p m u c) 0; rw [R.Az (JN hF u c)]
 | k + 1 => by
  have R := hF.ring; rw [rsd, Jjp hF (by rw [Zz]; exact hc), Jwl hF hc k, R.Aa (JN hF u c) (Zs hF _ k) (R.Ml _ _)]; rfl
theorem Jaj (hF : FV P M mf p m v) {f : (Nat -> Nat) -> Nat} (L : Lin p m v w f) {Q : Nat -> Nat} {u : List Int} (hu : u.length = w) (hX : Ann p m f X) : ∀ k, k <= X.length -> f (en p m (rsd p m v Q X u k)) = f (en p m u)
 | 0, _ => rfl
 | k + 1, hk => by
  have R := hF.ring; rw [rsd, L.adx hF (by rw [Zz]; exact hu), hX k (by omega), R.M0 (J5 (by have := R.q2; omega) _), R.Az (L.lt _), Jaj hF L hu hX k (by omega)]
theorem Jil (hF : FV P M mf p m v) {l : List Int} {c : Nat} (h : El p m (vo l c)) : en p m l c = 0 ↔ vo l c = 0 := by
 unfold en; constructor
 .intro h0; have := Jav h; rw [h0] at this; exact this.symm
 .intro h0; rw [h0, Ja8 hF]
theorem Ze (hF : FV P M mf p m v) {l : List Int} (h : Elr p m l) (c : Nat) : El p m (vo l c) := by
 rcases Nat.lt_or_ge c l.length with hc | hc
 .exact Jax h hc
 .rw [Jco hc]; have := hF.ring.q2; exact ⟨by omega, by exact_mod_cast (by omega : 0 < p ^ m)⟩
theorem Jk1 (hF : FV P M mf p m v) {Q : Nat -> Nat} (hlt : ∀ j, j < X.length -> Q j < w) (hone : ∀ j, j < X.length -> ∀ t, t < X.length -> vo (row X t) (Q j) = if t = j then 1 else 0) {u : List Int} (hu : u.length = w) (he : Elr p m u) {j : Nat} (hj : j < X.length) : vo (rsd p m v Q X u X.length) (Q j) = 0 := by
  have R := hF.ring
  have hp : 0 < p := by have := hF.p2; omega
  have hq1 : 1 < p ^ m := by have := R.q2; omega
  refine (Jil hF (Ze hF (ZA hp Q he _) _)).1 ?_
  rw [Jwl hF (by rw [hu]; exact hlt j hj)]
  have e1 : inE (p ^ m) 1 = 1 := Ql (x := 1) hq1
  have hs : fs p m (fun i => Jt p m (dv p v) (inE (p ^ m) (Ng p m (vo u (Q i)))) (en p m (row X i) (Q j))) X.length = inE (p ^ m) (Ng p m (vo u (Q j))) := by
    refine (Y6 hF (f := fun i => Jt p m (dv p v) (inE (p ^ m) (Ng p m (vo u (Q i)))) (en p m (row X i) (Q j))) (j := j) (R.Ml _ _) X.length hj (fun i hi hne => ?_)).trans ?_
    . show Jt p m (dv p v) _ (inE (p ^ m) (vo (row X i) (Q j))) = 0
      rw [hone j hj i hi, if_neg hne, Ja8 hF, R.M0 (J5 (by omega) _)]
    . show Jt p m (dv p v) _ (inE (p ^ m) (vo (row X j) (Q j))) = _
      rw [hone j hj j hj, if_pos rfl, e1, R.M1 (J5 (by omega) _)]
  rw [hs]
  unfold Ng en
  rw [Jq7 hF (QU hp _), QL hp (J5 (by omega) _)]
theorem Jzs (hF : FV P M mf p m v) {Q : Nat -> Nat} (hq : Cnl w X Q) {u : List Int} (hu : u.length = w) (he : Elr p m u) {j : Nat} (hj : j < X.length) : vo (rsd p m v Q X u X.length) (Q j) = 0 := Jk1 hF hq.lt hq.one hu he hj
def Sp (p m v w : Nat) (X : List (List Int)) (u : List Int) : Prop := ∀ f, Lin p m v w f -> Ann p m f X -> f (en p m u) = 0
theorem sp_rsd (hF : FV P M mf p m v) (hs : shp C X) (he : Els p m X) {Q : Nat -> Nat} (hq : Cnl C.toNat X Q) {u : List Int} (hu : u.length = C.toNat) (hue : Elr p m u) : Sp p m v C.toNat X u ↔ ∀ c, c < C.toNat -> vo (rsd p m v Q X u X.length) c = 0 := by
 have R := hF.ring; have hp : 0 < p := by have := hF.p2; omega
 obtain ⟨hX, hP⟩ := Jb6 hF hs he hq; constructor
 .intro h c hc; refine (Jil hF (Ze hF (ZA hp Q hue _) _)).1 ?_; rw [Jb5 hF hs he (a := en p m (rsd p m v Q X u X.length)) (JN hF _) (fun f L hf => by
   rw [hX] at hf; rw [Jaj hF L hu hf X.length (Nat.le_refl _)]; exact h f L hf) hc]
  refine QT hF _ fun i hi => ?_; have hi' : i < X.length := by rw [hP] at hi; simpa using hi
  have e : (vo (JA p m v C X) i).toNat = Q i := by rw [hP, Jah hi']; simp
  rw [e, hX]; have : en p m (rsd p m v Q X u X.length) (Q i) = 0 := (Jil hF (Ze hF (ZA hp Q hue _) _)).2 (Jzs hF hq hu hue hi'); rw [this, R.Mc (by have := R.q2; omega) (JN hF _ _), R.M0 (JN hF _ _)]
 .intro h f L hf; rw [<- Jaj hF L hu hf X.length (Nat.le_refl _) (Q := Q)]; exact Jgz hF L fun c hc => (Jil hF (Ze hF (ZA hp Q hue _) _)).2 (h c hc)
end Go.Proofs.YtngdhnijkgjhcaaGreat
set_option linter.unusedVariables false
set_option linter.unusedSimpArgs false
namespace Go.Proofs.YtngdhnijkgjhcaaGreat
variable {P M : Int} {mf : List Int} {p m v g : Nat} {C : Int} {X Y : List (List Int)} {F : GFv}
theorem Jzb {l : List Int} {pf : Int -> (Bool -> Prop) -> Prop} {f : Int -> Bool} {Q : Int -> Prop} (hl : l.length <= 1000000) (hp : ∀ x (R : Bool -> Prop), R (f x) -> pf x R)
  (h1 : ∀ k : Nat, k < l.length -> f (vo l k) = true -> (∀ j, j < k -> f (vo l j) = false) -> Q (k : Int)) (h2 : (∀ j, j < l.length -> f (vo l j) = false) -> Q (-1)) : Zh l pf Q := by
 refine ⟨fun z => ∃ k : Nat, z = k /\ k <= l.length /\ ∀ j, j < k -> f (vo l j) = false, fun z => (l.length - z).toNat, ⟨0, rfl, Nat.zero_le _, fun j hj => by omega⟩, ?_⟩; rintro _ ⟨k, rfl, hk, hv⟩; dsimp only; refine ⟨fun hlt => ⟨⟨by omega, by omega⟩, hp _ _ ⟨fun hb => h1 k (by omega) hb hv, fun hb => ⟨JD (by omega) (by omega), ⟨k + 1, by push_cast; rfl, by omega, fun j hj => ?_⟩, by omega⟩⟩⟩, fun hge => h2 fun j hj => hv j (by omega)⟩; rcases Nat.lt_or_ge j k with h | h
 .exact hv j h
 .have : j = k := by omega
  subst this; exact hb
theorem Jm0 {l : List Int} {Q : Int -> Prop} (hl : l.length <= 1000000)
  (h1 : ∀ k : Nat, k < l.length -> vo l k ≠ 0 -> (∀ j, j < k -> vo l j = 0) -> Q (k : Int)) (h2 : (∀ j, j < l.length -> vo l j = 0) -> Q (-1)) : Zh l (fun xc Qc => Yp xc Qc) Q :=
 Jzb (f := fun x => decide (x ≠ 0)) hl (fun x R hR => hR) (fun k hk hb hv => h1 k hk (of_decide_eq_true hb) fun j hj => Classical.not_not.1 (of_decide_eq_false (hv j hj))) (fun hv => h2 fun j hj => Classical.not_not.1 (of_decide_eq_false (hv j hj)))
theorem Cnl.lead {w : Nat} {q : Nat -> Nat} (h : Cnl w X q) {t k : Nat} (ht : t < X.length) (hk : vo (row X t) k ≠ 0) (hz : ∀ j, j < k -> vo (row X t) j = 0) : q t = k := by
  rcases Nat.lt_trichotomy (q t) k with h1 | h1 | h1
  . have := hz _ h1
    rw [h.one t ht t ht, if_pos rfl] at this; exact absurd this (by decide)
  . exact h1
  . exact absurd (h.lf t ht k h1) hk
theorem Jho {Q : Bool -> Prop} (hs : shp C X) (h1 : IsCn C X -> Q true) (h2 : ¬ IsCn C X -> Q false) : YR C X Q := by
 obtain ⟨hX, hC, hCe⟩ := Yi hs; have hw : ∀ t, t < X.length -> (row X t).length = C.toNat := fun t ht => J1 hs ht; refine ⟨fun last z => ∃ t : Nat, z = t /\ t <= X.length /\ ∃ q : Nat -> Nat, (∀ i, i < t -> q i < C.toNat /\ (∀ s, s < X.length -> vo (row X s) (q i) = if s = i then 1 else 0) /\ ∀ c, c < q i -> vo (row X i) c = 0) /\ (∀ i j, i < j -> j < t -> q i < q j) /\ (t = 0 -> last = -1) /\ ∀ u, t = u + 1 -> last = (q u : Int), fun _ z => (X.length - z).toNat, ⟨0, rfl, Nat.zero_le _, fun _ => 0, fun i hi => absurd hi (Nat.not_lt_zero i), fun i j _ hj => absurd hj (Nat.not_lt_zero j), fun _ => rfl, fun u hu => by omega⟩, ?_⟩; rintro last _ ⟨t, rfl, ht, q, hq1, hq2, hl0, hl1⟩; dsimp only; refine ⟨fun hlt => ?_, fun hge => ?_⟩
 .have htl : t < X.length := by omega
  have hwt := hw t htl; refine ⟨⟨by omega, by omega⟩, ?_⟩; show Zh (row X t) _ _; have hlast : ∀ q', Cnl C.toNat X q' -> ∀ u, t = u + 1 -> last = (q' u : Int) := fun q' hq' u hu => by
   have hul : u < X.length := by omega
   have := hq'.lead (t := u) (k := q u) hul (by rw [(hq1 u (by omega)).2.1 u hul, if_pos rfl]; decide) (hq1 u (by omega)).2.2; rw [this]; exact hl1 u hu
  refine Jm0 (by omega) (fun k hk hne hz => ?_) (fun hz => ?_)
  .have hkq : ∀ q', Cnl C.toNat X q' -> q' t = k := fun q' hq' => hq'.lead htl hne hz; refine ⟨fun hle => h2 ?_, fun hgt => ?_⟩
   .rintro ⟨q', hq'⟩; rcases Nat.eq_zero_or_pos t with h0 | h0
    .have := hl0 h0; omega
    .have e1 := hlast q' hq' (t - 1) (by omega); have e2 := hq'.asc (t - 1) t (by omega) htl; have e3 := hkq q' hq'; omega
   .refine ⟨⟨by omega, by show (k : Int) < ((row X t).length : Nat); omega⟩, fun hn1 => h2 ?_, fun h1' => ?_⟩
    .rintro ⟨q', hq'⟩; have := hq'.one t htl t htl; rw [hkq q' hq', if_pos rfl] at this; exact hn1 this
    .have hone : vo (row X t) k = 1 := Classical.not_not.1 h1'; refine ⟨fun z => ∃ u : Nat, z = u /\ u <= X.length /\ ∀ j, j < u -> j ≠ t -> vo (row X j) k = 0, fun z => (X.length - z).toNat, ⟨0, rfl, Nat.zero_le _, fun j hj => absurd hj (Nat.not_lt_zero j)⟩, ?_⟩; rintro _ ⟨u, rfl, hu, hju⟩; dsimp only; refine ⟨fun hlt2 => ?_, fun hge2 => ?_⟩
     .have hul : u < X.length := by omega
      have hwu := hw u hul; refine ⟨fun _ => u = t ∨ vo (row X u) k = 0, ⟨⟨by omega, by omega⟩, fun hne2 => ⟨⟨by omega, by show (k : Int) < ((row X u).length : Nat); omega⟩, fun hnz => h2 ?_, fun hz2 => .inr (Classical.not_not.1 hz2)⟩, fun he => .inl (by have := Classical.not_not.1 he; omega)⟩, ?_⟩
      .rintro ⟨q', hq'⟩; have := hq'.one t htl u hul; rw [hkq q' hq', if_neg (by omega)] at this; exact hnz this
      .intro b hb; refine ⟨JD (by omega) (by omega), ⟨u + 1, by push_cast; rfl, by omega, fun j hj hne2 => ?_⟩, by omega⟩; rcases Nat.lt_or_ge j u with h | h
       .exact hju j h hne2
       .have : j = u := by omega
        subst this; exact hb.resolve_left hne2
     .obtain ⟨q2, e1, e2⟩ : ∃ q2 : Nat -> Nat, q2 t = k /\ ∀ i, i ≠ t -> q2 i = q i := ⟨fun i => if i = t then k else q i, if_pos rfl, fun i h => if_neg h⟩
      refine ⟨JD (by omega) (by omega), ⟨t + 1, by push_cast; rfl, by omega, q2, fun i hi => ?_, fun i j hij hj => ?_, fun h0 => by omega, fun u hu => ?_⟩, by omega⟩
      .by_cases hit : i = t
       .subst hit; rw [e1]; refine ⟨by omega, fun s hs' => ?_, fun c hc => hz c hc⟩; by_cases hsi : s = i
        .subst hsi; rw [if_pos rfl]; exact hone
        .rw [if_neg hsi]; exact hju s (by omega) hsi
       .rw [e2 i hit]; exact hq1 i (by omega)
      .have hit : i ≠ t := by omega
       rw [e2 i hit]; by_cases hjt : j = t
       .subst hjt; rw [e1]; have hlu := hl1 (j - 1) (by omega); have : q i <= q (j - 1) := by
         rcases Nat.lt_or_ge i (j - 1) with h | h
         .exact Nat.le_of_lt (hq2 i (j - 1) h (by omega))
         .have : i = j - 1 := by omega
          rw [this]; exact Nat.le_refl _
        omega
       .rw [e2 j hjt]; exact hq2 i j hij (by omega)
      .have : u = t := by omega
       subst this; rw [e1]
  .have hge : (-1 : Int) <= last := by
    rcases Nat.eq_zero_or_pos t with h0 | h0
    .rw [hl0 h0]; exact Int.le_refl _
    .have := hl1 (t - 1) (by omega); omega
   refine ⟨fun _ => h2 ?_, fun hgt => absurd hge hgt⟩; rintro ⟨q', hq'⟩; have := hq'.one t htl t htl; rw [hz (q' t) (by have := hq'.lt t htl; omega), if_pos rfl] at this; exact absurd this (by decide)
 .have : t = X.length := by omega
  subst this; exact h1 ⟨q, fun i hi => (hq1 i hi).1, fun i hi t ht => (hq1 i hi).2.1 t ht, fun i hi => (hq1 i hi).2.2, hq2⟩
open Classical in
noncomputable def sck (P M : Int) (mf : List Int) (C : Int) (X : List (List Int)) : Int := if mck P M mf C X ≠ 0 then mck P M mf C X else if IsCn C X then 0 else 5
theorem sck_no (h : mck P M mf C X ≠ 0) : sck P M mf C X = mck P M mf C X := if_pos h
theorem sck_nc (h : mck P M mf C X = 0) (h2 : ¬ IsCn C X) : sck P M mf C X = 5 := by unfold sck; rw [if_neg (fun hh => hh h), if_neg h2]
theorem Jwe (h : mck P M mf C X = 0) (h2 : IsCn C X) : sck P M mf C X = 0 := by unfold sck; rw [if_neg (fun hh => hh h), if_pos h2]
theorem ZW {Q : Int -> Prop} (h : Q (sck P M mf C X)) : YC P M mf C X Q := by
 refine Jkj ⟨fun hne => by rw [sck_no hne] at h; exact h, fun he => ?_⟩; have h0 : mck P M mf C X = 0 := Classical.not_not.1 he; obtain ⟨hV, hs, hE⟩ := Jdp h0; refine Jho hs (fun hc => ?_) (fun hc => ?_)
 .rw [Jwe h0 hc] at h; exact ⟨fun hb => (by cases hb), fun _ => h⟩
 .rw [sck_nc h0 hc] at h; exact ⟨fun _ => h, fun hb => by cases hb⟩
theorem Za {a b : List Int} {Q : Bool -> Prop} (ha : a.length <= 1000000) (h1 : a = b -> Q true) (h2 : a ≠ b -> Q false) : Yo a b Q := by
 refine ⟨fun hne => h2 fun e => hne (by rw [e]), fun he => ?_⟩; have hl : a.length = b.length := by have := Classical.not_not.1 he; omega
 refine ⟨fun z => ∃ t : Nat, z = t /\ t <= a.length /\ ∀ j, j < t -> vo a j = vo b j, fun z => (a.length - z).toNat, ⟨0, rfl, Nat.zero_le _, fun j hj => absurd hj (Nat.not_lt_zero j)⟩, ?_⟩; rintro _ ⟨t, rfl, ht, hj⟩; dsimp only; refine ⟨fun hlt => ⟨⟨by omega, by omega⟩, ⟨by omega, by omega⟩, fun hne => h2 fun e => hne (by rw [e]), fun heq => ⟨JD (by omega) (by omega), ⟨t + 1, by push_cast; rfl, by omega, fun j hj' => ?_⟩, by omega⟩⟩, fun hge => h1 ?_⟩
 .rcases Nat.lt_or_ge j t with h | h
  .exact hj j h
  .have : j = t := by omega
   subst this; exact Classical.not_not.1 heq
 .refine List.ext_getElem hl fun i i1 i2 => ?_; have := hj i (by omega); unfold vo at this
  rwa [List.getD_eq_getElem?_getD, List.getElem?_eq_getElem i1, List.getD_eq_getElem?_getD, List.getElem?_eq_getElem i2] at this
theorem Y9 {X Y : List (List Int)} {Q : Bool -> Prop} (hX : X.length <= 1000000) (hr : ∀ t, t < X.length -> (row X t).length <= 1000000) (h1 : X = Y -> Q true) (h2 : X ≠ Y -> Q false) : Q3 X Y Q := by
 refine ⟨fun hne => h2 fun e => hne (by rw [e]), fun he => ?_⟩; have hl : X.length = Y.length := by have := Classical.not_not.1 he; omega
 refine ⟨fun z => ∃ t : Nat, z = t /\ t <= X.length /\ ∀ j, j < t -> row X j = row Y j, fun z => (X.length - z).toNat, ⟨0, rfl, Nat.zero_le _, fun j hj => absurd hj (Nat.not_lt_zero j)⟩, ?_⟩; rintro _ ⟨t, rfl, ht, hj⟩; dsimp only; refine ⟨fun hlt => ⟨⟨by omega, by omega⟩, ⟨by omega, by omega⟩, ?_⟩, fun hge => h1 (QS hl fun i hi => hj i (by omega))⟩; have htl : t < X.length := by omega
 by_cases e : row X t = row Y t
 .refine ⟨true, Za (hr t htl) (fun _ => rfl) (fun hne => absurd e hne), fun hb => (by cases hb), fun _ => ⟨JD (by omega) (by omega), ⟨t + 1, by push_cast; rfl, by omega, fun j hj' => ?_⟩, by omega⟩⟩; rcases Nat.lt_or_ge j t with h | h
  .exact hj j h
  .have : j = t := by omega
   subst this; exact e
 .exact ⟨false, Za (hr t htl) (fun e' => absurd e' e) (fun _ => rfl), fun _ => h2 fun e' => e (by rw [e']), fun hb => (by cases hb)⟩
end Go.Proofs.YtngdhnijkgjhcaaGreat
set_option linter.unusedVariables false
set_option linter.unusedSimpArgs false
namespace Go.Proofs.YtngdhnijkgjhcaaGreat
variable {P M : Int} {mf : List Int} {p m v g : Nat} {C : Int} {X Y : List (List Int)} {F : GFv}
def pvl (q : Nat -> Nat) (n : Nat) : List Int := (List.range n).map fun i => ((q i : Nat) : Int)
theorem Yd (q : Nat -> Nat) (n : Nat) : (pvl q n).length = n := by simp [pvl]
theorem Jfz {q : Nat -> Nat} {n i : Nat} (h : i < n) : vo (pvl q n) i = (q i : Int) := Jah h
theorem Jki {q : Nat -> Nat} {Q : List Int -> Prop} (hs : shp C X) (hq : Cnl C.toNat X q) (h : Q (pvl q X.length)) : Z7 C X Q := by
 obtain ⟨hX, hC, hCe⟩ := Yi hs; refine ⟨⟨by omega, by omega, by omega⟩, fun x z => ∃ t : Nat, z = t /\ t <= X.length /\ x.length = X.length /\ ∀ j, j < t -> vo x j = (q j : Int), fun _ z => (X.length - z).toNat, ⟨0, rfl, Nat.zero_le _, by simp, fun j hj => absurd hj (Nat.not_lt_zero j)⟩, ?_⟩; rintro x _ ⟨t, rfl, ht, hx, hj⟩; dsimp only; refine ⟨fun hlt => ?_, fun hge => ?_⟩
 .have htl : t < X.length := by omega
  refine ⟨⟨by omega, by omega⟩, ?_⟩; show Zh (row X t) _ _; refine Jm0 (by have := J1 hs htl; omega) (fun k hk hne hz => ?_) (fun hz => ?_)
  .have e := hq.lead htl hne hz; refine ⟨⟨by omega, by omega⟩, JD (by omega) (by omega), ⟨t + 1, by push_cast; rfl, by omega, by rw [QJ, List.length_set]; exact hx, fun j hj' => ?_⟩, by omega⟩; rw [QJ, Qn]; by_cases e2 : t = j
   .subst e2; rw [if_pos ⟨rfl, by omega⟩, e]
   .rw [if_neg (fun hh => e2 hh.1)]; exact hj j (by omega)
  .have h1 := hq.one t htl t htl; rw [hz (q t) (by have := hq.lt t htl; have := J1 hs htl; omega), if_pos rfl] at h1; exact absurd h1 (by decide)
 .have : x = pvl q X.length := QY (by rw [hx, Yd]) fun i hi => by rw [hj i (by omega), Jfz (by omega)]
  rw [this]; exact h
theorem w_Sub {x y : Int} {Q : Int -> Prop} (K : GFk F p m v g) (h : Q (Sb p m x y)) : Jr6 F x y Q := by
 refine Jqf K (v_Add K ?_); rw [Ql (QU (by have := K.fv.p2; omega) _)]; exact h
theorem Jvs {a o : List Int} {x : Int} {k : Nat} (h0 : x ≠ 0) (hk : k < a.length) : vo (sbx p m v a x o) k = if k < o.length then Sb p m (vo a k) (Ml p m v x (vo o k)) else vo a k := by
 unfold sbx; rw [if_neg h0, Jah hk]
theorem Jzp (a o : List Int) (x : Int) : (sbx p m v a x o).length = a.length := by
 unfold sbx; split
 .rfl
 .simp
theorem Jmx {a o : List Int} {x : Int} {Q : List Int -> Prop} (K : GFk F p m v g) (hl : o.length <= a.length) (ha : a.length <= 1000000) (h : Q (sbx p m v a x o)) : Ja1 F a x o Q := by
 refine ⟨fun h0 => by unfold sbx at h; rwa [if_pos h0] at h, fun h0 => ?_⟩; refine ⟨fun y z => ∃ t : Nat, z = t /\ t <= o.length /\ y.length = a.length /\ ∀ k, k < a.length -> vo y k = if k < t then vo (sbx p m v a x o) k else vo a k, fun y z => (o.length - z).toNat, ⟨0, rfl, Nat.zero_le _, rfl, fun k hk => by simp⟩, ?_⟩; rintro y _ ⟨t, rfl, ht, hy, hk⟩; dsimp only; rw [JX, JX]; refine ⟨fun hlt => ⟨⟨by omega, by omega⟩, ⟨by omega, by omega⟩, _, Jko K rfl, _, w_Sub K rfl, ⟨by omega, by omega⟩, JD (by omega) (by omega), ⟨t + 1, by push_cast; rfl, by omega, by rw [QJ, List.length_set]; exact hy, fun k hk' => ?_⟩, by omega⟩, fun hge => ?_⟩
 .rw [QJ, Qn]; by_cases e : t = k
  .subst e; rw [if_pos ⟨rfl, by omega⟩, if_pos (by omega), Jvs h0 hk', if_pos (by omega), hk t hk', if_neg (by omega)]; rfl
  .rw [if_neg (fun h => e h.1), hk k hk']; by_cases hkt : k < t
   .rw [if_pos hkt, if_pos (by omega)]
   .rw [if_neg hkt, if_neg (by omega)]
 .have : y = sbx p m v a x o := QY (by rw [hy, Jzp]) fun k hk' => by
   rw [hk k (by omega)]; split
   .rfl
   .rw [Jvs h0 (by omega), if_neg (by omega)]
  rw [this]; exact h
theorem Jdb {l : List (List Int)} {q : Nat -> Nat} {Q : List (List Int) -> Prop} (hF : FV P M mf p m v) (hs : shp C X) (hq : Cnl C.toNat X q) (hl : l.length <= 1000) (hw : ∀ t, t < l.length -> (row l t).length = C.toNat) (hE : Els p m l)
  (h : Q (l.map fun u => rsd p m v q X u X.length)) : YD P M mf C X l Q := by
 obtain ⟨hX, hC, hCe⟩ := Yi hs; refine v_New (fun hV => absurd ⟨p, m, v, hF⟩ hV) fun F p' m' v' g' K e1 e2 e3 => ?_; have hF' : FV P M mf p' m' v' := by rw [<- e1, <- e2, <- e3]; exact K.fv
 obtain ⟨rfl, rfl, rfl⟩ := hF.uniq3 hF'; have hp : 0 < p := by have := hF.p2; omega
 refine Jki hs hq ?_; refine ⟨⟨by omega, by omega, by omega⟩, fun x z => ∃ t : Nat, z = t /\ t <= l.length /\ x.length = l.length /\ ∀ j, j < t -> row x j = rsd p m v q X (row l j) X.length, fun _ z => (l.length - z).toNat, ⟨0, rfl, Nat.zero_le _, by simp, fun j hj => absurd hj (Nat.not_lt_zero j)⟩, ?_⟩; rintro x _ ⟨t, rfl, ht, hx, hj⟩; dsimp only; refine ⟨fun hlt => ?_, fun hge => ?_⟩
 .have htl : t < l.length := by omega
  have hwt := hw t htl; have hgl : gl l (t : Int) = row l t := rfl; rw [hgl]; refine ⟨⟨by omega, by omega⟩, Jde (by omega) ⟨⟨by omega, by omega⟩, ?_⟩⟩; refine ⟨fun y z => ∃ s : Nat, z = s /\ s <= X.length /\ y.length = l.length /\ row y t = rsd p m v q X (row l t) s /\ ∀ j, j < t -> row y j = row x j, fun _ z => (X.length - z).toNat, ⟨0, rfl, Nat.zero_le _, by rw [Zy]; exact hx, ?_, fun j hj' => ?_⟩, ?_⟩
  .show row (x.set t (row l t)) t = _; rw [Qk, if_pos ⟨rfl, by omega⟩]; rfl
  .show row (x.set t (row l t)) j = _; rw [Qk, if_neg (fun hh => by omega)]
  rintro y _ ⟨s, rfl, hsx, hy, hyt, hyj⟩; dsimp only; refine ⟨fun hlt2 => ?_, fun hge2 => ?_⟩
  .have hsl : s < X.length := by rw [Yd] at hlt2; omega
   have e : gi (pvl q X.length) (s : Int) = (q s : Int) := Jfz hsl; have hqs := hq.lt s hsl; rw [e]; refine ⟨⟨by omega, by rw [Yd]; omega⟩, ⟨by omega, by omega⟩, ⟨by omega, by omega⟩, ⟨by omega, by omega⟩, ?_⟩; have e4 : gi (row l t) (q s : Int) = vo (row l t) (q s) := rfl; have e5 : gl X (s : Int) = row X s := rfl; have e6 : gl y (t : Int) = row y t := rfl; rw [e4, e5, e6]; have hrow : (row X s).length = C.toNat := J1 hs hsl; have hyl : (row y t).length = C.toNat := by rw [hyt, Zz]; exact hwt
   have hyE : Elr p m (row y t) := by rw [hyt]; exact ZA hp q (J9 hE t) s
   refine Jmx K (by omega) (by omega) ?_; have hx1 : El p m (vo (row l t) (q s)) := Jax (J9 hE t) (by omega); rw [Jzq hF hyE hx1, hyt]; refine ⟨JD (by omega) (by omega), ⟨s + 1, by push_cast; rfl, by omega, by rw [Zy]; exact hy, ?_, fun j hj' => ?_⟩, by rw [Yd] at hlt2; omega⟩
   .show row (y.set t _) t = _; rw [Qk, if_pos ⟨rfl, by omega⟩]; rfl
   .show row (y.set t _) j = _; rw [Qk, if_neg (fun hh => by omega)]; exact hyj j hj'
  .rw [Yd] at hge2; have hsx' : s = X.length := by omega
   subst hsx'; refine ⟨JD (by omega) (by omega), ⟨t + 1, by push_cast; rfl, by omega, hy, fun j hj' => ?_⟩, by omega⟩; by_cases e : j = t
   .subst e; exact hyt
   .rw [hyj j (by omega)]; exact hj j (by omega)
 .have : x = l.map fun u => rsd p m v q X u X.length := QS (by simp [hx]) fun i hi => by
   rw [hj i (by omega)]; unfold row; rw [List.getD_eq_getElem?_getD, List.getD_eq_getElem?_getD, List.getElem?_map, List.getElem?_eq_getElem (by omega : i < l.length)]; rfl
  rw [this]; exact h
def zr (u : List Int) : Prop := ∀ c, c < u.length -> vo u c = 0
theorem Jh2 {l : List (List Int)} {Q : Bool -> Prop} (hl : l.length <= 1000000) (hw : ∀ t, t < l.length -> (row l t).length <= 1000000) (h1 : (∀ t, t < l.length -> zr (row l t)) -> Q true) (h2 : (¬ ∀ t, t < l.length -> zr (row l t)) -> Q false) : Jac l Q := by
 refine ⟨fun z => ∃ t : Nat, z = t /\ t <= l.length /\ ∀ j, j < t -> zr (row l j), fun z => (l.length - z).toNat, ⟨0, rfl, Nat.zero_le _, fun j hj => absurd hj (Nat.not_lt_zero j)⟩, ?_⟩; rintro _ ⟨t, rfl, ht, hj⟩; dsimp only; refine ⟨fun hlt => ⟨⟨by omega, by omega⟩, ?_⟩, fun hge => h1 fun j hj' => hj j (by omega)⟩; have htl : t < l.length := by omega
 show Q4 (row l t) _ _; refine Jm0 (hw t htl) (fun k hk hne _ => ⟨fun _ => h2 fun hz => hne (hz t htl k hk), fun hb => ?_⟩) (fun hz => ⟨fun hb => absurd (of_decide_eq_true hb) (by decide), fun _ => ⟨JD (by omega) (by omega), ⟨t + 1, by push_cast; rfl, by omega, fun j hj' => ?_⟩, by omega⟩⟩)
 .have := of_decide_eq_false hb; omega
 .rcases Nat.lt_or_ge j t with h | h
  .exact hj j h
  .rw [show j = t by omega]; exact hz
end Go.Proofs.YtngdhnijkgjhcaaGreat
set_option linter.unusedVariables false
set_option linter.unusedSimpArgs false
namespace Go.Proofs.YtngdhnijkgjhcaaGreat
variable {P M : Int} {mf : List Int} {p m v g : Nat} {C Ca Cb : Int} {X Y a b : List (List Int)} {F : GFv}
noncomputable def prk (P M : Int) (mf : List Int) (Ca : Int) (a : List (List Int)) (Cb : Int) (b : List (List Int)) : Int := if sck P M mf Ca a ≠ 0 then sck P M mf Ca a else if sck P M mf Cb b ≠ 0 then sck P M mf Cb b else if Ca ≠ Cb then 10 else 0
theorem Ja9 {Q : Int -> Prop} (h : Q (prk P M mf Ca a Cb b)) : Yq P M mf Ca a Cb b Q := by
 unfold prk at h; refine ZW ⟨fun h1 => by rwa [if_pos h1] at h, fun h1 => ZW ⟨fun h2 => by rwa [if_neg h1, if_pos h2] at h, fun h2 => ⟨fun h3 => by rwa [if_neg h1, if_neg h2, if_pos h3] at h, fun h3 => by rwa [if_neg h1, if_neg h2, if_neg h3] at h⟩⟩⟩
structure Sg (P M : Int) (mf : List Int) (p m v : Nat) (C : Int) (X : List (List Int)) (q : Nat -> Nat) : Prop where
  f : FV P M mf p m v
  s : shp C X
  e : Els p m X
  q : Cnl C.toNat X q
theorem Sg.mk0 {q : Nat -> Nat} (G : Sg P M mf p m v C X q) : mck P M mf C X = 0 := Jbi ⟨p, m, v, G.f⟩ G.s ((QB G.f).2 G.e)
theorem Sg.sck {q : Nat -> Nat} (G : Sg P M mf p m v C X q) : sck P M mf C X = 0 := Jwe G.mk0 ⟨q, G.q⟩
def rdl (p m v : Nat) (q : Nat -> Nat) (X l : List (List Int)) : List (List Int) := l.map fun u => rsd p m v q X u X.length
theorem Jdi (q : Nat -> Nat) (X l : List (List Int)) : (rdl p m v q X l).length = l.length := by simp [rdl]
theorem Jbu {q : Nat -> Nat} {X l : List (List Int)} {t : Nat} (h : t < l.length) : row (rdl p m v q X l) t = rsd p m v q X (row l t) X.length := by
 unfold rdl row; rw [List.getD_eq_getElem?_getD, List.getD_eq_getElem?_getD, List.getElem?_map, List.getElem?_eq_getElem h]; rfl
theorem Jed {l : List (List Int)} (hC : 0 <= C /\ C <= 256) (hl : l.length <= 256) (hw : ∀ t, t < l.length -> (row l t).length = C.toNat) : shp C l := by
 unfold shp; refine ⟨hC.1, hC.2, by omega, fun r hr => ?_⟩; obtain ⟨t, ht, rfl⟩ := Jar hr; have := hw t ht; omega
theorem ZX (hs : shp C X) : 0 <= C /\ C <= 256 := by have := Yi hs; omega
theorem Jfe {q : Nat -> Nat} {l : List (List Int)} (hs : shp C l) : shp C (rdl p m v q X l) :=
 Jed (ZX hs) (by rw [Jdi]; exact QA hs) fun t ht => by rw [Jdi] at ht; rw [Jbu ht, Zz]; exact J1 hs ht
theorem Ji7 (hF : FV P M mf p m v) {q : Nat -> Nat} {l : List (List Int)} (he : Els p m l) : Els p m (rdl p m v q X l) := ZR fun t ht => by
 rw [Jdi] at ht; rw [Jbu ht]; exact ZA (by have := hF.p2; omega) q (J9 he t) _
def ain (p m v : Nat) (q : Nat -> Nat) (X l : List (List Int)) : Prop := ∀ t, t < l.length -> zr (rsd p m v q X (row l t) X.length)
theorem Jrn {q : Nat -> Nat} {X l : List (List Int)} : (∀ t, t < (rdl p m v q X l).length -> zr (row (rdl p m v q X l) t)) ↔ ain p m v q X l := by
 unfold ain; rw [Jdi]; exact ⟨fun h t ht => by have := h t ht; rwa [Jbu ht] at this, fun h t ht => by rw [Jbu ht]; exact h t ht⟩
theorem Jng {q r : Nat -> Nat} (G : Sg P M mf p m v Ca a q) (H : Sg P M mf p m v Cb b r) (e : Ca = Cb) : prk P M mf Ca a Cb b = 0 := by
 unfold prk; rw [if_neg (fun hh => hh G.sck), if_neg (fun hh => hh H.sck), if_neg (fun hh => hh e)]
theorem Jfy {q r : Nat -> Nat} {Q : Bool × Int -> Prop} (G : Sg P M mf p m v C a q) (H : Sg P M mf p m v C b r) (h1 : ain p m v r b a -> Q (true, 0)) (h2 : ¬ ain p m v r b a -> Q (false, 0)) : Jad P M mf C a C b Q := by
 refine Ja9 ?_; rw [Jng G H rfl]; refine ⟨fun hh => absurd rfl hh, fun _ => Jdb H.f H.s H.q (by have := QA G.s; omega) (fun t ht => J1 G.s ht) G.e ?_⟩; have hsh := Jfe (p := p) (m := m) (v := v) (q := r) (X := b) G.s; exact Jh2 (l := rdl p m v r b a) (by have := QA hsh; omega) (fun t ht => by have := J1 hsh ht; have := Yi hsh; omega) (fun hz => h1 (Jrn.1 hz)) (fun hz => h2 fun hh => hz (Jrn.2 hh))
theorem Jmy {l : List (List Int)} {Q : Int × List (List Int) × Int -> Prop} (hF : FV P M mf p m v) (hs : shp C l) (he : Els p m l) (h : Q (C, JI p m v C l, 0)) : Jet P M mf C l Q := by
 have h0 : mck P M mf C l = 0 := Jbi ⟨p, m, v, hF⟩ hs ((QB hF).2 he); refine Jbb (fun hh => absurd h0 hh) fun p' m' v' hF' _ _ _ => ?_; obtain ⟨rfl, rfl, rfl⟩ := hF.uniq3 hF'; exact h
theorem Jm2 {q r : Nat -> Nat} {Q : Int × List (List Int) × Int -> Prop} (G : Sg P M mf p m v C a q) (H : Sg P M mf p m v C b r) (h1 : ain p m v r b a -> Q (C, JI p m v C (rdl p m v q a b), 0)) (h2 : ¬ ain p m v r b a -> Q (0, [], 11)) : Ja6 P M mf C a C b Q := by
 refine Jfy G H (fun hin => ⟨fun hh => absurd rfl hh, fun _ => ⟨fun hb => (by cases hb), fun _ => ?_⟩⟩) (fun hin => ⟨fun hh => absurd rfl hh, fun _ => ⟨fun _ => h2 hin, fun hb => by cases hb⟩⟩); exact ⟨rdl p m v q a b, Jdb G.f G.s G.q (by have := QA H.s; omega) (fun t ht => J1 H.s ht) H.e rfl, _, _, _, Jmy G.f (Jfe H.s) (Ji7 G.f H.e) rfl, h1 hin⟩
theorem w_few {Q : Bool -> Prop} (h1 : Ca <= 20 -> Cb <= 20 -> a.length <= 150 -> b.length <= 150 -> Q true) (h2 : Q false) : Jr4 Ca a Cb b Q := by
 refine ⟨fun hA => ⟨fun hB => Jvl (by omega) (fun _ ha _ => ⟨fun _ => Jvl (by omega) (fun _ hb _ => h1 hA hB (by omega) (by omega)) h2, fun hb => (by cases hb)⟩) ⟨fun hb => (by cases hb), fun _ => h2⟩, fun _ => h2⟩, fun _ => h2⟩
end Go.Proofs.YtngdhnijkgjhcaaGreat
set_option linter.unusedVariables false
set_option linter.unusedSimpArgs false
namespace Go.Proofs.YtngdhnijkgjhcaaGreat
variable {P M : Int} {mf : List Int} {p m v g w : Nat} {C Ca Cb : Int} {X Y a b : List (List Int)}
theorem ZD (A B : List (List Int)) (t : Nat) : row (A ++ B) t = if t < A.length then row A t else row B (t - A.length) := by
 unfold row; rw [List.getD_eq_getElem?_getD, List.getElem?_append]; split <;> rw [List.getD_eq_getElem?_getD]
theorem Jrm {f : (Nat -> Nat) -> Nat} {A B : List (List Int)} : Ann p m f (A ++ B) ↔ Ann p m f A /\ Ann p m f B := by
 unfold Ann; rw [List.length_append]; refine ⟨fun h => ⟨fun t ht => ?_, fun t ht => ?_⟩, fun h t ht => ?_⟩
 .have := h t (by omega); rwa [ZD, if_pos ht] at this
 .have := h (A.length + t) (by omega); rwa [ZD, if_neg (by omega), Nat.add_sub_cancel_left] at this
 .rw [ZD]; split
  .rename_i hh; exact h.1 t hh
  .exact h.2 _ (by omega)
theorem ZL {A B : List (List Int)} (hA : shp C A) (hB : shp C B) (h : A.length + B.length <= 256) : shp C (A ++ B) :=
 Jed (ZX hA) (by rw [List.length_append]; exact h) fun t ht => by
  rw [List.length_append] at ht; rw [ZD]; split
  .exact J1 hA (by assumption)
  .exact J1 hB (by omega)
theorem Jb7 {A B : List (List Int)} (hA : Els p m A) (hB : Els p m B) : Els p m (A ++ B) := fun r hr => by
 rcases List.mem_append.1 hr with h | h
 .exact hA r h
 .exact hB r h
theorem Jrl (hF : FV P M mf p m v) {f : (Nat -> Nat) -> Nat} (L : Lin p m v w f) {q : Nat -> Nat} {l : List (List Int)} (hw : ∀ t, t < l.length -> (row l t).length = w) (hX : Ann p m f X) : Ann p m f (rdl p m v q X l) ↔ Ann p m f l := by
 unfold Ann; rw [Jdi]; refine ⟨fun h t ht => ?_, fun h t ht => ?_⟩
 .have := h t ht; rwa [Jbu ht, Jaj hF L (hw t ht) hX X.length (Nat.le_refl _)] at this
 .rw [Jbu ht, Jaj hF L (hw t ht) hX X.length (Nat.le_refl _)]; exact h t ht
theorem Jxv (hF : FV P M mf p m v) (hs : shp C X) (he : Els p m X) : (JI p m v C X).length <= C.toNat := (Jjw hF hs he).len
theorem sum_eq (hF : FV P M mf p m v) {q : Nat -> Nat} (ha : shp C a) (ea : Els p m a) (hb : shp C b) (eb : Els p m b) (hl : a.length + C.toNat <= 256) (hl2 : a.length + b.length <= 256) :
  JI p m v C (a ++ JI p m v C (rdl p m v q a b)) = JI p m v C (a ++ b) := by
 have h1 := Jfe (p := p) (m := m) (v := v) (q := q) (X := a) hb; have h2 := Ji7 (X := a) (q := q) hF eb; have h3 := Jxv hF h1 h2; refine (Jl7 hF (ZL ha (YB h1) (by omega)) (Jb7 ea (Q1 hF h2)) (ZL ha hb hl2) (Jb7 ea eb) fun f L => ?_).2; rw [Jrm, Jrm, Qy hF h1 h2 L]; exact ⟨fun ⟨u1, u2⟩ => ⟨u1, (Jrl hF L (fun t ht => J1 hb ht) u1).1 u2⟩, fun ⟨u1, u2⟩ => ⟨u1, (Jrl hF L (fun t ht => J1 hb ht) u1).2 u2⟩⟩
theorem w_sum {q : Nat -> Nat} {Q : Int × List (List Int) × Int -> Prop} (G : Sg P M mf p m v C a q) (hb : shp C b) (eb : Els p m b) (hl : a.length + C.toNat <= 256) (hl2 : a.length + b.length <= 256) (h : Q (C, JI p m v C (a ++ b), 0)) : Jml P M mf C a C b Q := by
 have h1 := Jfe (p := p) (m := m) (v := v) (q := q) (X := a) hb; have h2 := Ji7 (X := a) (q := q) G.f eb; have h3 := Jxv G.f h1 h2; refine ⟨fun c x e => c = C /\ x = JI p m v C (rdl p m v q a b) /\ e = 0, ⟨rdl p m v q a b, Jdb G.f G.s G.q (by have := QA hb; omega) (fun t ht => J1 hb ht) eb rfl, _, _, _, Jmy G.f h1 h2 rfl, rfl, rfl, rfl⟩, ?_⟩; rintro c x e ⟨rfl, rfl, rfl⟩; refine ⟨fun hh => absurd rfl hh, fun _ => ⟨a ++ JI p m v c (rdl p m v q a b), ⟨?_, ?_, ?_⟩, _, _, _, Jmy G.f (ZL G.s (YB h1) (by omega)) (Jb7 G.e (Q1 G.f h2)) rfl, ?_⟩⟩
 .simp; omega
 .simp
 .simp
 .rw [sum_eq G.f G.s G.e hb eb hl hl2]; exact h
theorem w_Sum {q r : Nat -> Nat} {Q : Int × List (List Int) × Int -> Prop} (G : Sg P M mf p m v C a q) (H : Sg P M mf p m v C b r) (hC : C <= 100) (h : Q (C, JI p m v C (a ++ b), 0)) : Jr5 P M mf C a C b Q := by
 have h1 := G.q.len; have h2 := H.q.len; have h3 := ZX G.s; refine Ja9 ?_; rw [Jng G H rfl]; exact ⟨fun hh => absurd rfl hh, fun _ => w_sum G H.s H.e (by omega) (by omega) h⟩
def nul (p m v : Nat) (C : Int) (X : List (List Int)) : List (List Int) := JI p m v C (QX p m v C X)
theorem Qab (hF : FV P M mf p m v) (hs : shp C X) (he : Els p m X) : nul p m v C (JI p m v C X) = nul p m v C X := by
 obtain ⟨h1, h2⟩ := Jjx hF hs he; unfold nul QX; rw [h1, h2]
theorem Yx (hF : FV P M mf p m v) (hs : shp C X) : Sg P M mf p m v C (nul p m v C X) fun i => (vo (JA p m v C (QX p m v C X)) i).toNat :=
 ⟨hF, YB (QM hs), Q1 hF (QN hF), Jjw hF (QM hs) (QN hF)⟩
theorem Jfx {Q : Int × List (List Int) × Int -> Prop} (hF : FV P M mf p m v) (hs : shp C X) (he : Els p m X) (h : Q (C, nul p m v C X, 0)) : YG P M mf C X Q := by
 have h0 : mck P M mf C X = 0 := Jbi ⟨p, m, v, hF⟩ hs ((QB hF).2 he); refine Jvp (fun hh => absurd h0 hh) fun p' m' v' hF' _ _ _ => ?_; obtain ⟨rfl, rfl, rfl⟩ := hF.uniq3 hF'; exact h
theorem w_Dual {q : Nat -> Nat} {Q : Int × List (List Int) × Int -> Prop} (G : Sg P M mf p m v C a q) (h : Q (C, nul p m v C a, 0)) : Jka P M mf C a Q := by
 refine ZW ?_; rw [G.sck]; exact ⟨fun hh => absurd rfl hh, fun _ => Jfx G.f G.s G.e h⟩
theorem w_Meet {q r : Nat -> Nat} {Q : Int × List (List Int) × Int -> Prop} (G : Sg P M mf p m v C a q) (H : Sg P M mf p m v C b r) (hC : C <= 100) (h : Q (C, nul p m v C (nul p m v C a ++ nul p m v C b), 0)) : Jj9 P M mf C a C b Q := by
 have G' := Yx (v := v) G.f G.s; have H' := Yx (v := v) H.f H.s; have h1 := G'.q.len; have h2 := H'.q.len; have h3 := ZX G.s; have hs := ZL G'.s H'.s (by omega); have he := Jb7 G'.e H'.e; refine Ja9 ?_; rw [Jng G H rfl]; refine ⟨fun hh => absurd rfl hh, fun _ => Jfx G.f G.s G.e ⟨fun hh => absurd rfl hh, fun _ => Jfx H.f H.s H.e ⟨fun hh => absurd rfl hh, fun _ => w_sum G' H'.s H'.e (by omega) (by omega) ⟨fun hh => absurd rfl hh, fun _ => Jfx G.f (YB hs) (Q1 G.f he) ?_⟩⟩⟩⟩; rw [Qab G.f hs he]; exact h
noncomputable def wdk (P M : Int) (mf : List Int) (C : Int) (a : List (List Int)) (y : List Int) : Int := if sck P M mf C a ≠ 0 then sck P M mf C a else if (y.length : Int) ≠ C then 3 else mck P M mf C [y]
theorem Jev {y : List Int} {Q : Int -> Prop} (h : Q (wdk P M mf C a y)) : Y3 P M mf C a y Q := by
 unfold wdk at h; refine ZW ⟨fun h1 => by rwa [if_pos h1] at h, fun h1 => ⟨fun h2 => by rwa [if_neg h1, if_pos h2] at h, fun h2 => Jkj (by rwa [if_neg h1, if_neg h2] at h)⟩⟩
theorem Jz2 {y : List Int} (hC : 0 <= C /\ C <= 256) (hy : (y.length : Int) = C) : shp C [y] := Jed hC (by simp) fun t ht => by
 have : t = 0 := by simpa using ht
 subst this; show y.length = _; omega
theorem Jjb {y : List Int} : Els p m [y] ↔ Elr p m y := by unfold Els; simp
theorem Jy8 {q : Nat -> Nat} {y : List Int} (G : Sg P M mf p m v C a q) : wdk P M mf C a y = vce p m y C.toNat := by
 have hC := ZX G.s; unfold wdk vce; rw [if_neg (fun hh => hh G.sck)]; by_cases h : (y.length : Int) = C
 .have hs := Jz2 (y := y) hC h; rw [if_neg (fun hh => hh h), if_neg (fun hh => hh (by omega))]; by_cases he : Elr p m y
  .rw [if_neg (fun hh => hh he)]; exact Jbi ⟨p, m, v, G.f⟩ hs ((QB G.f).2 (Jjb.2 he))
  .rw [if_pos he]; exact Jfi ⟨p, m, v, G.f⟩ hs fun hh => he (Jjb.1 ((QB G.f).1 hh))
 .rw [if_pos h, if_pos (by omega)]
theorem Jvj {q : Nat -> Nat} {y : List Int} (G : Sg P M mf p m v C a q) (hy : y.length = C.toNat) (he : Elr p m y) : wdk P M mf C a y = 0 := by
 rw [Jy8 G]; exact vce_ok hy he
theorem Jvk {q : Nat -> Nat} {y : List Int} {Q : List (List Int) -> Prop} (G : Sg P M mf p m v C a q) (hy : y.length = C.toNat) (he : Elr p m y) (h : Q [rsd p m v q a y a.length]) : YD P M mf C a [y] Q :=
 Jdb G.f G.s G.q (by simp) (fun t ht => by
  have : t = 0 := by simpa using ht
  subst this; exact hy) (Jjb.2 he) h
theorem w_Has {q : Nat -> Nat} {y : List Int} {Q : Bool × Int -> Prop} (G : Sg P M mf p m v C a q) (hy : y.length = C.toNat) (he : Elr p m y) (h1 : zr (rsd p m v q a y a.length) -> Q (true, 0)) (h2 : ¬ zr (rsd p m v q a y a.length) -> Q (false, 0)) : Jmn P M mf C a y Q := by
 refine Jev ?_; rw [Jvj G hy he]; have hC := ZX G.s; refine ⟨fun hh => absurd rfl hh, fun _ => Jvk G hy he (Jh2 (by simp) (fun t ht => ?_) (fun hz => h1 (hz 0 (by simp))) (fun hz => h2 fun hh => hz fun t ht => ?_))⟩
 .have : t = 0 := by simpa using ht
  subst this; show (rsd p m v q a y a.length).length <= _; rw [Zz]; omega
 .have : t = 0 := by simpa using ht
  subst this; exact hh
theorem Jvo {q : Nat -> Nat} {y : List Int} {Q : List Int × Int -> Prop} (G : Sg P M mf p m v C a q) (hy : y.length = C.toNat) (he : Elr p m y) (h : Q (rsd p m v q a y a.length, 0)) : Jd5 P M mf C a y Q := by
 refine Jev ?_; rw [Jvj G hy he]; exact ⟨fun hh => absurd rfl hh, fun _ => Jvk G hy he ⟨⟨by omega, by simp⟩, h⟩⟩
theorem Jhq {q : Nat -> Nat} {y : List Int} {Q : List Int × Int -> Prop} (G : Sg P M mf p m v C a q) (hy : y.length = C.toNat) (he : Elr p m y) (h1 : zr (rsd p m v q a y a.length) -> Q (pkr y (pvl q a.length), 0)) (h2 : ¬ zr (rsd p m v q a y a.length) -> Q ([], 11)) : YT P M mf C a y Q := by
 have hl := QA G.s; refine w_Has G hy he (fun hz => ⟨fun hh => absurd rfl hh, fun _ => ⟨fun hb => (by cases hb), fun _ => Jki G.s G.q ?_⟩⟩) (fun hz => ⟨fun hh => absurd rfl hh, fun _ => ⟨fun _ => h2 hz, fun hb => by cases hb⟩⟩); refine ⟨fun x z => ∃ t : Nat, z = t /\ t <= a.length /\ x.length = a.length /\ ∀ j, j < a.length -> vo x j = if j < t then vo y (q j) else (q j : Int), fun _ z => (a.length - z).toNat, ⟨0, rfl, Nat.zero_le _, Yd _ _, fun j hj => by rw [if_neg (by omega), Jfz hj]⟩, ?_⟩; rintro x _ ⟨t, rfl, ht, hx, hj⟩; dsimp only; rw [Yd, JX]; refine ⟨fun hlt => ?_, fun hge => ?_⟩
 .have htl : t < a.length := by omega
  have hq := G.q.lt t htl; rw [hj t htl, if_neg (by omega), JX]; refine ⟨⟨by omega, by omega⟩, ⟨by omega, by omega⟩, ⟨by omega, by omega⟩, JD (by omega) (by omega), ⟨t + 1, by push_cast; rfl, by omega, by rw [QJ, List.length_set]; exact hx, fun j hj' => ?_⟩, by omega⟩; rw [QJ, Qn]; by_cases e : t = j
  .subst e; rw [if_pos ⟨rfl, by omega⟩, if_pos (by omega)]
  .rw [if_neg (fun hh => e hh.1), hj j hj']; by_cases e2 : j < t
   .rw [if_pos e2, if_pos (by omega)]
   .rw [if_neg e2, if_neg (by omega)]
 .have : x = pkr y (pvl q a.length) := QY (by rw [hx, Jdk, Yd]) fun i hi => by
   rw [hj i (by omega), if_pos (by omega), Jcv (by rw [Yd]; omega), Jfz (by omega)]; rfl
  rw [this]; exact h1 hz
end Go.Proofs.YtngdhnijkgjhcaaGreat
set_option linter.unusedVariables false
set_option linter.unusedSimpArgs false
namespace Go.Proofs.YtngdhnijkgjhcaaGreat
variable {P M : Int} {mf : List Int} {p m v g w : Nat} {C Ca Cb : Int} {X Y a b : List (List Int)}
def rsg (s : List Int) (n : Int) : Prop := (∀ i, i < s.length -> 0 <= vo s i /\ vo s i < n) /\ ∀ i, i + 1 < s.length -> vo s i < vo s (i + 1)
theorem Jqp {s : List Int} {n : Int} (h : rsg s n) : ∀ d i, i + d + 1 < s.length -> vo s i < vo s (i + d + 1)
 | 0, i, hi => h.2 i hi
 | d + 1, i, hi => by
  have h1 := Jqp h d i (by omega); have h2 := h.2 (i + d + 1) (by omega); rw [show i + (d + 1) + 1 = i + d + 1 + 1 by omega]; omega
theorem Jzr {s : List Int} {n : Int} (h : rsg s n) : Asc n.toNat s := ⟨fun i hi => by have := h.1 i hi; omega, fun i j hij hj => by
 have := Jqp h (j - i - 1) i (by omega)
 rwa [show i + (j - i - 1) + 1 = j by omega] at this⟩
theorem Jza {s : List Int} {n : Int} {Q : Bool -> Prop} (hl : s.length <= 1000000) (h1 : rsg s n -> Q true) (h2 : ¬ rsg s n -> Q false) : Jfr s n Q := by
 refine ⟨fun last z => ∃ t : Nat, z = t /\ t <= s.length /\ (∀ i, i < t -> 0 <= vo s i /\ vo s i < n) /\ (∀ i, i + 1 < t -> vo s i < vo s (i + 1)) /\ (t = 0 -> last = -1) /\ ∀ u, t = u + 1 -> last = vo s u, fun _ z => (s.length - z).toNat, ⟨0, rfl, Nat.zero_le _, fun i hi => absurd hi (Nat.not_lt_zero i), fun i hi => absurd hi (Nat.not_lt_zero _), fun _ => rfl, fun u hu => by omega⟩, ?_⟩; rintro last _ ⟨t, rfl, ht, hr, ha, hl0, hl1⟩; dsimp only; rw [JX]; refine ⟨fun hlt => ⟨⟨by omega, by omega⟩, fun hle => h2 ?_, fun hgt => ⟨fun hn => h2 fun hh => ?_, fun hn => ⟨JD (by omega) (by omega), ⟨t + 1, by push_cast; rfl, by omega, fun i hi => ?_, fun i hi => ?_, fun h0 => by omega, fun u hu => ?_⟩, by omega⟩⟩⟩, fun hge => h1 ?_⟩
 .intro hh; rcases Nat.eq_zero_or_pos t with h0 | h0
  .have := hl0 h0; have := hh.1 t (by omega); omega
  .have e := hl1 (t - 1) (by omega); have := hh.2 (t - 1) (by omega); rw [show t - 1 + 1 = t by omega] at this; omega
 .have := hh.1 t (by omega); omega
 .by_cases e : i = t
  .subst e; refine ⟨?_, by omega⟩; rcases Nat.eq_zero_or_pos i with h0 | h0
   .have := hl0 h0; omega
   .have e := hl1 (i - 1) (by omega); have := hr (i - 1) (by omega); omega
  .exact hr i (by omega)
 .by_cases e : i + 1 = t
  .have e2 := hl1 i (by omega); rw [e]; omega
  .exact ha i (by omega)
 .rw [show u = t by omega]
 .have e : t = s.length := by omega
  subst e; exact ⟨hr, ha⟩
def Qu (s : List Int) (n : Nat) : List Int := ((List.range n).filter fun i => !(inP s i)).map fun i => ((i : Nat) : Int)
theorem Jee (s : List Int) (k : Nat) : Qu s (k + 1) = if inP s k then Qu s k else Qu s k ++ [(k : Int)] := by
 unfold Qu; rw [List.range_succ, List.filter_append, List.map_append]; cases h : inP s k <;> simp [h]
theorem Zp (s : List Int) : ∀ n, (Qu s n).length <= n
 | 0 => Nat.le_refl _
 | n + 1 => by
  rw [Jee]; have := Zp s n; split
  .omega
  .rw [List.length_append]; simp; omega
theorem Jk7 (s : List Int) : ∀ n, ∀ x ∈ Qu s n, 0 <= x /\ x < (n : Int) := fun n x hx => by
 obtain ⟨i, hi, rfl⟩ := List.mem_map.1 hx; have := List.mem_range.1 (List.mem_filter.1 hi).1; omega
theorem Jr9 {s : List Int} {n : Int} {Q : List Int -> Prop} (hl : s.length <= 1000000) (hs : rsg s n) (hn : n <= 1000) (h : Q (Qu s n.toNat)) : Jce s n Q := by
 refine ⟨fun x z => ∃ t : Nat, z = t /\ t <= n.toNat /\ x = Qu s t, fun _ z => (n - z).toNat, ⟨0, rfl, Nat.zero_le _, rfl⟩, ?_⟩; rintro _ _ ⟨t, rfl, ht, rfl⟩; dsimp only; refine ⟨fun hlt => ?_, fun hge => ?_⟩
 case refine_2 =>
  have e : t = n.toNat := by omega
  subst e; exact h
 have hol := Zp s t; refine ⟨fun y _ _ => y = Qu s (t + 1), Jkh hl (Jzr hs) (fun i hex => ⟨fun hb => (by cases hb), fun _ => ?_⟩) (fun i hex => ⟨fun _ => ⟨by omega, ?_⟩, fun hb => by cases hb⟩), ?_⟩
 .rw [Jee, if_pos (ZG.2 hex)]
 .rw [Jee, if_neg (fun hh => hex (ZG.1 hh))]
 .rintro y _ _ rfl; exact ⟨JD (by omega) (by omega), ⟨t + 1, by push_cast; rfl, by omega, rfl⟩, by omega⟩
theorem Jma (s : List Int) (hC : 0 <= C) : bad C (Qu s C.toNat) = false := by
 unfold bad; rw [List.any_eq_false]; intro x hx; have := Jk7 s C.toNat x hx; rw [if_neg (by omega), decide_eq_true_eq]; omega
theorem Jff (hs : shp C X) {s : List Int} (hl : s.length <= 256) : shp (s.length : Int) (pks X s) :=
 Jed (by omega) (by rw [Zb]; exact QA hs) fun t ht => by rw [Zb] at ht; rw [Jdg ht, Jdk]; omega
theorem Jfg (hF : FV P M mf p m v) (he : Els p m X) (s : List Int) : Els p m (pks X s) := ZR fun t ht => by
 rw [Zb] at ht; rw [Jdg ht]; exact Jc0 fun i hi => by rw [Jdk] at hi; rw [Jcv hi]; exact Ze hF (J9 he t) _
def spt (p m v : Nat) (C : Int) (a : List (List Int)) (s : List Int) : List (List Int) := mm p m v C.toNat (nul p m v (a.length : Int) (tr (Qu s C.toNat).length (pks a (Qu s C.toNat)))) a
theorem Jew {q : Nat -> Nat} {s : List Int} {Q : Int × List (List Int) × Int -> Prop} (G : Sg P M mf p m v C a q) (hl : s.length <= 1000000) (h1 : rsg s C -> Q (C, spt p m v C a s, 0)) (h2 : ¬ rsg s C -> Q (0, [], 6)) : Y4 P M mf C a s Q := by
 have hC := ZX G.s; have hol := Zp s C.toNat; have hal := QA G.s; refine ZW ?_; rw [G.sck]; refine ⟨fun hh => absurd rfl hh, fun _ => Jza hl (fun hs => ⟨fun hb => (by cases hb), fun _ => ?_⟩) (fun hs => ⟨fun _ => h2 hs, fun hb => by cases hb⟩)⟩; have hsP := Jff G.s (s := Qu s C.toNat) (by omega); have heP := Jfg G.f G.e (Qu s C.toNat); have e0 : Js2 P M mf C a (Qu s C.toNat) = ((((Qu s C.toNat).length : Nat) : Int), pks a (Qu s C.toNat), (0 : Int)) := by
  unfold Js2; rw [if_neg (fun hh => hh G.mk0), if_neg (by omega), if_neg (by rw [Jma s hC.1]; decide)]
 refine ⟨fun c x e => c = ((Qu s C.toNat).length : Int) /\ x = pks a (Qu s C.toNat) /\ e = 0, ⟨Qu s C.toNat, Jr9 hl hs (by omega) rfl, (((Qu s C.toNat).length : Nat) : Int), pks a (Qu s C.toNat), 0, Jh3 (fun c Z e he => by rw [<- he, e0]), rfl, rfl, rfl⟩, ?_⟩; rintro c x e ⟨rfl, rfl, rfl⟩; refine ⟨fun hh => absurd rfl hh, fun _ => ?_⟩; have hm : mck P M mf ((Qu s C.toNat).length : Int) (pks a (Qu s C.toNat)) = 0 := Jbi ⟨p, m, v, G.f⟩ hsP ((QB G.f).2 heP); refine Jkl (fun hh => absurd hm hh) fun p' m' v' hF' _ _ _ => ?_; obtain ⟨rfl, rfl, rfl⟩ := G.f.uniq3 hF'; have hsT := Jf6 hsP; have heT := Jf7 hsP heP; rw [Zb] at hsT ⊢; refine ⟨fun hh => absurd rfl hh, fun _ => Jfx G.f hsT heT ⟨fun hh => absurd rfl hh, fun _ => ?_⟩⟩; have GN := Yx (v := v) G.f hsT; refine w_mMul (fun e hne hor => ?_) fun p' m' v' hF' _ _ _ _ _ => ?_
 .rcases hor with h | h | h
  .exact absurd GN.mk0 h
  .exact absurd G.mk0 h
  .exact absurd rfl h
 .obtain ⟨rfl, rfl, rfl⟩ := G.f.uniq3 hF'; exact h1 hs
end Go.Proofs.YtngdhnijkgjhcaaGreat
set_option linter.unusedVariables false
set_option linter.unusedSimpArgs false
namespace Go.Proofs.YtngdhnijkgjhcaaGreat
variable {P M : Int} {mf : List Int} {p m v g w : Nat} {C Ca Cb : Int} {X Y a b : List (List Int)}
def B2 : List (List Int) := [[1, 0, 1], [0, 1, 1]]
def B1 : List (List Int) := [[1, 0, 0]]
def U3 : List (List Int) := [[1, 0, 0], [0, 1, 0], [0, 0, 1]]
theorem Jxs {q : Nat -> Nat} (h : (X.all fun r => decide (r.length = w)) = true) (h1 : ((List.range X.length).all fun i => decide (q i < w /\ (∀ t, t < X.length -> vo (row X t) (q i) = if t = i then 1 else 0) /\ (∀ c, c < q i -> vo (row X i) c = 0) /\ ∀ j, j < X.length -> i < j -> q i < q j)) = true) : Cnl w X q := by
 have g := fun i (hi : i < X.length) => of_decide_eq_true (List.all_eq_true.1 h1 i (List.mem_range.2 hi)); exact ⟨fun i hi => (g i hi).1, fun i hi t ht => (g i hi).2.1 t ht, fun i hi c hc => (g i hi).2.2.1 c hc, fun i j hij hj => (g i (by omega)).2.2.2 j hj hij⟩
theorem sg2 : Sg 2 1 [] 2 1 0 3 B2 id := ⟨fv2, ⟨by decide, by decide, by decide, by decide⟩, by unfold Els Elr; decide, Jxs (by decide) (by decide)⟩
theorem sg1 : Sg 2 1 [] 2 1 0 3 B1 id := ⟨fv2, ⟨by decide, by decide, by decide, by decide⟩, by unfold Els Elr; decide, Jxs (by decide) (by decide)⟩
theorem sgU : Sg 2 1 [] 2 1 0 3 U3 id := ⟨fv2, ⟨by decide, by decide, by decide, by decide⟩, by unfold Els Elr; decide, Jxs (by decide) (by decide)⟩
theorem evs1 : JI 2 1 0 3 (B2 ++ B1) = U3 := by decide +kernel
theorem evs2 : nul 2 1 0 3 (nul 2 1 0 3 B2 ++ nul 2 1 0 3 B1) = [] := by decide +kernel
theorem evs3 : nul 2 1 0 3 B2 = [[1, 1, 1]] := by decide +kernel
theorem evs4 : rsd 2 1 0 id B2 [1, 1, 0] 2 = [0, 0, 0] := by decide +kernel
theorem evs5 : rsd 2 1 0 id B2 [1, 0, 0] 2 = [0, 0, 1] := by decide +kernel
theorem evs6 : JI 2 1 0 3 (rdl 2 1 0 id B1 U3) = [[0, 1, 0], [0, 0, 1]] := by decide +kernel
theorem evs7 : spt 2 1 0 3 B2 [1, 2] = [[0, 1, 1]] := by decide +kernel
theorem evs8 : rsd 2 1 0 id U3 [1, 0, 0] 3 = [0, 0, 0] := by decide +kernel
theorem in_U3 : ain 2 1 0 id U3 B1 := fun t ht => by
 have : t = 0 := by simpa [B1] using ht
 subst this; show zr (rsd 2 1 0 id U3 [1, 0, 0] 3); rw [evs8]; unfold zr; decide
theorem rsg_12 : rsg [1, 2] 3 := ⟨by decide, fun i hi => by
 have : i = 0 := by simp at hi; omega
 subst this; decide⟩
theorem Jp9 {Q : Bool -> Prop} (h : Q true) : Jch Q := by
 have z1 : zr (rsd 2 1 0 id B2 [1, 1, 0] B2.length) := by show zr (rsd 2 1 0 id B2 [1, 1, 0] 2); rw [evs4]; unfold zr; decide
 have z2 : ¬ zr (rsd 2 1 0 id B2 [1, 0, 0] B2.length) := by show ¬ zr (rsd 2 1 0 id B2 [1, 0, 0] 2); rw [evs5]; unfold zr; decide
 refine w_Sum (a := B2) (b := B1) sg2 sg1 (by decide) ?_; rw [evs1]; refine w_Meet (a := B2) (b := B1) sg2 sg1 (by decide) ?_; rw [evs2]; refine w_Dual (a := B2) sg2 ?_; rw [evs3]; refine Jhq (a := B2) sg2 rfl (by unfold Elr; decide) (fun _ => ?_) (fun hh => absurd z1 hh); refine Jvo (a := B2) sg2 rfl (by unfold Elr; decide) ?_; rw [show rsd 2 1 0 id B2 [1, 0, 0] B2.length = [0, 0, 1] from evs5]; refine Jm2 (a := B1) (b := U3) sg1 sgU (fun _ => ?_) (fun hh => absurd in_U3 hh); rw [evs6]; refine Jew (a := B2) (s := [1, 2]) sg2 (by decide) (fun _ => ?_) (fun hh => absurd rsg_12 hh); rw [evs7]; refine w_Has (a := B2) sg2 rfl (by unfold Elr; decide) (fun hh => absurd hh z2) (fun _ => ?_); refine Jfy (a := B1) (b := U3) sg1 sgU (fun _ => ?_) (fun hh => absurd in_U3 hh); refine ⟨fun b => b = true, ⟨fun _ => ⟨fun _ => ⟨fun _ => ⟨fun _ => ⟨fun _ => ⟨fun _ => ⟨fun _ => ⟨fun _ => rfl, fun h => absurd rfl h⟩, fun h => absurd rfl h⟩, fun h => absurd rfl h⟩, fun h => absurd rfl h⟩, fun h => absurd rfl h⟩, fun h => absurd rfl h⟩, fun h => absurd rfl h⟩, fun h => absurd rfl h⟩, fun b hb => ⟨hb, _, Jy9 (by decide) rfl, Y9 (by decide) (by decide) (fun _ => rfl) (fun hh => absurd (by decide) hh), rfl, rfl, Y9 (by decide) (by decide) (fun _ => rfl) (fun hh => absurd rfl hh), Za (by decide) (fun _ => rfl) (fun hh => absurd (by decide) hh), Za (by decide) (fun _ => rfl) (fun hh => absurd rfl hh), Y9 (by decide) (by decide) (fun _ => rfl) (fun hh => absurd rfl hh), Y9 (by decide) (by decide) (fun _ => rfl) (fun hh => absurd rfl hh), rfl, rfl, _, ZW rfl, ?_⟩⟩; rw [show sck 2 1 [] 3 U3 = 0 from sgU.sck]; exact h
end Go.Proofs.YtngdhnijkgjhcaaGreat
set_option linter.unusedVariables false
set_option linter.unusedSimpArgs false
namespace Go.Proofs.YtngdhnijkgjhcaaGreat
variable {P M : Int} {mf : List Int} {p m v g w : Nat} {C Ca Cb : Int} {X Y a b : List (List Int)}
theorem Jb4 (hF : FV P M mf p m v) {u x : Nat -> Nat} (hu : ∀ c, u c < p ^ m) (hx : ∀ c, x c < p ^ m) : dt p m v w u x = dt p m v w x u := YX w fun c _ => hF.ring.Mc (hu c) (hx c)
theorem Jrj {n : Nat} (R : List (List Int)) (pv : List Int) : ∀ k c, c < k -> ¬ inP pv c = true -> ∃ j, j < (bas p m n R pv k).length /\ row (bas p m n R pv k) j = YJ p m n R pv c pv.length
 | 0, c, h, _ => absurd h (Nat.not_lt_zero c)
 | k + 1, c, h, hc => by
  rw [Zu]; by_cases e : c = k
  .subst e; rw [if_neg hc]; refine ⟨(bas p m n R pv c).length, by simp, ?_⟩; rw [Ji6, if_neg (by omega), if_pos rfl]
  .obtain ⟨j, h1, h2⟩ := Jrj (n := n) R pv k c (by omega) hc; split
   .exact ⟨j, h1, h2⟩
   .exact ⟨j, by rw [List.length_append]; simp; omega, by rw [Ji6, if_pos h1]; exact h2⟩
theorem Jti (hs : shp C Y) : ∃ fc : Nat -> Nat, (∀ j, j < (QX p m v C Y).length -> fc j < C.toNat) /\ (∀ j, j < (QX p m v C Y).length -> ∀ i, i < (QX p m v C Y).length -> vo (row (QX p m v C Y) i) (fc j) = if i = j then 1 else 0) /\ ∀ c, c < C.toNat -> (∀ i, i < (JA p m v C Y).length -> (vo (JA p m v C Y) i).toNat ≠ c) -> ∃ j, j < (QX p m v C Y).length /\ fc j = c := by
  obtain ⟨fc, h1, h2⟩ := Z5 (p := p) (m := m) (n := C.toNat) (JI p m v C Y) (JA p m v C Y) C.toNat
  have hnp : ∀ c, ¬ inP (JA p m v C Y) c = true -> ∀ i, i < (JA p m v C Y).length -> (vo (JA p m v C Y) i).toNat ≠ c := fun c hc i hi e => by
    have h3 := Jen hc i hi
    have h4 := Zt (p := p) (m := m) (v := v) hs hi
    omega
  refine ⟨fc, fun j hj => (h1 j hj).1, fun j hj i hi => ?_, fun c hc hfree => ?_⟩
  . have e := (h1 i hi).2.2
    show vo (row (bas p m C.toNat (JI p m v C Y) (JA p m v C Y) C.toNat) i) (fc j) = _
    rw [e]
    by_cases hij : i = j
    . subst hij; rw [if_pos rfl]; exact Jh9 (h1 i hi).1 _ (hnp _ (h1 i hi).2.1)
    . rw [if_neg hij]
      refine Jbd (fun e2 => ?_) _ (hnp _ (h1 j hj).2.1)
      rcases Nat.lt_or_gt_of_ne hij with h | h
      . have := h2 i j h hj; omega
      . have := h2 j i h hi; omega
  . have hfr : ¬ inP (JA p m v C Y) c = true := fun hh => by
      obtain ⟨i, hi, e⟩ := ZG.1 hh
      exact hfree i hi (by rw [e]; simp)
    obtain ⟨j, hj, e⟩ := Jrj (p := p) (m := m) (n := C.toNat) (JI p m v C Y) (JA p m v C Y) C.toNat c hc hfr
    refine ⟨j, hj, ?_⟩
    have e2 := (h1 j hj).2.2
    rw [e] at e2
    have t1 : vo (YJ p m C.toNat (JI p m v C Y) (JA p m v C Y) c (JA p m v C Y).length) c = 1 := Jh9 hc _ (hnp c hfr)
    rcases Nat.decEq (fc j) c with hne | heq
    . rw [e2, Jbd (fun hh => hne hh.symm) _ (hnp c hfr)] at t1; exact absurd t1 (by decide)
    . exact heq
theorem Jbf (hF : FV P M mf p m v) : inE (p ^ m) 1 = 1 := Ql (x := 1) (by have := hF.ring.q2; omega)
theorem Jby (hF : FV P M mf p m v) (hs : shp C Y) (he : Els p m Y) {u : List Int} (hu : u.length = C.toNat) (hue : Elr p m u) (h : ∀ t, t < Y.length -> dt p m v C.toNat (en p m u) (en p m (row Y t)) = 0) : Sp p m v C.toNat (QX p m v C Y) u := by
  have R := hF.ring
  have hq : 1 < p ^ m := by have := R.q2; omega
  have hp : 0 < p := by have := hF.p2; omega
  obtain ⟨fc, f1, f2, f3⟩ := Jti (p := p) (m := m) (v := v) hs
  have hB := QM (p := p) (m := m) (v := v) hs
  intro f L hf
  have hcl := Qm (p := p) (m := m) (v := v) hs
  rw [<- Jaj hF L hu hf (QX p m v C Y).length (Nat.le_refl _) (Q := fc)]
  have hwe := ZA (v := v) hp fc hue (X := QX p m v C Y) (QX p m v C Y).length
  have hwl : (rsd p m v fc (QX p m v C Y) u (QX p m v C Y).length).length = C.toNat := by rw [Zz, hu]
  have hz : ∀ j, j < (QX p m v C Y).length -> vo (rsd p m v fc (QX p m v C Y) u (QX p m v C Y).length) (fc j) = 0 := fun j hj => Jk1 hF f1 f2 hu hue hj
  -- orthogonal to the rows
  have ho : ∀ t, t < Y.length -> dt p m v C.toNat (en p m (rsd p m v fc (QX p m v C Y) u (QX p m v C Y).length)) (en p m (row Y t)) = 0 := fun t ht => by
    rw [Jb4 hF (JN hF _) (JN hF _)]
    have Lt := ZS (w := C.toNat) hF (JN hF (row Y t))
    have hA : Ann p m (dt p m v C.toNat (en p m (row Y t))) (QX p m v C Y) := (Qy hF hB (QN hF) Lt).1 (Z6 hF hs he ht)
    rw [Jaj hF Lt hu hA _ (Nat.le_refl _), Jb4 hF (JN hF _) (JN hF _)]
    exact h t ht
  generalize rsd p m v fc (QX p m v C Y) u (QX p m v C Y).length = W at hwe hwl hz ho ⊢
  have hA2 : Ann p m (dt p m v C.toNat (en p m W)) (JI p m v C Y) := (Qy hF hs he (ZS hF (JN hF W))).2 ho
  have hfree : ∀ c, c < C.toNat -> (∀ i, i < (JA p m v C Y).length -> (vo (JA p m v C Y) i).toNat ≠ c) -> en p m W c = 0 := fun c hc hfr => by
    obtain ⟨j, hj, e⟩ := f3 c hc hfr
    have := hz j hj
    rw [e] at this
    unfold en; rw [this, Ja8 hF]
  refine Jgz hF L fun c hc => ?_
  by_cases hpv : ∃ i, i < (JA p m v C Y).length /\ (vo (JA p m v C Y) i).toNat = c
  . obtain ⟨i, hi, rfl⟩ := hpv
    have h1 := hA2 i (by omega)
    have h2 : dt p m v C.toNat (en p m W) (en p m (row (JI p m v C Y) i)) = Jt p m (dv p v) (en p m W (vo (JA p m v C Y) i).toNat) (en p m (row (JI p m v C Y) i) (vo (JA p m v C Y) i).toNat) := by
      refine Y6 hF (f := fun c => Jt p m (dv p v) (en p m W c) (en p m (row (JI p m v C Y) i) c)) (R.Ml _ _) C.toNat hc fun c' hc' hne => ?_
      show Jt p m (dv p v) (en p m W c') (en p m (row (JI p m v C Y) i) c') = 0
      by_cases hpv2 : ∃ i', i' < (JA p m v C Y).length /\ (vo (JA p m v C Y) i').toNat = c'
      . obtain ⟨i', hi', rfl⟩ := hpv2
        have hii : i ≠ i' := fun e => hne (by rw [e])
        have : en p m (row (JI p m v C Y) i) (vo (JA p m v C Y) i').toNat = 0 := by
          unfold en; rw [Q0 hF hs he hi' hi, if_neg hii, Ja8 hF]
        rw [this, R.M0 (JN hF _ _)]
      . rw [hfree c' hc' fun i' hi' e => hpv2 ⟨i', hi', e⟩, R.Mc (by omega) (JN hF _ _), R.M0 (JN hF _ _)]
    rw [h2] at h1
    have h3 : en p m (row (JI p m v C Y) i) (vo (JA p m v C Y) i).toNat = 1 := by
      unfold en; rw [Q0 hF hs he hi hi, if_pos rfl, Jbf hF]
    rw [h3, R.M1 (JN hF _ _)] at h1
    exact h1
  . exact hfree c hc fun i hi e => hpv ⟨i, hi, e⟩
theorem Qav {n : Nat} {a b : List Int} (ha : Asc n a) (hb : Asc n b) (hl : a.length = b.length) (h : ∀ t, t < a.length -> ∃ j, j < b.length /\ vo b j = vo a t) : a = b := by
  have hmono : ∀ i j, i < b.length -> j < b.length -> vo b i < vo b j -> i < j := fun i j hi hj hv => by
    rcases Nat.lt_trichotomy i j with h1 | h1 | h1
    . exact h1
    . subst h1; omega
    . have := hb.2 j i h1 hi; omega
  have lo : ∀ t j, t < a.length -> j < b.length -> vo b j = vo a t -> t <= j := by
    intro t
    induction t with
    | zero => intro j _ _ _; exact Nat.zero_le _
    | succ t ih =>
      intro j ht hj e
      obtain ⟨j', hj', e'⟩ := h t (by omega)
      have h1 := ih j' (by omega) hj' e'
      have h2 := ha.2 t (t + 1) (by omega) ht
      have h3 := hmono j' j hj' hj (by omega)
      omega
  have hi : ∀ d t j, t + d + 1 = a.length -> j < b.length -> vo b j = vo a t -> j <= t := by
    intro d
    induction d with
    | zero => intro t j ht hj _; omega
    | succ d ih =>
      intro t j ht hj e
      obtain ⟨j', hj', e'⟩ := h (t + 1) (by omega)
      have h1 := ih (t + 1) j' (by omega) hj' e'
      have h2 := ha.2 t (t + 1) (by omega) (by omega)
      have h3 := hmono j j' hj hj' (by omega)
      omega
  refine QY hl fun t ht => ?_
  obtain ⟨j, hj, e⟩ := h t ht
  have h1 := lo t j ht hj e
  have h2 := hi (a.length - t - 1) t j (by omega) hj e
  rw [<- e, show j = t by omega]
theorem Qas (hF : FV P M mf p m v) (hX : shp C X) (eX : Els p m X) (hY : shp C Y) (eY : Els p m Y) (h : ∀ f, Lin p m v C.toNat f -> Ann p m f Y -> Ann p m f X) (hr : (JA p m v C X).length = (JA p m v C Y).length) : JI p m v C X = JI p m v C Y := by
  have R := hF.ring
  have hP : JA p m v C X = JA p m v C Y := Qav (Qp C X) (Qp C Y) hr (Jnh hF hX eX hY eY h)
  have lX := Qm (p := p) (m := m) (v := v) hX
  have lY := Qm (p := p) (m := m) (v := v) hY
  refine Jq4 (w := C.toNat) (by omega) (Q1 hF eX) (Q1 hF eY) (fun t ht => ⟨Jdw hX ht, Jdw hY (by omega)⟩) fun t c ht hc => ?_
  rw [Jb5 hF hY eY (a := en p m (row (JI p m v C X) t)) (JN hF _) (fun f L hf => (Qy hF hX eX L).2 (h f L ((Qy hF hY eY L).1 hf)) t ht) hc]
  refine (Y6 hF (f := fun i => Jt p m (dv p v) (en p m (row (JI p m v C X) t) (vo (JA p m v C Y) i).toNat) (en p m (row (JI p m v C Y) i) c)) (j := t) (R.Ml _ _) _ (by omega) fun i hi hne => ?_).trans ?_
  . show Jt p m (dv p v) (inE (p ^ m) (vo (row (JI p m v C X) t) (vo (JA p m v C Y) i).toNat)) _ = 0
    rw [<- hP, Q0 hF hX eX (by omega) (by omega), if_neg (fun e => hne e.symm), Ja8 hF, R.Mc (by have := R.q2; omega) (JN hF _ _), R.M0 (JN hF _ _)]
  . show Jt p m (dv p v) (inE (p ^ m) (vo (row (JI p m v C X) t) (vo (JA p m v C Y) t).toNat)) _ = _
    rw [<- hP, Q0 hF hX eX (by omega) (by omega), if_pos rfl, Jbf hF, R.Mc (by have := R.q2; omega) (JN hF _ _), R.M1 (JN hF _ _)]
theorem Jjh (hF : FV P M mf p m v) (hs : shp C Y) (he : Els p m Y) : (nul p m v C Y).length + (JA p m v C Y).length = C.toNat := Jx4 hF hs he
theorem Jl8 (hF : FV P M mf p m v) (hs : shp C Y) (he : Els p m Y) : (JA p m v C (JI p m v C Y)).length = (JI p m v C Y).length := by
 rw [(Jjx hF hs he).2, Qm hs]
theorem dd (hF : FV P M mf p m v) (hs : shp C Y) (he : Els p m Y) : nul p m v C (nul p m v C Y) = JI p m v C Y := by
  have G1 := Yx (v := v) hF hs
  have hB1 := QM (p := p) (m := m) (v := v) hs
  have hB2 := QM (p := p) (m := m) (v := v) G1.s
  have e1 := Jjh hF hs he
  have e2 := Jjh hF G1.s G1.e
  have e3 : (JA p m v C (nul p m v C Y)).length = (nul p m v C Y).length := Jl8 hF hB1 (QN hF)
  have e4 : (JA p m v C (nul p m v C (nul p m v C Y))).length = (nul p m v C (nul p m v C Y)).length := Jl8 hF hB2 (QN hF)
  have G2 := Yx (v := v) hF G1.s
  have key := Qas hF hs he G2.s G2.e (fun f L hf => ?_) (by omega)
  . rw [key]; exact (Jjx hF hB2 (QN hF)).1.symm
  . have hf2 : Ann p m f (QX p m v C (nul p m v C Y)) := (Qy hF hB2 (QN hF) L).1 hf
    intro t ht
    exact Jby hF G1.s G1.e (J1 hs ht) (J9 he t) (fun s hs' => by
      have := Z6 hF hs he ht s hs'
      exact this) f L hf2
end Go.Proofs.YtngdhnijkgjhcaaGreat
set_option linter.unusedVariables false
set_option linter.unusedSimpArgs false
namespace Go.Proofs.YtngdhnijkgjhcaaGreat
variable {P M : Int} {mf : List Int} {p m v g w : Nat} {C Ca Cb : Int} {X Y a b : List (List Int)}
end Go.Proofs.YtngdhnijkgjhcaaGreat
set_option linter.unusedVariables false
set_option linter.unusedSimpArgs false
namespace Go.Proofs.YtngdhnijkgjhcaaGreat
variable {P M : Int} {mf : List Int} {p m v g w : Nat} {C Ca Cb : Int} {X Y a b : List (List Int)}
theorem Jiw {Q : Int × List (List Int) × Bool -> Prop} (hb : mck P M mf C X ≠ 0 -> Q (0, [], false)) (h : ∀ p m v, FV P M mf p m v -> shp C X -> Els p m X -> Q (C, JI p m v C X, true)) : Zg P M mf C X Q := by
 refine Jr8 ⟨fun h0 => hb h0, fun h0 => Jbb (fun hh => absurd hh h0) fun p m v hF hs he _ => h p m v hF hs he⟩
theorem can_sg (hF : FV P M mf p m v) (hs : shp C X) (he : Els p m X) : Sg P M mf p m v C (JI p m v C X) fun i => (vo (JA p m v C X) i).toNat := ⟨hF, YB hs, Q1 hF he, Jjw hF hs he⟩
theorem Sg.rows {q : Nat -> Nat} (G : Sg P M mf p m v C X q) : X.length <= 1000000 /\ ∀ r ∈ X, r.length <= 1000000 := ⟨by have := QA G.s; omega, Jky G.s⟩
end Go.Proofs.YtngdhnijkgjhcaaGreat
set_option linter.unusedVariables false
set_option linter.unusedSimpArgs false
namespace Go.Proofs.YtngdhnijkgjhcaaGreat
variable {P M : Int} {mf : List Int} {p m v g w : Nat} {C Ca Cb : Int} {X Y a b : List (List Int)}
theorem sp_zr {q : Nat -> Nat} {u : List Int} (G : Sg P M mf p m v C X q) (hu : u.length = C.toNat) (he : Elr p m u) : zr (rsd p m v q X u X.length) ↔ Sp p m v C.toNat X u := by
 rw [sp_rsd G.f G.s G.e G.q hu he]; unfold zr; rw [Zz, hu]
theorem cmb_sp {q : Nat -> Nat} {x : List Int} (G : Sg P M mf p m v C X q) : Sp p m v C.toNat X (cmb p m v x C.toNat X X.length) := fun f L hf => by
 have R := G.f.ring; rw [Jb1 G.f L]; refine QT G.f _ fun i hi => ?_; rw [hf i hi, R.M0 (J5 (by have := R.q2; omega) _)]
end Go.Proofs.YtngdhnijkgjhcaaGreat
set_option linter.unusedSimpArgs false
set_option linter.unusedVariables false
set_option maxRecDepth 4000
set_option maxHeartbeats 4000000
namespace Go.Proofs.YtngdhnijkgjhcaaGreat
open Go.RowKit
end Go.Proofs.YtngdhnijkgjhcaaGreat
set_option linter.unusedVariables false
set_option linter.unusedSimpArgs false
namespace Go.Proofs.YtngdhnijkgjhcaaGreat
variable {P M : Int} {mf : List Int} {p m v g w : Nat} {C Ca Cb : Int} {X Y a b : List (List Int)}
theorem Jk2 (X : List (List Int)) (i t : Nat) : row (X.drop i) t = row X (t + i) := by
 unfold row; rw [List.getD_eq_getElem?_getD, List.getElem?_drop, List.getD_eq_getElem?_getD, Nat.add_comm]
theorem Cnl.drop {q : Nat -> Nat} (h : Cnl w X q) (i : Nat) : Cnl w (X.drop i) fun j => q (j + i) := by
 refine ⟨fun j hj => ?_, fun j hj t ht => ?_, fun j hj c hc => ?_, fun j k hjk hk => ?_⟩ <;> rw [List.length_drop] at *
 .exact h.lt _ (by omega)
 .rw [Jk2, h.one (j + i) (by omega) (t + i) (by omega)]; by_cases e : t = j
  .rw [if_pos e, if_pos (by omega)]
  .rw [if_neg e, if_neg (by omega)]
 .rw [Jk2]; exact h.lf (j + i) (by omega) c hc
 .exact h.asc (j + i) (k + i) (by omega) (by omega)
theorem ain_of {q r : Nat -> Nat} (G : Sg P M mf p m v C a q) (H : Sg P M mf p m v C b r) (h : ∀ f, Lin p m v C.toNat f -> Ann p m f b -> Ann p m f a) : ain p m v r b a := fun t ht =>
 (sp_zr H (J1 G.s ht) (J9 G.e t)).2 fun f L hf => h f L hf t ht
end Go.Proofs.YtngdhnijkgjhcaaGreat
set_option linter.unusedSimpArgs false
set_option linter.unusedVariables false
set_option maxRecDepth 4000
set_option maxHeartbeats 4000000
namespace Go.Proofs.YtngdhnijkgjhcaaGreat
open Go.RowKit
end Go.Proofs.YtngdhnijkgjhcaaGreat
set_option linter.unusedVariables false
set_option linter.unusedSimpArgs false
namespace Go.Proofs.YtngdhnijkgjhcaaGreat
variable {P M : Int} {mf : List Int} {p m v g w : Nat} {C Ca Cb : Int} {X Y a b : List (List Int)}
theorem Jwn {i t : Nat} (h : t < i) : row (X.take i) t = row X t := Zo h
theorem Cnl.take {q : Nat -> Nat} (h : Cnl w X q) (i : Nat) : Cnl w (X.take i) q := by
 refine ⟨fun j hj => ?_, fun j hj t ht => ?_, fun j hj c hc => ?_, fun j k hjk hk => ?_⟩ <;> rw [List.length_take] at *
 .exact h.lt _ (by omega)
 .rw [Jwn (by omega)]; exact h.one j (by omega) t (by omega)
 .rw [Jwn (by omega)]; exact h.lf j (by omega) c hc
 .exact h.asc j k hjk (by omega)
theorem Jzo (hF : FV P M mf p m v) (hs : shp C X) (he : Els p m X) {u : List Int} (h : Sp p m v C.toNat X u) {s : Nat} (hs' : s < (nul p m v C X).length) : dt p m v C.toNat (en p m u) (en p m (row (nul p m v C X) s)) = 0 := by
  rw [Jb4 hF (JN hF _) (JN hF _)]
  refine h _ (ZS hF (JN hF _)) fun t ht => ?_
  rw [Jb4 hF (JN hF _) (JN hF _)]
  exact Z6 hF hs he ht s hs'
end Go.Proofs.YtngdhnijkgjhcaaGreat
set_option linter.unusedVariables false
set_option linter.unusedSimpArgs false
namespace Go.Proofs.YtngdhnijkgjhcaaGreat
variable {P M : Int} {mf : List Int} {p m v g w : Nat} {C Ca Cb : Int} {X Y a b : List (List Int)}
def unt (n : Nat) (o : List Int) : List (List Int) := o.map fun c => (List.replicate n (0 : Int)).set c.toNat 1
theorem YN (n : Nat) (o : List Int) : (unt n o).length = o.length := by simp [unt]
theorem Ji3 {n : Nat} {o : List Int} {t : Nat} (h : t < o.length) : row (unt n o) t = (List.replicate n (0 : Int)).set (vo o t).toNat 1 := by
 unfold unt row vo; rw [List.getD_eq_getElem?_getD, List.getElem?_map, List.getD_eq_getElem?_getD, List.getElem?_eq_getElem h]; rfl
theorem Jfd {o : List Int} (hC : 0 <= C /\ C <= 256) (ho : o.length <= 256) : shp C (unt C.toNat o) := Jed hC (by rw [YN]; exact ho) fun t ht => by
 rw [YN] at ht; rw [Ji3 ht]; simp
theorem Jqh (hF : FV P M mf p m v) (n : Nat) (o : List Int) : Els p m (unt n o) := ZR fun t ht => by
 rw [YN] at ht; rw [Ji3 ht]; refine Jc0 fun i hi => ?_; have := hF.ring.q2; have h1 : (1 : Int) < ((p ^ m : Nat) : Int) := by exact_mod_cast (by omega : 1 < p ^ m)
 rw [Qn]; split
 .exact ⟨by decide, h1⟩
 .rw [Jbc]; exact ⟨by decide, by omega⟩
theorem Jn4 (hF : FV P M mf p m v) {n : Nat} {o : List Int} {t : Nat} {u : List Int} (ht : t < o.length) (ho : 0 <= vo o t /\ (vo o t).toNat < n) : dt p m v n (en p m u) (en p m (row (unt n o) t)) = en p m u (vo o t).toNat := by
 have R := hF.ring; rw [Ji3 ht]; refine (Y6 hF (f := fun i => Jt p m (dv p v) (en p m u i) (en p m ((List.replicate n (0 : Int)).set (vo o t).toNat 1) i)) (j := (vo o t).toNat) (R.Ml _ _) n ho.2 fun i hi hne => ?_).trans ?_
 .show Jt p m (dv p v) _ (inE (p ^ m) (vo ((List.replicate n (0 : Int)).set (vo o t).toNat 1) i)) = 0; rw [Qn, if_neg (fun hh => hne hh.1.symm), Jbc, Ja8 hF, R.M0 (JN hF _ _)]
 .show Jt p m (dv p v) _ (inE (p ^ m) (vo ((List.replicate n (0 : Int)).set (vo o t).toNat 1) (vo o t).toNat)) = _; rw [Qn, if_pos ⟨rfl, by simp; exact ho.2⟩, Jbf hF, R.M1 (JN hF _ _)]
theorem Jja (s : List Int) (n : Nat) {k : Nat} (hk : k < (Qu s n).length) : 0 <= vo (Qu s n) k /\ (vo (Qu s n) k).toNat < n := by
 have := Jk7 s n _ (ZQ hk); omega
theorem Jm9 {q : Nat -> Nat} (G : Sg P M mf p m v C a q) (hC : C <= 100) (s : List Int) : spt p m v C a s = nul p m v C (nul p m v C a ++ unt C.toNat (Qu s C.toNat)) := by
  have hF := G.f
  have R := hF.ring
  have hq0 : 0 < p ^ m := by have := R.q2; omega
  have cc := ZX G.s
  have hol := Zp s C.toNat
  have hal := QA G.s
  have N := Yx (v := v) hF G.s
  have nl := N.q.len
  have gl := G.q.len
  have hoo := fun k hk => Jja s C.toNat (k := k) hk
  unfold spt
  generalize Qu s C.toNat = o at hol hoo ⊢
  have hsP := Jff G.s (s := o) (by omega)
  have heP := Jfg hF G.e o
  have hsT : shp (a.length : Int) (tr o.length (pks a o)) := by
    have := Jf6 hsP
    rw [Zb] at this
    exact this
  have heT : Els p m (tr o.length (pks a o)) := Jf7 hsP heP
  have D := Yx (v := v) hF hsT
  have hB := QM (p := p) (m := m) (v := v) hsT
  have hD : nul p m v (a.length : Int) (tr o.length (pks a o)) = JI p m v (a.length : Int) (QX p m v (a.length : Int) (tr o.length (pks a o))) := rfl
  have hDorth : ∀ i, i < (nul p m v (a.length : Int) (tr o.length (pks a o))).length -> ∀ k, k < o.length -> dt p m v a.length (en p m (row (tr o.length (pks a o)) k)) (en p m (row (nul p m v (a.length : Int) (tr o.length (pks a o))) i)) = 0 := fun i hi k hk => by
    have := Z6 hF hsT heT (t := k) (by rw [Zn]; exact hk) i hi
    exact this
  have hnull : ∀ x : List Int, x.length = a.length -> Elr p m x -> (∀ k, k < o.length -> dt p m v a.length (en p m x) (en p m (row (tr o.length (pks a o)) k)) = 0) -> Sp p m v a.length (nul p m v (a.length : Int) (tr o.length (pks a o))) x := fun x hx he h f L hf => by
    have key := Jby hF hsT heT (u := x) hx he (fun t ht => h t (by rw [Zn] at ht; exact ht))
    exact key f L ((Qy hF hB (QN hF) L).1 hf)
  have dl := D.q.len
  have dle : (nul p m v (a.length : Int) (tr o.length (pks a o))).length <= 256 := by have := QA D.s; omega
  generalize nul p m v (a.length : Int) (tr o.length (pks a o)) = E at D hDorth hnull dl dle ⊢
  generalize (fun i => (vo (JA p m v (a.length : Int) (QX p m v (a.length : Int) (tr o.length (pks a o)))) i).toNat) = qe at D
  have zs : shp C (mm p m v C.toNat E a) := mm_shp dle G.s
  have ze : Els p m (mm p m v C.toNat E a) := mm_els hF E a
  have zl := Jgv (p := p) (m := m) (v := v) (w := C.toNat) E a
  -- its entries
  have zen : ∀ t c, t < E.length -> c < C.toNat -> en p m (row (mm p m v C.toNat E a) t) c = fs p m (fun j => Jt p m (dv p v) (en p m (row E t) j) (en p m (row a j) c)) a.length := fun t c ht hc => mm_en hF ht hc
  have zpv : ∀ t l, t < E.length -> l < a.length -> en p m (row (mm p m v C.toNat E a) t) (q l) = en p m (row E t) l := fun t l ht hl => by
    rw [zen t _ ht (G.q.lt l hl)]
    refine (Y6 hF (f := fun j => Jt p m (dv p v) (en p m (row E t) j) (en p m (row a j) (q l))) (j := l) (R.Ml _ _) a.length hl fun i hi hne => ?_).trans ?_
    . show Jt p m (dv p v) _ (inE (p ^ m) (vo (row a i) (q l))) = 0
      rw [G.q.one l hl i hi, if_neg hne, Ja8 hF, R.M0 (JN hF _ _)]
    . show Jt p m (dv p v) _ (inE (p ^ m) (vo (row a l) (q l))) = _
      rw [G.q.one l hl l hl, if_pos rfl, Jbf hF, R.M1 (JN hF _ _)]
  have hql : ∀ i, i < E.length -> qe i < a.length := fun i hi => by have := D.q.lt i hi; omega
  have hone : inE (p ^ m) 1 = 1 := Jbf hF
  have zc : Cnl C.toNat (mm p m v C.toNat E a) fun i => q (qe i) := by
    refine ⟨fun i hi => ?_, fun i hi t ht => ?_, fun i hi c hc => ?_, fun i j hij hj => ?_⟩
    . rw [zl] at hi; exact G.q.lt _ (hql i hi)
    . rw [zl] at hi ht
      have h1 := zpv t (qe i) ht (hql i hi)
      have h2 := Jav (Ze hF (J9 ze t) (q (qe i)))
      unfold en at h1
      rw [h1, D.q.one i hi t ht] at h2
      by_cases e : t = i
      . rw [if_pos e] at h2 ⊢
        rw [<- h2, hone]; rfl
      . rw [if_neg e] at h2 ⊢
        rw [<- h2, Ja8 hF]; rfl
    . rw [zl] at hi
      have hcC : c < C.toNat := by have := G.q.lt _ (hql i hi); omega
      refine (Jil hF (Ze hF (J9 ze i) c)).1 ?_
      rw [zen i c hi hcC]
      refine QT hF _ fun j hj => ?_
      rcases Nat.lt_or_ge j (qe i) with h | h
      . have : en p m (row E i) j = 0 := by unfold en; rw [D.q.lf i hi j h, Ja8 hF]
        rw [this, R.Mc hq0 (JN hF _ _), R.M0 (JN hF _ _)]
      . have hlt : c < q j := by
          rcases Nat.lt_or_ge (qe i) j with h2 | h2
          . have := G.q.asc (qe i) j h2 hj; omega
          . rw [show j = qe i by omega]; exact hc
        have : en p m (row a j) c = 0 := by unfold en; rw [G.q.lf j hj c hlt, Ja8 hF]
        rw [this, R.M0 (JN hF _ _)]
    . rw [zl] at hj
      exact G.q.asc _ _ (D.q.asc i j hij hj) (hql j hj)
  have Z : Sg P M mf p m v C (mm p m v C.toNat E a) _ := ⟨hF, zs, ze, zc⟩
  have us := Jfd (o := o) cc (by omega)
  have ue := Jqh hF C.toNat o
  have sY := ZL N.s us (by rw [YN]; omega)
  have eY := Jb7 N.e ue
  have W := Yx (v := v) hF sY
  have hBY := QM (p := p) (m := m) (v := v) sY
  have key : ∀ f, Lin p m v C.toNat f -> (Ann p m f (mm p m v C.toNat E a) ↔ Ann p m f (nul p m v C (nul p m v C a ++ unt C.toNat o))) := fun f L => ⟨fun hf t ht => ?_, fun hf t ht => ?_⟩
  . have h1 := Jl7 hF zs ze W.s W.e key
    rw [(Jb6 hF zs ze zc).1, (Jb6 hF W.s W.e W.q).1] at h1
    exact h1.2
  . -- a word of the space that is 0 outside s
    have hwl := J1 W.s ht
    have hwe := J9 W.e t
    have horth : ∀ k, k < (nul p m v C a ++ unt C.toNat o).length -> dt p m v C.toNat (en p m (row (nul p m v C (nul p m v C a ++ unt C.toNat o)) t)) (en p m (row (nul p m v C a ++ unt C.toNat o) k)) = 0 := fun k hk => by
      rw [Jb4 hF (JN hF _) (JN hF _)]
      exact Z6 hF sY eY hk t ht
    generalize row (nul p m v C (nul p m v C a ++ unt C.toNat o)) t = u at hwl hwe horth ⊢
    have hspa : Sp p m v C.toNat a u := fun f L hf => by
      have k2 := Jby hF N.s N.e hwl hwe fun s' hs' => by
        have := horth s' (by rw [List.length_append]; omega)
        rwa [ZD, if_pos hs'] at this
      have e3 : nul p m v C (nul p m v C a) = a := (dd hF G.s G.e).trans (Jb6 hF G.s G.e G.q).1
      have hf2 : Ann p m f (nul p m v C (nul p m v C a)) := by rw [e3]; exact hf
      exact k2 f L ((Qy hF (QM (p := p) (m := m) (v := v) N.s) (QN hF) L).1 hf2)
    have hzo : ∀ k, k < o.length -> en p m u (vo o k).toNat = 0 := fun k hk => by
      have := horth ((nul p m v C a).length + k) (by rw [List.length_append, YN]; omega)
      rw [ZD, if_neg (by omega), Nat.add_sub_cancel_left, Jn4 hF hk (hoo k hk)] at this
      exact this
    have hcomb : ∀ c, c < C.toNat -> en p m u c = fs p m (fun i => Jt p m (dv p v) (en p m u (q i)) (en p m (row a i) c)) a.length := fun c hc => by
      obtain ⟨f1, f2⟩ := Jb6 hF G.s G.e G.q
      have := Jb5 hF G.s G.e (a := en p m u) (JN hF u) (fun f L h => hspa f L (by rwa [f1] at h)) hc
      rw [f1, f2] at this
      rw [this]
      simp only [List.length_map, List.length_range]
      refine YX _ fun i hi => ?_
      rw [Jah hi]; rfl
    -- its coefficients
    have xl : (pkr u (pvl q a.length)).length = a.length := by rw [Jdk, Yd]
    have xe : Elr p m (pkr u (pvl q a.length)) := Jc0 fun i hi => by rw [xl] at hi; rw [Jcv (by rw [Yd]; exact hi)]; exact Ze hF hwe _
    have xen : ∀ i, i < a.length -> en p m (pkr u (pvl q a.length)) i = en p m u (q i) := fun i hi => by
      unfold en
      rw [Jcv (by rw [Yd]; exact hi), Jfz hi]; rfl
    have xo : ∀ k, k < o.length -> dt p m v a.length (en p m (pkr u (pvl q a.length))) (en p m (row (tr o.length (pks a o)) k)) = 0 := fun k hk => by
      rw [<- hzo k hk, hcomb _ (hoo k hk).2]
      refine YX _ fun i hi => ?_
      have e5 : en p m (row (tr o.length (pks a o)) k) i = en p m (row a i) (vo o k).toNat := by
        rw [Jqi hk (by rw [Zb]; exact hi), Jdg hi]
        unfold en; rw [Jcv hk]
      rw [e5, xen i hi]
    have hx := hnull _ xl xe xo
    have hg := hx (dt p m v a.length fun j => f (en p m (row a j))) (ZS hF fun j => L.lt _) fun i hi => ?_
    . have e6 : f (en p m u) = fs p m (fun i => Jt p m (dv p v) (inE (p ^ m) (vo (pkr u (pvl q a.length)) i)) (f (en p m (row a i)))) a.length := by
        rw [<- Jb1 hF L]
        exact L.cg fun c hc => by
          rw [hcomb c hc, Jju hF hc]
          refine YX _ fun i hi => ?_
          have := xen i hi
          unfold en at this ⊢
          rw [this]
      rw [e6, <- hg]
      exact YX _ fun i hi => R.Mc (J5 hq0 _) (L.lt _)
    . have e7 := hf i (by rw [zl]; exact hi)
      rw [Jgg hi, Jb1 hF L] at e7
      rw [<- e7]
      exact YX _ fun j hj => R.Mc (L.lt _) (JN hF _ _)
  . -- a combination with such coefficients
    rw [zl] at ht
    have hwl : (row (mm p m v C.toNat E a) t).length = C.toNat := J1 zs (by rw [zl]; exact ht)
    have hwe := J9 ze t
    have hsp : Sp p m v C.toNat a (row (mm p m v C.toNat E a) t) := by rw [Jgg ht]; exact cmb_sp G
    have k1 := Jby hF sY eY hwl hwe fun k hk => by
      rw [ZD]
      split
      . exact Jzo hF G.s G.e hsp (by assumption)
      . rw [List.length_append, YN] at hk
        rw [Jn4 hF (by omega) (hoo _ (by omega)), zen t _ ht (hoo _ (by omega)).2]
        have := hDorth t ht (k - (nul p m v C a).length) (by omega)
        rw [<- this]
        refine YX _ fun i hi => ?_
        have e5 : en p m (row (tr o.length (pks a o)) (k - (nul p m v C a).length)) i = en p m (row a i) (vo o (k - (nul p m v C a).length)).toNat := by
          rw [Jqi (by omega) (by rw [Zb]; exact hi), Jdg hi]
          unfold en; rw [Jcv (by omega)]
        rw [e5]
        exact R.Mc (JN hF _ _) (JN hF _ _)
    exact k1 f L ((Qy hF hBY (QN hF) L).1 hf)
end Go.Proofs.YtngdhnijkgjhcaaGreat
set_option linter.unusedVariables false
set_option linter.unusedSimpArgs false
namespace Go.Proofs.YtngdhnijkgjhcaaGreat
variable {P M : Int} {mf : List Int} {p m v g w : Nat} {C Ca Cb : Int} {X Y a b : List (List Int)}
theorem Jwb {q : Nat -> Nat} (G : Sg P M mf p m v C a q) (hC : C <= 100) (s : List Int) : (spt p m v C a s).length <= 1000000 /\ ∀ r ∈ spt p m v C a s, r.length <= 1000000 := by
 rw [Jm9 G hC]; have N := Yx (v := v) G.f G.s; have nl := N.q.len; have cc := ZX G.s; have hol := Zp s C.toNat; have us := Jfd (o := Qu s C.toNat) cc (by omega); have W := Yx (v := v) G.f (ZL N.s us (by rw [YN]; omega)); exact W.rows
end Go.Proofs.YtngdhnijkgjhcaaGreat
