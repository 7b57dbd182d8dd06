/- Contracts of functions of the program, and what they lean on: M10, M11, M12, M13, M14, M15, M16, M17, M18, M19, M20, M21, M22, M23, M24, S1, S2, S3, S4, S5, S6, S7, S8, S9, S10, S11, S18. -/
import Derived.Test.YtngdhnijkgjhcaaGreatSpaceSumsG10
set_option linter.unusedVariables false
set_option linter.unusedSimpArgs false
namespace Go.Proofs.YtngdhnijkgjhcaaGreat
section
variable {p m v g : Nat} {P M : Int} {mf : List Int} {X Y : List (List Int)} {C : Int} {w : Nat}
structure Red (k : Nat) (S : ES) : Prop where
  one : ∀ i, i < S.pv.length -> ∀ t, t < S.X.length -> vo (row S.X t) (vo S.pv i).toNat = if t = i then 1 else 0
  lo : ∀ t, S.pv.length <= t -> t < S.X.length -> ∀ c, c < k -> vo (row S.X t) c = 0
  lf : ∀ i, i < S.pv.length -> ∀ c : Nat, (c : Int) < vo S.pv i -> vo (row S.X i) c = 0
theorem Qap {a o : List Int} {x : Int} {c : Nat} (h : vo o c = 0) : vo (adx p m v a x o) c = vo a c := by
 unfold adx; split
 .rfl
 .rcases Nat.lt_or_ge c a.length with hc | hc
  .rw [Ja0 hc, if_pos h]
  .rw [Jb5 hc, Jb5 (by rw [Jdm]; exact hc)]
theorem Jwv (hF : FV P M mf p m v) {l : List Int} {x : Int} {c : Nat} (h : vo l c = 0) : vo (sc p m v x l) c = 0 := by
 have hq : 0 < p ^ m := by have := hF.ring.q2; omega
 rcases Nat.lt_or_ge c l.length with hc | hc
 .rw [Jf4 hc, h]; unfold Ml; rw [show inE (p ^ m) 0 = 0 from QK (x := 0) hq, hF.ring.M0 (J8 hq _)]; rfl
 .exact Jb5 (by unfold sc; rw [List.length_map]; exact hc)
theorem Jxt (K : Gn (p ^ m) (JD p m (dv p v)) g) (hF : FV P M mf p m v) {S : ES} {k : Nat} (hA : Asc k S.pv) (hl : S.pv.length <= S.X.length) (he : Els p m S.X) (h : Red k S) : Red (k + 1) (Ye p m v S k) := by
 have R := hF.ring; have q1 : 1 < p ^ m := R.q2; have hp : 0 < p := by have := hF.p2; omega
 unfold Ye; split
 case isFalse h1 =>
  refine ⟨h.one, fun t ht1 ht2 c hc => ?_, h.lf⟩; rcases Nat.lt_or_ge c k with hck | hck
  .exact h.lo t ht1 ht2 c hck
  .have e : c = k := by omega
   subst e; have hs := Jaa S.X c S.pv.length hl; exact hs.2.1 t ht1 (by
    rcases Nat.lt_or_ge t (nz S.X c S.pv.length) with h | h
    .exact h
    .exact absurd ⟨by omega, by omega⟩ h1)
 case isTrue h1 =>
  obtain ⟨hc, hr⟩ := h1; have hrs := Jrj S.X k S.pv.length; have hne := (Jaa S.X k S.pv.length hl).2.2 hr; have hkl : k < (row S.X (nz S.X k S.pv.length)).length := by
   rcases Nat.lt_or_ge k (row S.X (nz S.X k S.pv.length)).length with h | h
   .exact h
   .exact absurd (Jb5 h) hne
  have hel : El p m (vo (row S.X (nz S.X k S.pv.length)) k) := Qm he _ _ (Jcf hkl); obtain ⟨h4, h5⟩ := iv_ex K hF hne hel; have hE3 : Els p m (es1 p m v k (nz S.X k S.pv.length) S.pv.length S).X := Jjx hp he hr hc; have hn : (es1 p m v k (nz S.X k S.pv.length) S.pv.length S).X.length = S.X.length := by rw [Jcb, Y8, QG, J5]
  generalize hrr : nz S.X k S.pv.length = r at *
  have hx2 : ∀ t, row (scq p m v (swq S.X r S.pv.length) S.pv.length (vo (row (swq S.X r S.pv.length) S.pv.length) k)) t = if t = S.pv.length then sc p m v (Iv p m v (vo (row S.X r) k)) (row S.X r) else if t = r then row S.X S.pv.length else row S.X t := fun t => by
   rw [Ji5 (by rw [J5]; exact hc), Z1 hr hc, Z1 hr hc, if_pos rfl]; split <;> rfl
  have hx3 : ∀ t, t < S.X.length -> row (es1 p m v k r S.pv.length S).X t = if t = S.pv.length then sc p m v (Iv p m v (vo (row S.X r) k)) (row S.X r) else adx p m v (if t = r then row S.X S.pv.length else row S.X t) (Ng p m (vo (if t = r then row S.X S.pv.length else row S.X t) k)) (sc p m v (Iv p m v (vo (row S.X r) k)) (row S.X r)) := fun t ht => by
   rw [Jcb, Zn (by rw [QG, J5]; exact ht), hx2, hx2, if_pos rfl]; split
   .rfl
   .rfl
  -- the columns before stay
  have hold : ∀ t, t < S.X.length -> ∀ c, c < k -> vo (row (es1 p m v k r S.pv.length S).X t) c = vo (row S.X t) c := fun t ht c hck => by
   have z1 : vo (row S.X r) c = 0 := h.lo r hrs hr c hck; have z2 : vo (row S.X S.pv.length) c = 0 := h.lo _ (Nat.le_refl _) hc c hck; rw [hx3 t ht]; split
   .rename_i e; rw [Jwv hF z1, e, z2]
   .rw [Qap (Jwv hF z1)]; split
    .rename_i e; rw [z2, e, z1]
    .rfl
  have hone : vo (sc p m v (Iv p m v (vo (row S.X r) k)) (row S.X r)) k = 1 := by
   rw [Jf4 hkl]; unfold Ml; rw [R.Mc (J8 (by omega) _) h4, h5]; rfl
  have hnew : ∀ t, t < S.X.length -> vo (row (es1 p m v k r S.pv.length S).X t) k = if t = S.pv.length then 1 else 0 := fun t ht => by
   have hEt := Qm hE3 t; have hx := hx3 t ht; by_cases e : t = S.pv.length
   .rw [if_pos e] at hx ⊢; rw [hx]; exact hone
   .rw [if_neg e] at hx ⊢; rcases Nat.lt_or_ge k (if t = r then row S.X S.pv.length else row S.X t).length with hkt | hkt
    .have h6 := Jyv hF (x := Ng p m (vo (if t = r then row S.X S.pv.length else row S.X t) k)) (o := sc p m v (Iv p m v (vo (row S.X r) k)) (row S.X r)) hkt; rw [<- hx] at h6; have h7 : en p m (sc p m v (Iv p m v (vo (row S.X r) k)) (row S.X r)) k = 1 := by unfold en; rw [hone]; exact QK (x := 1) q1
     rw [h7] at h6; unfold Ng at h6; have h8 : Q4 p m (inE (p ^ m) (vo (if t = r then row S.X S.pv.length else row S.X t) k)) < p ^ m := YI hp _; rw [QK h8, R.M1 h8] at h6; have h9 : en p m (row (es1 p m v k r S.pv.length S).X t) k = 0 := by rw [h6]; exact YU hp (J8 (by omega) _)
     have h10 : El p m (vo (row (es1 p m v k r S.pv.length S).X t) k) := hEt _ (Jcf (by rw [hx, Jdl]; exact hkt)); rw [<- Jck h10]; show ((en p m (row (es1 p m v k r S.pv.length S).X t) k : Nat) : Int) = 0; rw [h9]; rfl
    .rw [hx]; exact Jb5 (by rw [Jdl]; exact hkt)
  have hpv : (es1 p m v k r S.pv.length S).pv = S.pv ++ [(k : Int)] := rfl; refine ⟨fun i hi t ht => ?_, fun t ht1 ht2 c hck => ?_, fun i hi c hci => ?_⟩
  .rw [hn] at ht; rw [hpv, List.length_append, List.length_singleton] at hi; rw [hpv, Jcy]; by_cases e : i < S.pv.length
   .rw [if_pos e, hold t ht _ (by have := hA.1 i e; omega)]; exact h.one i e t ht
   .have e2 : i = S.pv.length := by omega
    rw [if_neg e, if_pos e2, e2]; exact hnew t ht
  .rw [hn] at ht2; rw [hpv, List.length_append, List.length_singleton] at ht1; rcases Nat.lt_or_ge c k with h6 | h6
   .rw [hold t ht2 c h6]; exact h.lo t (by omega) ht2 c h6
   .rw [show c = k by omega, hnew t ht2, if_neg (by omega)]
  .rw [hpv, List.length_append, List.length_singleton] at hi; rw [hpv, Jcy] at hci; by_cases e : i < S.pv.length
   .rw [if_pos e] at hci; rw [hold i (by omega) c (by have := hA.1 i e; omega)]; exact h.lf i e c hci
   .have e2 : i = S.pv.length := by omega
    rw [if_neg e, if_pos e2] at hci; rw [hold i (by omega) c (by omega), e2]; exact h.lo _ (Nat.le_refl _) hc c (by omega)
theorem Jla (K : Gn (p ^ m) (JD p m (dv p v)) g) (hF : FV P M mf p m v) {n wy : Nat} {S : ES} (hS : Shp n w wy S) (he : Els p m S.X) (h0 : S.pv = []) : ∀ k, Red k (elim p m v k S)
 | 0 => ⟨fun i hi => by
   have : (elim p m v 0 S).pv = [] := h0; rw [this] at hi; exact absurd hi (Nat.not_lt_zero _), fun t _ _ c hc => absurd hc (Nat.not_lt_zero _), fun i hi => by
   have : (elim p m v 0 S).pv = [] := h0; rw [this] at hi; exact absurd hi (Nat.not_lt_zero _)⟩
 | k + 1 => by
  rw [QV]; have hk := Zh (p := p) (m := m) (v := v) hS k; exact Jxt K hF (Jg3 h0 k) (by have := hk.pl; have := hk.xl; omega) (Ja8 (by have := hF.p2; omega) he k) (Jla K hF hS he h0 k)
end
end Go.Proofs.YtngdhnijkgjhcaaGreat
namespace Go.Proofs.YtngdhnijkgjhcaaGreat
section
variable {p m v g : Nat} {P M : Int} {mf : List Int} {X Y : List (List Int)} {C : Int} {w : Nat}
def fs (p m : Nat) (f : Nat -> Nat) : Nat -> Nat
  | 0 => 0
  | n + 1 => Qf p m (fs p m f n) (f n)
theorem Je2 (hF : FV P M mf p m v) (f : Nat -> Nat) : ∀ n, fs p m f n < p ^ m
 | 0 => by have := hF.ring.q2; show 0 < _; omega
 | n + 1 => hF.ring.Al _ _
theorem fs_cg {f h : Nat -> Nat} : ∀ n, (∀ i, i < n -> f i = h i) -> fs p m f n = fs p m h n
 | 0, _ => rfl
 | n + 1, e => by show Qf p m _ _ = Qf p m _ _; rw [fs_cg n fun i hi => e i (by omega), e n (by omega)]
theorem mix (hF : FV P M mf p m v) {a b c d : Nat} (ha : a < p ^ m) (hb : b < p ^ m) (hc : c < p ^ m) (hd : d < p ^ m) : Qf p m (Qf p m a b) (Qf p m c d) = Qf p m (Qf p m a c) (Qf p m b d) := by
 have R := hF.ring; rw [R.Aa ha hb (R.Al _ _), <- R.Aa hb hc hd, R.Ac b c, R.Aa hc hb hd, <- R.Aa ha hc (R.Al _ _)]
theorem Jog (hF : FV P M mf p m v) {f h : Nat -> Nat} {x : Nat} (hf : ∀ i, f i < p ^ m) (hh : ∀ i, h i < p ^ m) (hx : x < p ^ m) : ∀ n, fs p m (fun i => Qf p m (f i) (JD p m (dv p v) x (h i))) n = Qf p m (fs p m f n) (JD p m (dv p v) x (fs p m h n))
 | 0 => by
  have R := hF.ring; show 0 = Qf p m 0 (JD p m (dv p v) x 0); rw [R.M0 hx, R.Az (by have := R.q2; omega)]
 | n + 1 => by
  have R := hF.ring; show Qf p m (fs p m _ n) _ = Qf p m (Qf p m _ _) (JD p m (dv p v) x (Qf p m _ _)); rw [Jog hF hf hh hx n, R.Md hx (Je2 hF h n) (hh n), mix hF (Je2 hF f n) (R.Ml _ _) (hf n) (R.Ml _ _)]
theorem fs_ml (hF : FV P M mf p m v) {f : Nat -> Nat} {x : Nat} (hf : ∀ i, f i < p ^ m) (hx : x < p ^ m) : ∀ n, fs p m (fun i => JD p m (dv p v) x (f i)) n = JD p m (dv p v) x (fs p m f n)
 | 0 => by show 0 = JD p m (dv p v) x 0; rw [hF.ring.M0 hx]
 | n + 1 => by
  show Qf p m (fs p m _ n) _ = JD p m (dv p v) x (Qf p m _ _); rw [fs_ml hF hf hx n, hF.ring.Md hx (Je2 hF f n) (hf n)]
theorem Jfr (hF : FV P M mf p m v) {f : Nat -> Nat} : ∀ n, (∀ i, i < n -> f i = 0) -> fs p m f n = 0
 | 0, _ => rfl
 | n + 1, h => by
  show Qf p m (fs p m f n) (f n) = 0; rw [Jfr hF n fun i hi => h i (by omega), h n (by omega), hF.ring.Az (by have := hF.ring.q2; omega)]
theorem Jof (hF : FV P M mf p m v) {f : Nat -> Nat} {j : Nat} (hj : f j < p ^ m) : ∀ n, j < n -> (∀ i, i < n -> i ≠ j -> f i = 0) -> fs p m f n = f j
 | 0, h, _ => absurd h (Nat.not_lt_zero _)
 | n + 1, h, e => by
  have R := hF.ring; show Qf p m (fs p m f n) (f n) = f j; by_cases en : n = j
  .subst en; rw [Jfr hF n fun i hi => e i (by omega) (by omega), R.Ac, R.Az hj]
  .rw [Jof hF hj n (by omega) fun i hi => e i (by omega), e n (by omega) en, R.Az hj]
def cof (p m v c r : Nat) (pv : Nat -> Nat) (nR : Nat -> Nat) (a : Nat -> Nat) : Nat := Qf p m (a c) (fs p m (fun i => JD p m (dv p v) (nR i) (a (pv i))) r)
theorem Qbz (hF : FV P M mf p m v) {c r : Nat} {pv nR : Nat -> Nat} (hc : c < w) (hpv : ∀ i, i < r -> pv i < w) (hn : ∀ i, nR i < p ^ m) : Lin p m v w (cof p m v c r pv nR) where
 lt a := hF.ring.Al _ _
 cg h := by
  unfold cof; rw [h c hc, fs_cg r fun i hi => by rw [h _ (hpv i hi)]]
 ad {a b x} ha hb hx := by
  have R := hF.ring; unfold cof; have e : (fun i => JD p m (dv p v) (nR i) (Qf p m (a (pv i)) (JD p m (dv p v) x (b (pv i))))) = fun i => Qf p m (JD p m (dv p v) (nR i) (a (pv i))) (JD p m (dv p v) x (JD p m (dv p v) (nR i) (b (pv i)))) := funext fun i => by
   rw [R.Md (hn i) (ha _) (R.Ml _ _), <- R.Ma (hn i) hx (hb _), R.Mc (hn i) hx, R.Ma hx (hn i) (hb _)]
  rw [e, Jog hF (fun i => R.Ml _ _) (fun i => R.Ml _ _) hx, mix hF (ha c) (R.Ml _ _) (Je2 hF _ _) (R.Ml _ _), <- R.Md hx (hb c) (Je2 hF _ _)]
 ml {a x} ha hx := by
  have R := hF.ring; unfold cof; have e : (fun i => JD p m (dv p v) (nR i) (JD p m (dv p v) x (a (pv i)))) = fun i => JD p m (dv p v) x (JD p m (dv p v) (nR i) (a (pv i))) := funext fun i => by
   rw [<- R.Ma (hn i) hx (ha _), R.Mc (hn i) hx, R.Ma hx (hn i) (ha _)]
  rw [e, fs_ml hF (fun i => R.Ml _ _) hx, <- R.Md hx (ha c) (Je2 hF _ _)]
theorem Jyq (hF : FV P M mf p m v) : ∃ g, Gn (p ^ m) (JD p m (dv p v)) g := hF.gen
end
end Go.Proofs.YtngdhnijkgjhcaaGreat
namespace Go.Proofs.YtngdhnijkgjhcaaGreat
section
variable {p m v g : Nat} {P M : Int} {mf : List Int} {X Y : List (List Int)} {C : Int} {w : Nat}
theorem Je3 (hF : FV P M mf p m v) {l : List Int} {c : Nat} {z : Nat} (hz : z < p ^ m) (h : vo l c = (z : Int)) : en p m l c = z := by unfold en; rw [h]; exact QK hz
theorem Jj3 (hF : FV P M mf p m v) (hs : shp C X) (he : Els p m X) : Red C.toNat (ec p m v C X) := by
 obtain ⟨g, G⟩ := Jyq hF; exact Jla G hF (Jbj hs) he rfl _
theorem YX (hF : FV P M mf p m v) (he : Els p m X) : Els p m (J7 p m v C X) := fun r hr => Ja8 (S := ⟨X, List.replicate X.length [], [], 1⟩) (by have := hF.p2; omega) he C.toNat r (List.mem_of_mem_take hr)
theorem Jdf (hF : FV P M mf p m v) (hs : shp C X) (he : Els p m X) {i t : Nat} (hi : i < (Qb p m v C X).length) (ht : t < (Qb p m v C X).length) : vo (row (J7 p m v C X) t) (vo (Qb p m v C X) i).toNat = if t = i then 1 else 0 := by
 have hS := Ja9 (p := p) (m := m) (v := v) hs; have := Jdh (p := p) (m := m) (v := v) hs; rw [show row (J7 p m v C X) t = row (ec p m v C X).X t from Ja1 ht]; exact (Jj3 hF hs he).one i hi t (by have := hS.xl; omega)
theorem Jg7 (hF : FV P M mf p m v) (hs : shp C X) (he : Els p m X) {i c : Nat} (hi : i < (Qb p m v C X).length) (hc : (c : Int) < vo (Qb p m v C X) i) : vo (row (J7 p m v C X) i) c = 0 := by
 rw [show row (J7 p m v C X) i = row (ec p m v C X).X i from Ja1 hi]; exact (Jj3 hF hs he).lf i hi c hc
end
end Go.Proofs.YtngdhnijkgjhcaaGreat
namespace Go.Proofs.YtngdhnijkgjhcaaGreat
end Go.Proofs.YtngdhnijkgjhcaaGreat
namespace Go.Proofs.YtngdhnijkgjhcaaGreat
section
variable {p m v : Nat} {P M : Int} {mf : List Int} {X Y : List (List Int)} {C : Int} {w : Nat}
theorem Jze {f : (Nat -> Nat) -> Nat} {r cur : Nat} (hr : r < X.length) (hc : cur < X.length) (h : Ann p m f X) : Ann p m f (swq X r cur) := fun t ht => by
  rw [J5] at ht
  rw [Z1 hr hc]
  split
  . exact h r hr
  . split
    . exact h cur hc
    . exact h t ht
theorem Jzg {f : (Nat -> Nat) -> Nat} (L : Lin p m v w f) (hF : FV P M mf p m v) {cur : Nat} {e : Int} (hc : cur < X.length) (hw : (row X cur).length = w) (h : Ann p m f X) : Ann p m f (scq p m v X cur e) := fun t ht => by
 rw [QG] at ht; rw [Ji5 hc]; split
 .rw [L.sc hF hw, h cur hc, hF.ring.M0 (J8 (by have := hF.ring.q2; omega) _)]
 .exact h t ht
theorem Jzh {f : (Nat -> Nat) -> Nat} (L : Lin p m v w f) (hF : FV P M mf p m v) {cur : Nat} {g : Nat -> Int} (hc : cur < X.length) (hw : ∀ t, t < X.length -> (row X t).length = w) (h : Ann p m f X) : Ann p m f (clr p m v g cur X) := fun t ht => by
 have R := hF.ring; have hq : 0 < p ^ m := by have := R.q2; omega
 rw [Y8] at ht; rw [Zn ht]; split
 .exact h t ht
 .rw [L.adx hF (hw t ht), h cur hc, h t ht, R.M0 (J8 hq _), R.Az hq]
theorem Jt0 (hF : FV P M mf p m v) {f : (Nat -> Nat) -> Nat} (L : Lin p m v w f) {S : ES} {c : Nat} (hw : ∀ t, t < S.X.length -> (row S.X t).length = w) (h : Ann p m f S.X) : Ann p m f (Ye p m v S c).X := by
 unfold Ye; split
 .rename_i h1
  obtain ⟨hc, hr⟩ := h1; rw [Jcb]; have hw1 : ∀ t, t < (swq S.X (nz S.X c S.pv.length) S.pv.length).length -> (row (swq S.X (nz S.X c S.pv.length) S.pv.length) t).length = w := fun t ht => by
   rw [J5] at ht; exact Q0 hr hc hw ht
  exact Jzh L hF (by rw [QG, J5]; exact hc) (fun t ht => by rw [QG] at ht; exact Q3 (by rw [J5]; exact hc) hw1 ht) (Jzg L hF (by rw [J5]; exact hc) (hw1 _ (by rw [J5]; exact hc)) (Jze hr hc h))
 .exact h
theorem Jin (hF : FV P M mf p m v) {f : (Nat -> Nat) -> Nat} (L : Lin p m v w f) {n wy : Nat} {S : ES} (hS : Shp n w wy S) (h : Ann p m f S.X) : ∀ k, Ann p m f (elim p m v k S).X
 | 0 => h
 | k + 1 => by
  rw [QV]; have hk := Zh (p := p) (m := m) (v := v) hS k; exact Jt0 hF L (fun t ht => hk.xr t (by have := hk.xl; omega)) (Jin hF L hS h k)
theorem Jdk (hF : FV P M mf p m v) (hs : shp C X) (he : Els p m X) {f : (Nat -> Nat) -> Nat} (L : Lin p m v C.toNat f) : Ann p m f (J7 p m v C X) ↔ Ann p m f X := by
  have R := hF.ring
  have hq : 0 < p ^ m := by have := R.q2; omega
  obtain ⟨g, G⟩ := Jyq hF
  have hS := Ja9 (p := p) (m := m) (v := v) hs
  have red := Jj3 hF hs he
  have hl := Q5 (p := p) (m := m) (v := v) hs
  have hpl := Jdh (p := p) (m := m) (v := v) hs
  have f0 : ∀ a : Nat -> Nat, (∀ c, c < C.toNat -> a c = 0) -> f a = 0 := fun a ha => by
    have h1 := L.ml (a := fun _ => 0) (x := 0) (fun _ => hq) hq
    rw [R.Mc hq (L.lt _), R.M0 (L.lt _)] at h1
    rw [<- h1]
    exact L.cg fun c hc => by rw [ha c hc, R.M0 hq]
  refine ⟨fun h => Jmj G hF L (Jbj hs) he C.toNat fun t ht => ?_, fun h t ht => ?_⟩
  . by_cases hr : t < (Qb p m v C X).length
    . have := h t (by omega)
      rwa [show row (J7 p m v C X) t = row (ec p m v C X).X t from Ja1 hr] at this
    . exact f0 _ fun c hc => Je3 hF hq (red.lo t (by show (Qb p m v C X).length <= t; omega) ht c hc)
  . rw [show row (J7 p m v C X) t = row (ec p m v C X).X t from Ja1 (by show t < (Qb p m v C X).length; omega)]
    exact Jin hF L (Jbj hs) h C.toNat t (by have := hS.xl; show t < (ec p m v C X).X.length; omega)
end
end Go.Proofs.YtngdhnijkgjhcaaGreat
namespace Go.Proofs.YtngdhnijkgjhcaaGreat
section
variable {p m v : Nat} {P M : Int} {mf : List Int} {X Y : List (List Int)} {C : Int} {w : Nat}
end
end Go.Proofs.YtngdhnijkgjhcaaGreat
namespace Go.Proofs.YtngdhnijkgjhcaaGreat
section
variable {p m v : Nat} {P M : Int} {mf : List Int} {X Y : List (List Int)} {C : Int} {w : Nat}
end
end Go.Proofs.YtngdhnijkgjhcaaGreat
namespace Go.Proofs.YtngdhnijkgjhcaaGreat
section
variable {p m v : Nat} {P M : Int} {mf : List Int} {X Y : List (List Int)} {C : Int} {w : Nat}
theorem Jfd {Q : List (List Int) -> Prop} (hF : FV P M mf p m v) (hs : shp C X) (he : Els p m X) (h : Q (J7 p m v C (Jhw p m v C X))) : Jat P M mf X C Q := by
 obtain ⟨h1, h2, h3⟩ := Q2 hs; have hpl := Jdh (p := p) (m := m) (v := v) hs; have hcl := Q5 (p := p) (m := m) (v := v) hs; have hasc := Yw (p := p) (m := m) (v := v) C X; have hrow := fun i (hi : i < (J7 p m v C X).length) => Jg9 (p := p) (m := m) (v := v) hs hi; have hfin := Jcw (Q := fun q => Q q.1) hF (Jdj (p := p) (m := m) (v := v) hs) (Jha hF) h; refine Jcw hF hs he ⟨⟨by omega, by omega, by omega⟩, fun x z => ∃ k : Nat, z = k /\ k <= C.toNat /\ x.length = C.toNat /\ ∀ j, j < k -> vo x j = -1, fun _ z => (C - z).toNat, ⟨0, rfl, Nat.zero_le _, by simp, fun j hj => by omega⟩, ?_⟩; unfold Jhw at hfin; generalize J7 p m v C X = R at *
 generalize Qb p m v C X = pv at *
 rintro x _ ⟨k, rfl, hk, hx, hk1⟩; refine ⟨fun hlt => ⟨⟨by omega, by omega⟩, JB (by omega) (by omega), ⟨k + 1, by push_cast; rfl, by omega, by rw [Qv, List.length_set]; exact hx, fun j hj => ?_⟩, by dsimp only; omega⟩, fun hge => ?_⟩
 .rw [Qv, Qi]; by_cases e : k = j
  .rw [if_pos ⟨e, by omega⟩]
  .rw [if_neg (fun hh => e hh.1)]; exact hk1 j (by omega)
 have hk1' : ∀ j, j < C.toNat -> vo x j = -1 := fun j hj => hk1 j (by omega); refine ⟨fun y z => ∃ i : Nat, z = i /\ i <= pv.length /\ y.length = C.toNat /\ ∀ d, d < C.toNat -> (0 <= vo y d ↔ ∃ j, j < i /\ vo pv j = (d : Int)), fun _ z => (pv.length - z).toNat, ⟨0, rfl, Nat.zero_le _, hx, fun d hd => ⟨fun hh => by rw [hk1' d hd] at hh; exact absurd hh (by decide), fun ⟨j, hj, _⟩ => absurd hj (Nat.not_lt_zero _)⟩⟩, ?_⟩; rintro y _ ⟨i, rfl, hi, hy, hy1⟩; refine ⟨fun hlt => ?_, fun hge => ?_⟩
 .have hpi := hasc.1 i (by omega); have hpi' : 0 <= gi pv (i : Int) /\ gi pv (i : Int) < ((C.toNat : Nat) : Int) := hpi; refine ⟨⟨by omega, by omega⟩, hpi', JB (by omega) (by omega), ⟨i + 1, by push_cast; rfl, by omega, ?_, fun d hd => ?_⟩, by dsimp only; omega⟩
  .show (y.set _ _).length = _; rw [List.length_set]; exact hy
  .show 0 <= vo (y.set (vo pv i).toNat (i : Int)) d ↔ _; rw [Qi]; by_cases e : (vo pv i).toNat = d
   .rw [if_pos ⟨e, by omega⟩]; exact ⟨fun _ => ⟨i, by omega, by omega⟩, fun _ => by omega⟩
   .rw [if_neg (fun hh => e hh.1), hy1 d hd]; refine ⟨fun ⟨j, hj, hj'⟩ => ⟨j, by omega, hj'⟩, fun ⟨j, hj, hj'⟩ => ⟨j, ?_, hj'⟩⟩; rcases Nat.lt_or_ge j i with h5 | h5
    .exact h5
    .rw [show j = i by omega] at hj'; omega
 have hy2 : ∀ d, d < C.toNat -> (0 <= vo y d ↔ inP pv d = true) := fun d hd => by
  rw [hy1 d hd, Jdc, show i = pv.length by omega]
 refine ⟨fun x z => ∃ k : Nat, z = k /\ k <= C.toNat /\ x = bas p m C.toNat R pv k, fun _ z => (C - z).toNat, ⟨0, rfl, Nat.zero_le _, rfl⟩, ?_⟩; rintro _ _ ⟨k, rfl, hk, rfl⟩; have hbl := Jft (p := p) (m := m) C.toNat R pv k; refine ⟨fun hlt => ⟨fun x => x = bas p m C.toNat R pv (k + 1), ⟨⟨by omega, by omega⟩, fun hin => ?_, fun hin => ?_⟩, ?_⟩, fun hge => ?_⟩
 .rw [ZM, if_pos ((hy2 k (by omega)).1 hin)]
 .refine ⟨⟨by omega, by omega, by omega⟩, ⟨by omega, by omega⟩, fun x z => ∃ i : Nat, z = i /\ i <= pv.length /\ x = Je8 p m C.toNat R pv k i, fun _ z => (pv.length - z).toNat, ⟨0, rfl, Nat.zero_le _, rfl⟩, ?_⟩; rintro _ _ ⟨i, rfl, hi', rfl⟩; refine ⟨fun hlt2 => ?_, fun hge2 => ⟨by omega, ?_⟩⟩
  .have hpi := hasc.1 i (by omega); have hpi' : 0 <= gi pv (i : Int) /\ gi pv (i : Int) < ((C.toNat : Nat) : Int) := hpi; refine ⟨⟨by omega, by omega⟩, ⟨by omega, by omega⟩, ⟨by omega, by show (k : Int) < ((row R i).length : Int); rw [hrow i (by omega)]; omega⟩, _, Jw5 hF rfl, hpi', JB (by omega) (by omega), ⟨i + 1, by push_cast; rfl, by omega, ?_⟩, by dsimp only; omega⟩; rw [Jbi]; rfl
  .rw [ZM, if_neg (fun hh => hin ((hy2 k (by omega)).2 hh)), show i = pv.length by omega]
 .rintro _ rfl; exact ⟨JB (by omega) (by omega), ⟨k + 1, by push_cast; rfl, by omega, rfl⟩, by dsimp only; omega⟩
 .rw [show k = C.toNat by omega]; exact hfin
end
end Go.Proofs.YtngdhnijkgjhcaaGreat
namespace Go.Proofs.YtngdhnijkgjhcaaGreat
section
variable {p m v : Nat} {P M : Int} {mf : List Int} {X Y : List (List Int)} {C : Int} {w wy : Nat}
def e2 (p m w : Nat) (a b : List Int) : Nat -> Nat := fun c => if c < w then en p m a c else en p m b (c - w)
end
end Go.Proofs.YtngdhnijkgjhcaaGreat
namespace Go.Proofs.YtngdhnijkgjhcaaGreat
section
variable {p m v : Nat} {P M : Int} {mf : List Int} {X Y : List (List Int)} {C : Int} {w wy : Nat}
def u1 (p m w : Nat) (u : Nat -> Nat) : Nat -> Nat := fun c => if c < w then u c else Q4 p m 1
end
end Go.Proofs.YtngdhnijkgjhcaaGreat
namespace Go.Proofs.YtngdhnijkgjhcaaGreat
end Go.Proofs.YtngdhnijkgjhcaaGreat
namespace Go.Proofs.YtngdhnijkgjhcaaGreat
section
variable {p m v : Nat} {P M : Int} {mf : List Int} {X Y : List (List Int)} {C D : Int} {w wy : Nat}
def mm (p m v w : Nat) (A B : List (List Int)) : List (List Int) := (List.range A.length).map fun t => cmb p m v (row A t) w B B.length
theorem mm_len (A B : List (List Int)) : (mm p m v w A B).length = A.length := by simp [mm]
theorem row_mm {A B : List (List Int)} {t : Nat} (h : t < A.length) : row (mm p m v w A B) t = cmb p m v (row A t) w B B.length := Jc5 h
theorem Qbi {A B : List (List Int)} (hl : A.length = B.length) (ha : Els p m A) (hb : Els p m B) (hw : ∀ t, t < A.length -> (row A t).length = w /\ (row B t).length = w) (h : ∀ t c, t < A.length -> c < w -> en p m (row A t) c = en p m (row B t) c) : A = B :=
  QH hl fun t ht => QZ (by rw [(hw t ht).1, (hw t ht).2]) fun c hc => by
    rw [(hw t ht).1] at hc
    have e := h t c ht hc
    have e1 := Jck (Jaj (Qm ha t) (t := c) (by rw [(hw t ht).1]; exact hc))
    have e2 := Jck (Jaj (Qm hb t) (t := c) (by rw [(hw t ht).2]; exact hc))
    unfold en at e
    rw [<- e1, <- e2, e]
def tr (n : Nat) (A : List (List Int)) : List (List Int) := (List.range n).map fun c => (List.range A.length).map fun t => vo (row A t) c
theorem Jw9 (n : Nat) (A : List (List Int)) : (tr n A).length = n := by simp [tr]
theorem Jxr {n c : Nat} {A : List (List Int)} (h : c < n) : row (tr n A) c = (List.range A.length).map fun t => vo (row A t) c := Jc5 h
theorem Jnm {n c : Nat} {A : List (List Int)} (h : c < n) : (row (tr n A) c).length = A.length := by rw [Jxr h]; simp
theorem tr_at {n c t : Nat} {A : List (List Int)} (h : c < n) (ht : t < A.length) : vo (row (tr n A) c) t = vo (row A t) c := by rw [Jxr h]; exact Jf5 ht
theorem tr_shp (hs : shp C X) : shp (X.length : Int) (tr C.toNat X) := by
 obtain ⟨h1, h2, h3⟩ := Q2 hs; refine ⟨by omega, by omega, by rw [Jw9]; exact h2, fun r hr => ?_⟩; obtain ⟨c, _, rfl⟩ := List.mem_map.1 hr; simp
theorem tr_els (hs : shp C X) (he : Els p m X) : Els p m (tr C.toNat X) := fun r hr => by
 obtain ⟨c, hc, rfl⟩ := List.mem_map.1 hr; have hc := List.mem_range.1 hc; intro x hx; obtain ⟨t, ht, rfl⟩ := List.mem_map.1 hx; have ht := List.mem_range.1 ht; exact Jaj (Qm he t) (by rw [Qu hs ht]; exact hc)
end
end Go.Proofs.YtngdhnijkgjhcaaGreat
namespace Go.Proofs.YtngdhnijkgjhcaaGreat
section
variable {P M : Int} {mf : List Int} {X : List (List Int)} {C : Int}
theorem w_mMul {Ca Cb : Int} {A B : List (List Int)} {Q : Int × List (List Int) × Int -> Prop} (hb : ∀ e, e ≠ 0 -> (mck P M mf Ca A ≠ 0 ∨ mck P M mf Cb B ≠ 0 ∨ Ca ≠ (B.length : Int)) -> Q (0, [], e))
    (h : ∀ p m v, FV P M mf p m v -> shp Ca A -> Els p m A -> shp Cb B -> Els p m B -> Ca = (B.length : Int) -> Q (Cb, mm p m v Cb.toNat A B, 0)) : Jkc P M mf Ca A Cb B Q := by
  refine Jwn (ms := [(Ca, A), (Cb, B)]) (by simp) (fun hn _ => hb 1 (by decide) (.inl (by rw [Jgw hn]; decide))) (fun F p m v g K hF h0 => ?_) (fun hV hne _ => hb _ hne ?_)
  . rw [Jle] at h0
    have hA : mck P M mf Ca A = 0 := by
      by_cases e : mck P M mf Ca A = 0
      . exact e
      . rw [if_neg e] at h0; exact h0
    rw [if_pos hA] at h0
    obtain ⟨_, sA, eA⟩ := ZK hA
    obtain ⟨_, sB, eB⟩ := ZK h0
    have eA := (QN hF).1 eA
    have eB := (QN hF).1 eB
    obtain ⟨a1, a2, a3⟩ := Q2 sA
    refine ⟨fun hne => hb 10 (by decide) (.inr (.inr hne)), fun he => ?_⟩
    have hC : Ca = (B.length : Int) := Classical.not_not.1 he
    refine ⟨⟨by omega, by omega, by omega⟩, fun x z => ∃ t : Nat, z = t /\ t <= A.length /\ x.length = A.length /\ ∀ s, s < t -> row x s = row (mm p m v Cb.toNat A B) s, fun _ z => (A.length - z).toNat, ⟨0, rfl, Nat.zero_le _, by simp, fun s hs => absurd hs (Nat.not_lt_zero _)⟩, ?_⟩
    rintro x _ ⟨t, rfl, ht, hx, hv⟩
    dsimp only
    refine ⟨fun hlt => ⟨⟨by omega, by omega⟩, _, Jsn K sB (by show (row A t).length = _; rw [Qu sA (by omega)]; omega) rfl, ⟨by omega, by omega⟩, JB (by omega) (by omega), ⟨t + 1, by push_cast; rfl, by omega, by rw [Zm]; exact hx, fun s hs => ?_⟩, by omega⟩, fun hge => ?_⟩
    . show row (x.set t _) s = _
      rw [Qk]
      by_cases e : t = s
      . subst e; rw [if_pos ⟨rfl, by omega⟩, row_mm (by omega)]; rfl
      . rw [if_neg (fun q => e q.1)]; exact hv s (by omega)
    . rw [show x = mm p m v Cb.toNat A B from QH (by rw [mm_len]; exact hx) fun i hi => hv i (by omega)]
      exact h p m v hF sA eA sB eB hC
  . rw [Jle] at hne
    by_cases e : mck P M mf Ca A = 0
    . rw [if_pos e] at hne; exact .inr (.inl hne)
    . exact .inl e
theorem Jks {Q : Int × List (List Int) × Int -> Prop} (hb : mck P M mf C X ≠ 0 -> Q (0, [], mck P M mf C X))
  (h : ∀ p m v, FV P M mf p m v -> shp C X -> Els p m X -> mck P M mf C X = 0 -> Q ((X.length : Int), tr C.toNat X, 0)) : Zt P M mf C X Q := by
 refine Jcx (fun h0 _ => hb h0) fun F p m v g K hF hs he h0 => ?_; have hfin := h p m v hF hs he h0; obtain ⟨a1, a2, a3⟩ := Q2 hs; generalize hn : C.toNat = n at *
 refine ⟨⟨by omega, by omega, by omega⟩, fun x z => ∃ c : Nat, z = c /\ c <= n /\ x.length = n /\ ∀ d, d < c -> row x d = row (tr n X) d, fun _ z => (n - z).toNat, ⟨0, rfl, Nat.zero_le _, by simp, fun d hd => absurd hd (Nat.not_lt_zero _)⟩, ?_⟩; rintro x _ ⟨c, rfl, hc, hx, hv⟩; dsimp only; refine ⟨fun hlt => ?_, fun hge => ?_⟩
 .have hcn : c < n := by omega
  refine ⟨⟨by omega, by omega, by omega⟩, ⟨by omega, by omega⟩, fun y z => ∃ t : Nat, z = t /\ t <= X.length /\ y.length = n /\ (∀ d, d < c -> row y d = row (tr n X) d) /\ (row y c).length = X.length /\ ∀ s, s < t -> vo (row y c) s = vo (row X s) c, fun _ z => (X.length - z).toNat, ⟨0, rfl, Nat.zero_le _, by rw [Zm]; exact hx, fun d hd => ?_, ?_, fun s hs => absurd hs (Nat.not_lt_zero _)⟩, ?_⟩
  .show row (x.set c _) d = _; rw [Qk, if_neg (fun q => by omega)]; exact hv d hd
  .show (row (x.set c _) c).length = _; rw [Qk, if_pos ⟨rfl, by omega⟩]; simp
  rintro y _ ⟨t, rfl, ht, hy, h1, h2, h3⟩; dsimp only; refine ⟨fun hlt2 => ?_, fun hge2 => ⟨JB (by omega) (by omega), ⟨c + 1, by push_cast; rfl, by omega, hy, fun d hd => ?_⟩, by omega⟩⟩
  .have htx : t < X.length := by omega
   have hrl : (row X t).length = n := by rw [Qu hs htx]; exact hn
   refine ⟨⟨by omega, by omega⟩, ⟨by omega, by omega⟩, ⟨by omega, by show (c : Int) < ((row X t).length : Int); omega⟩, ⟨by omega, by show (t : Int) < ((row y c).length : Int); omega⟩, JB (by omega) (by omega), ⟨t + 1, by push_cast; rfl, by omega, by rw [Zm]; exact hy, fun d hd => ?_, ?_, fun s hs' => ?_⟩, by omega⟩
   .show row (y.set c _) d = _; rw [Qk, if_neg (fun q => by omega)]; exact h1 d hd
   .show (row (y.set c ((row y c).set t (vo (row X t) c))) c).length = _; rw [Qk, if_pos ⟨rfl, by omega⟩, List.length_set]; exact h2
   .show vo (row (y.set c ((row y c).set t (vo (row X t) c))) c) s = _; rw [Qk, if_pos ⟨rfl, by omega⟩, Qi]; by_cases e : t = s
    .subst e; rw [if_pos ⟨rfl, by omega⟩]
    .rw [if_neg (fun q => e q.1)]; exact h3 s (by omega)
  .by_cases e : d = c
   .subst e; exact QZ (by rw [h2, Jnm hcn]) fun s hs' => by rw [h3 s (by omega), tr_at hcn (by omega)]
   .exact h1 d (by omega)
 .rw [show x = tr n X from QH (by rw [Jw9]; exact hx) fun i hi => hv i (by omega)]; exact hfin
end
end Go.Proofs.YtngdhnijkgjhcaaGreat
namespace Go.Proofs.YtngdhnijkgjhcaaGreat
section
variable {p m v : Nat} {P M : Int} {mf : List Int} {X Y : List (List Int)} {C D : Int} {w wy : Nat}
theorem Jzd {n k : Nat} {a b : List Int} (ha : Asc n a) (hb : Asc n b) (h1 : ∀ i, i < a.length -> ∃ j, j < b.length /\ vo b j = vo a i) (h2 : ∀ j, j < b.length -> ∃ i, i < a.length /\ vo a i = vo b j) : ∀ k, k < a.length -> k < b.length /\ vo a k = vo b k := by
  intro k
  induction k using Nat.strongRecOn with
  | ind k ih =>
    intro hk
    obtain ⟨j, hj, e⟩ := h1 k hk
    have hjk : k <= j := by
      rcases Nat.lt_or_ge j k with h | h
      . have h3 := (ih j h (by omega)).2
        have h4 := ha.2 j k h hk
        omega
      . exact h
    have hkb : k < b.length := by omega
    refine ⟨hkb, ?_⟩
    obtain ⟨i, hi, e2⟩ := h2 k hkb
    rcases Nat.lt_trichotomy i k with h | h | h
    . have h3 := (ih i h hi).2
      have h4 := hb.2 i k h hkb
      omega
    . rw [<- e2, h]
    . have h3 := ha.2 k i h hi
      rcases Nat.lt_or_ge k j with h5 | h5
      . have := hb.2 k j h5 hj; omega
      . rw [show k = j by omega] at e2 ⊢; omega
theorem Jzc {n : Nat} {a b : List Int} (ha : Asc n a) (hb : Asc n b) (h1 : ∀ i, i < a.length -> ∃ j, j < b.length /\ vo b j = vo a i) (h2 : ∀ j, j < b.length -> ∃ i, i < a.length /\ vo a i = vo b j) : a = b := by
 have k1 := Jzd (k := 0) ha hb h1 h2; have k2 := Jzd (k := 0) hb ha h2 h1; refine QZ ?_ fun i hi => (k1 i hi).2; rcases Nat.lt_trichotomy a.length b.length with h | h | h
 .have := (k2 a.length h).1; omega
 .exact h
 .have := (k1 b.length h).1; omega
theorem Jrr (hF : FV P M mf p m v) (hs : shp C X) (he : Els p m X) {a : Nat -> Nat} (ha : ∀ c, a c < p ^ m) (hA : ∀ f, Lin p m v C.toNat f -> Ann p m f (J7 p m v C X) -> f a = 0) {c : Nat} (hc : c < C.toNat) :
    a c = fs p m (fun i => JD p m (dv p v) (a (vo (Qb p m v C X) i).toNat) (en p m (row (J7 p m v C X) i) c)) (Qb p m v C X).length := by
  have R := hF.ring
  have q1 : 1 < p ^ m := R.q2
  have hp : 0 < p := by have := hF.p2; omega
  have hasc := Yw (p := p) (m := m) (v := v) C X
  have hcl := Q5 (p := p) (m := m) (v := v) hs
  have hneg : ∀ y, y < p ^ m -> Q4 p m y < p ^ m := fun y _ => YI hp y
  have L := Qbz (w := C.toNat) hF (c := c) (r := (Qb p m v C X).length) (pv := fun i => (vo (Qb p m v C X) i).toNat) (nR := fun i => Q4 p m (en p m (row (J7 p m v C X) i) c)) hc (fun i hi => by have := hasc.1 i hi; show (vo (Qb p m v C X) i).toNat < _; omega) (fun i => hneg _ (YV hF _ _))
  have hann := hA _ L (fun s hsl => by
    show cof _ _ _ _ _ _ _ (en p m (row (J7 p m v C X) s)) = 0
    unfold cof
    have hsr : s < (Qb p m v C X).length := by omega
    have hd : ∀ i, i < (Qb p m v C X).length -> en p m (row (J7 p m v C X) s) (vo (Qb p m v C X) i).toNat = if s = i then 1 else 0 := fun i hi => by
      have := Jdf hF hs he hi hsr
      by_cases e : s = i
      . rw [if_pos e] at this ⊢; exact Je3 hF q1 this
      . rw [if_neg e] at this ⊢; exact Je3 hF (by omega) this
    have h9 := Jof hF (f := fun i => JD p m (dv p v) (Q4 p m (en p m (row (J7 p m v C X) i) c)) (en p m (row (J7 p m v C X) s) (vo (Qb p m v C X) i).toNat)) (j := s) (R.Ml _ _) _ hsr fun i hi hne => by
      show JD p m (dv p v) _ _ = 0
      rw [hd i hi, if_neg (fun e => hne e.symm), R.M0 (hneg _ (YV hF _ _))]
    show Qf p m _ (fs p m (fun i => JD p m (dv p v) (Q4 p m (en p m (row (J7 p m v C X) i) c)) (en p m (row (J7 p m v C X) s) (vo (Qb p m v C X) i).toNat)) (Qb p m v C X).length) = 0
    rw [h9]
    show Qf p m _ (JD p m (dv p v) _ _) = 0
    rw [hd s hsr, if_pos rfl, R.M1 (hneg _ (YV hF _ _))]
    exact YU hp (YV hF _ _))
  unfold cof at hann
  have hG := Je2 hF (fun i => JD p m (dv p v) (a (vo (Qb p m v C X) i).toNat) (en p m (row (J7 p m v C X) i) c)) (Qb p m v C X).length
  have hN := Je2 hF (fun i => JD p m (dv p v) (Q4 p m (en p m (row (J7 p m v C X) i) c)) (a (vo (Qb p m v C X) i).toNat)) (Qb p m v C X).length
  have hGN : Qf p m (fs p m (fun i => JD p m (dv p v) (a (vo (Qb p m v C X) i).toNat) (en p m (row (J7 p m v C X) i) c)) (Qb p m v C X).length) (fs p m (fun i => JD p m (dv p v) (Q4 p m (en p m (row (J7 p m v C X) i) c)) (a (vo (Qb p m v C X) i).toNat)) (Qb p m v C X).length) = 0 := by
    have h1 := Jog hF (f := fun i => JD p m (dv p v) (a (vo (Qb p m v C X) i).toNat) (en p m (row (J7 p m v C X) i) c)) (h := fun i => JD p m (dv p v) (Q4 p m (en p m (row (J7 p m v C X) i) c)) (a (vo (Qb p m v C X) i).toNat)) (x := 1) (fun i => R.Ml _ _) (fun i => R.Ml _ _) q1 (Qb p m v C X).length
    rw [R.Mc q1 hN, R.M1 hN] at h1
    rw [<- h1]
    refine Jfr hF _ fun i hi => ?_
    show Qf p m (JD p m (dv p v) _ _) (JD p m (dv p v) 1 (JD p m (dv p v) _ _)) = 0
    have ha' := ha (vo (Qb p m v C X) i).toNat
    have hb := YV hF (row (J7 p m v C X) i) c
    rw [R.Mc q1 (R.Ml _ _), R.M1 (R.Ml _ _), R.Mc (hneg _ hb) ha', <- R.Md ha' hb (hneg _ hb), YU hp hb, R.M0 ha']
  have hx := ha c
  generalize fs p m (fun i => JD p m (dv p v) (a (vo (Qb p m v C X) i).toNat) (en p m (row (J7 p m v C X) i) c)) (Qb p m v C X).length = G1 at *
  generalize fs p m (fun i => JD p m (dv p v) (Q4 p m (en p m (row (J7 p m v C X) i) c)) (a (vo (Qb p m v C X) i).toNat)) (Qb p m v C X).length = N1 at *
  generalize a c = b at *
  calc b = Qf p m b (Qf p m G1 N1) := by rw [hGN, R.Az hx]
    _ = Qf p m G1 (Qf p m b N1) := by rw [<- R.Aa hx hG hN, R.Ac b G1, R.Aa hG hx hN]
    _ = G1 := by rw [hann, R.Az hG]
theorem Jxx (hF : FV P M mf p m v) (hX : shp C X) (eX : Els p m X) (hY : shp C Y) (eY : Els p m Y) (h : ∀ f, Lin p m v C.toNat f -> Ann p m f Y -> Ann p m f X) : ∀ t, t < (Qb p m v C X).length -> ∃ j, j < (Qb p m v C Y).length /\ vo (Qb p m v C Y) j = vo (Qb p m v C X) t := by
  intro t ht
  have R := hF.ring
  have q1 : 1 < p ^ m := R.q2
  have hq : 0 < p ^ m := by omega
  have pX := Yw (p := p) (m := m) (v := v) C X
  have pY := Yw (p := p) (m := m) (v := v) C Y
  have lX := Q5 (p := p) (m := m) (v := v) hX
  have hk := fun f (L : Lin p m v C.toNat f) (h1 : Ann p m f (J7 p m v C Y)) => (Jdk hF hX eX L).2 (h f L ((Jdk hF hY eY L).1 h1)) t (by omega)
  have ht' := pX.1 t ht
  have hc := Jrr hF hY eY (a := en p m (row (J7 p m v C X) t)) (fun c => YV hF _ c) hk (c := (vo (Qb p m v C X) t).toNat) (by omega)
  have hu := Jdf hF hX eX (i := t) (t := t) ht ht
  rw [if_pos rfl] at hu
  rw [Je3 hF (z := 1) q1 hu] at hc
  refine Classical.byContradiction fun hno => ?_
  rw [Jfr hF _ fun i hi => ?_] at hc
  . omega
  show JD p m (dv p v) (en p m (row (J7 p m v C X) t) (vo (Qb p m v C Y) i).toNat) (en p m (row (J7 p m v C Y) i) (vo (Qb p m v C X) t).toNat) = 0
  have hi' := pY.1 i hi
  rcases Int.lt_trichotomy (vo (Qb p m v C Y) i) (vo (Qb p m v C X) t) with h1 | h1 | h1
  . rw [Je3 hF (z := 0) hq (Jg7 hF hX eX ht (c := (vo (Qb p m v C Y) i).toNat) (by omega)), R.Mc hq (YV hF _ _), R.M0 (YV hF _ _)]
  . exact absurd ⟨i, hi, h1⟩ hno
  . rw [Je3 hF (z := 0) hq (Jg7 hF hY eY hi (c := (vo (Qb p m v C X) t).toNat) (by omega)), R.M0 (YV hF _ _)]
theorem Jy3 (hF : FV P M mf p m v) (hX : shp C X) (eX : Els p m X) (hY : shp C Y) (eY : Els p m Y) (h : ∀ f, Lin p m v C.toNat f -> (Ann p m f X ↔ Ann p m f Y)) : Qb p m v C X = Qb p m v C Y /\ J7 p m v C X = J7 p m v C Y := by
 have R := hF.ring; have q1 : 1 < p ^ m := R.q2; have hq : 0 < p ^ m := by omega
 have pX := Yw (p := p) (m := m) (v := v) C X; have pY := Yw (p := p) (m := m) (v := v) C Y; have lX := Q5 (p := p) (m := m) (v := v) hX; have lY := Q5 (p := p) (m := m) (v := v) hY; have sX := Yv (p := p) (m := m) (v := v) hX; have sY := Yv (p := p) (m := m) (v := v) hY; have e : Qb p m v C X = Qb p m v C Y := Jzc pX pY (Jxx hF hX eX hY eY fun f L => (h f L).2) (Jxx hF hY eY hX eX fun f L => (h f L).1); refine ⟨e, Qbi (w := C.toNat) (by rw [lX, lY, e]) (YX hF eX) (YX hF eY) (fun t ht => ⟨Qu sX ht, Qu sY (by rw [lY, <- e, <- lX]; exact ht)⟩) fun t c ht hc => ?_⟩; have ht' : t < (Qb p m v C Y).length := by rw [<- e, <- lX]; exact ht
 have hk := fun f (L : Lin p m v C.toNat f) (h1 : Ann p m f (J7 p m v C Y)) => (Jdk hF hX eX L).2 ((h f L).2 ((Jdk hF hY eY L).1 h1)) t ht; have hc' := Jrr hF hY eY (a := en p m (row (J7 p m v C X) t)) (fun c => YV hF _ c) hk (c := c) hc; rw [hc']; have hd : ∀ i, i < (Qb p m v C Y).length -> en p m (row (J7 p m v C X) t) (vo (Qb p m v C Y) i).toNat = if t = i then 1 else 0 := fun i hi => by
  have := Jdf hF hX eX (i := i) (t := t) (by rw [e]; exact hi) (by rw [e]; exact ht'); rw [e] at this; by_cases e' : t = i
  .rw [if_pos e'] at this ⊢; exact Je3 hF q1 this
  .rw [if_neg e'] at this ⊢; exact Je3 hF hq this
 rw [Jof hF (f := fun i => JD p m (dv p v) (en p m (row (J7 p m v C X) t) (vo (Qb p m v C Y) i).toNat) (en p m (row (J7 p m v C Y) i) c)) (j := t) (R.Ml _ _) _ ht' fun i hi hne => by
  show JD p m (dv p v) _ _ = 0; rw [hd i hi, if_neg (fun q => hne q.symm), R.Mc hq (YV hF _ _), R.M0 (YV hF _ _)]]
 show JD p m (dv p v) _ _ = _; rw [hd t ht', if_pos rfl, R.Mc q1 (YV hF _ _), R.M1 (YV hF _ _)]
end
end Go.Proofs.YtngdhnijkgjhcaaGreat
namespace Go.Proofs.YtngdhnijkgjhcaaGreat
section
variable {p m v : Nat} {P M : Int} {mf : List Int} {X Y : List (List Int)} {C D : Int} {w wy : Nat}
end
end Go.Proofs.YtngdhnijkgjhcaaGreat
namespace Go.Proofs.YtngdhnijkgjhcaaGreat
variable {P M : Int} {mf : List Int} {p m v : Nat} {C : Int} {X Y : List (List Int)}
structure Cnl (C : Nat) (X : List (List Int)) (q : Nat -> Nat) : Prop where
  lt : ∀ i, i < X.length -> q i < C
  one : ∀ i, i < X.length -> ∀ t, t < X.length -> vo (row X t) (q i) = if t = i then 1 else 0
  lf : ∀ i, i < X.length -> ∀ c, c < q i -> vo (row X i) c = 0
  asc : ∀ i j, i < j -> j < X.length -> q i < q j
def Jm5 (C : Int) (X : List (List Int)) : Prop := ∃ q, Cnl C.toNat X q
theorem Jmk (a o : List Int) : adx p m v a 0 o = a := by unfold adx; rw [if_pos rfl]
theorem ng_0 (hF : FV P M mf p m v) : Ng p m 0 = 0 := (Jjo hF ⟨by omega, by
 have := hF.ring.q2; have h : (0 : Int) < ((p ^ m : Nat) : Int) := by exact_mod_cast (by omega : 0 < p ^ m)
 exact h⟩).2 rfl
theorem Qbv (hF : FV P M mf p m v) {S : ES} {k : Nat} (he : Els p m S.X) (hj : S.pv.length < S.X.length) (h1 : ∀ t, t < S.X.length -> vo (row S.X t) k = if t = S.pv.length then 1 else 0) : (es1 p m v k S.pv.length S.pv.length S).X = S.X := by
 rw [Jcb]; have e1 : swq S.X S.pv.length S.pv.length = S.X := by unfold swq; rw [if_pos rfl]
 rw [e1]; have e2 : scq p m v S.X S.pv.length (vo (row S.X S.pv.length) k) = S.X := by
  unfold scq; rw [h1 _ hj, if_pos rfl, Jyh hF, Jxk hF (Qm he _)]; refine QH (by simp) fun i hi => ?_; rw [Qk]; split
  .rename_i h; rw [h.1]
  .rfl
 rw [e2]; refine QH (by rw [Y8]) fun i hi => ?_; rw [Y8] at hi; rw [Zn hi]; split
 .rfl
 .rename_i hne
  rw [h1 i hi, if_neg hne, ng_0 hF, Jmk]
theorem Jl1 (hF : FV P M mf p m v) {q : Nat -> Nat} {w wy : Nat} {Y : List (List Int)} {d : Int} (hq : Cnl w X q) (he : Els p m X) : ∀ k, k <= w -> (elim p m v k ⟨X, Y, [], d⟩).X = X /\ ∃ j, j <= X.length /\ (∀ i, i < j -> q i < k) /\ (∀ i, j <= i -> i < X.length -> k <= q i) /\ (elim p m v k ⟨X, Y, [], d⟩).pv = (List.range j).map fun i => ((q i : Nat) : Int)
 | 0, _ => ⟨rfl, 0, Nat.zero_le _, fun i h => absurd h (Nat.not_lt_zero i), fun i _ _ => Nat.zero_le _, rfl⟩
 | k + 1, hk => by
  obtain ⟨h1, j, hj, h2, h3, h4⟩ := Jl1 hF (Y := Y) (d := d) (wy := wy) hq he k (by omega); rw [QV]; generalize elim p m v k ⟨X, Y, [], d⟩ = S at h1 h4 ⊢; have hl : S.pv.length = j := by rw [h4]; simp
  unfold Ye; rw [hl, h1]; by_cases hjn : j < X.length
  .by_cases hqk : q j = k
   .have hn : nz X k j = j := (Jlv (Nat.le_refl _) hj (fun t a b => by omega) (fun hh => by
     have := hq.one j hh j hh; rw [hqk, if_pos rfl] at this; rw [this]; decide)).symm
    rw [hn, if_pos ⟨hjn, hjn⟩]; have e := Qbv (k := k) hF (S := S) (by rw [h1]; exact he) (by rw [hl, h1]; exact hjn) (fun t ht => by
     rw [h1] at ht ⊢; rw [hl, <- hqk]; exact hq.one j hjn t ht)
    rw [hl] at e; refine ⟨e.trans h1, j + 1, hjn, fun i hi => ?_, fun i a b => ?_, ?_⟩
    .rcases Nat.lt_or_ge i j with h | h
     .have := h2 i h; omega
     .have : i = j := by omega
      subst this; omega
    .have := hq.asc j i (by omega) b; omega
    .show S.pv ++ [(k : Int)] = _; rw [h4, List.range_succ, List.map_append, List.map_cons, List.map_nil, hqk]
   .have hlt : k < q j := by have := h3 j (Nat.le_refl _) hjn; omega
    have hz : ∀ t, j <= t -> t < X.length -> vo (row X t) k = 0 := fun t a b => hq.lf t b k (by
     rcases Nat.lt_or_ge j t with h | h
     .have := hq.asc j t h b; omega
     .have : t = j := by omega
      subst this; exact hlt)
    have hn : ¬ nz X k j < X.length := fun hh => (Jaa X k j hj).2.2 hh (hz _ (Jrj X k j) hh); rw [if_neg (fun hh => hn hh.2)]; refine ⟨h1, j, hj, fun i hi => by have := h2 i hi; omega, fun i a b => ?_, h4⟩; rcases Nat.lt_or_ge j i with h | h
    .have := hq.asc j i h b; omega
    .have : i = j := by omega
     subst this; omega
  .rw [if_neg (fun hh => hjn hh.1)]; exact ⟨h1, j, hj, fun i hi => by have := h2 i hi; omega, fun i a b => by omega, h4⟩
theorem Jru (hF : FV P M mf p m v) (hs : shp C X) (he : Els p m X) {q : Nat -> Nat} (hq : Cnl C.toNat X q) : J7 p m v C X = X /\ Qb p m v C X = (List.range X.length).map fun i => ((q i : Nat) : Int) := by
 obtain ⟨h1, j, hj, h2, h3, h4⟩ := Jl1 (wy := 0) (Y := List.replicate X.length []) (d := 1) hF hq he C.toNat (Nat.le_refl _); have e : j = X.length := by
  rcases Nat.lt_or_ge j X.length with h | h
  .have := h3 j (Nat.le_refl _) h; have := hq.lt j h; omega
  .omega
 subst e; have hP : Qb p m v C X = (List.range X.length).map fun i => ((q i : Nat) : Int) := h4; refine ⟨?_, hP⟩; show (elim p m v C.toNat ⟨X, List.replicate X.length [], [], 1⟩).X.take (elim p m v C.toNat ⟨X, List.replicate X.length [], [], 1⟩).pv.length = X; rw [h1, h4, List.length_map, List.length_range, List.take_length]
theorem Jba (hs : shp C X) {i : Nat} (hi : i < (Qb p m v C X).length) : (((vo (Qb p m v C X) i).toNat : Nat) : Int) = vo (Qb p m v C X) i /\ (vo (Qb p m v C X) i).toNat < C.toNat := by
 have h := (Yw (p := p) (m := m) (v := v) C X).1 i hi; omega
theorem Jg8 (hF : FV P M mf p m v) (hs : shp C X) (he : Els p m X) : Cnl C.toNat (J7 p m v C X) fun i => (vo (Qb p m v C X) i).toNat := by
 have hl := Q5 (p := p) (m := m) (v := v) hs; refine ⟨fun i hi => (Jba hs (by omega)).2, fun i hi t ht => Jdf hF hs he (by omega) (by omega), fun i hi c hc => ?_, fun i j hij hj => ?_⟩
 .exact Jg7 hF hs he (by omega) (by have := (Jba (p := p) (m := m) (v := v) hs (i := i) (by omega)).1; omega)
 .have h := (Yw (p := p) (m := m) (v := v) C X).2 i j hij (by omega); have h1 := (Jba (p := p) (m := m) (v := v) hs (i := i) (by omega)).1; have h2 := (Jba (p := p) (m := m) (v := v) hs (i := j) (by omega)).1; omega
theorem Qb0 (hF : FV P M mf p m v) (hs : shp C X) (he : Els p m X) : J7 p m v C (J7 p m v C X) = J7 p m v C X /\ Qb p m v C (J7 p m v C X) = Qb p m v C X := by
 have h := Jru hF (Yv hs) (YX hF he) (Jg8 hF hs he); refine ⟨h.1, h.2.trans ?_⟩; have hl := Q5 (p := p) (m := m) (v := v) hs; refine List.ext_getElem (by simp [hl]) fun i h1 h2 => ?_; simp only [List.getElem_map, List.getElem_range]; rw [(Jba hs h2).1]; unfold vo; rw [List.getD_eq_getElem?_getD, List.getElem?_eq_getElem h2]; rfl
theorem Jy0 (hF : FV P M mf p m v) (hs : shp C X) (he : Els p m X) : Jm5 C X ↔ J7 p m v C X = X :=
 ⟨fun ⟨q, hq⟩ => (Jru hF hs he hq).1, fun h => ⟨_, by have := Jg8 hF hs he; rwa [h] at this⟩⟩
theorem Cnl.len {w : Nat} {q : Nat -> Nat} (h : Cnl w X q) : X.length <= w := by
  have : ∀ k, k <= X.length -> k = 0 ∨ k <= q (k - 1) + 1 := by
    intro k
    induction k with
    | zero => intro _; exact .inl rfl
    | succ k ih =>
      intro hk
      refine .inr ?_
      rcases ih (by omega) with h0 | h1
      . subst h0; omega
      . rcases Nat.eq_zero_or_pos k with h0 | h0
        . subst h0; omega
        . have := h.asc (k - 1) k (by omega) (by omega)
          rw [Nat.add_sub_cancel]; omega
  rcases this X.length (Nat.le_refl _) with h0 | h1
  . omega
  . rcases Nat.eq_zero_or_pos X.length with h0 | h0
    . omega
    . have := h.lt (X.length - 1) (by omega); omega
end Go.Proofs.YtngdhnijkgjhcaaGreat
namespace Go.Proofs.YtngdhnijkgjhcaaGreat
variable {P M : Int} {mf : List Int} {p m v : Nat} {C : Int} {X Y : List (List Int)} {w : Nat}
def Sb (p m : Nat) (x y : Int) : Int := ((Qf p m (inE (p ^ m) x) (Q4 p m (inE (p ^ m) y)) : Nat) : Int)
def sbx (p m v : Nat) (a : List Int) (x : Int) (o : List Int) : List Int := if x = 0 then a else (List.range a.length).map fun i => if i < o.length then Sb p m (vo a i) (Ml p m v x (vo o i)) else vo a i
theorem ml_z (hF : FV P M mf p m v) {x z : Int} (hz : inE (p ^ m) z = 0 ∨ inE (p ^ m) x = 0) : Ml p m v x z = 0 := by
 have hq : 0 < p ^ m := by have := hF.ring.q2; omega
 unfold Ml; rcases hz with h | h
 .rw [h, hF.ring.M0 (J8 hq _)]; rfl
 .rw [h, hF.ring.Mc hq (J8 hq _), hF.ring.M0 (J8 hq _)]; rfl
theorem inE_0 (hF : FV P M mf p m v) : inE (p ^ m) 0 = 0 := QK (x := 0) (by have := hF.ring.q2; omega)
theorem neg_ml (hF : FV P M mf p m v) {x y : Nat} (hx : x < p ^ m) (hy : y < p ^ m) : Q4 p m (JD p m (dv p v) x y) = JD p m (dv p v) (Q4 p m x) y := by
 have R := hF.ring; have hp : 0 < p := by have := hF.p2; omega
 have hn := YI (m := m) hp x; have h1 : Qf p m (JD p m (dv p v) x y) (JD p m (dv p v) (Q4 p m x) y) = 0 := by
  rw [R.Mc hx hy, R.Mc hn hy, <- R.Md hy hx hn, YU hp hx, R.M0 hy]
 have h2 := YU (m := m) hp (R.Ml x y); have h3 := R.Ml (Q4 p m x) y; have h4 := YI (m := m) hp (JD p m (dv p v) x y); have h5 : Qf p m (Qf p m (JD p m (dv p v) (Q4 p m x) y) (JD p m (dv p v) x y)) (Q4 p m (JD p m (dv p v) x y)) = JD p m (dv p v) (Q4 p m x) y := by
  rw [R.Aa h3 (R.Ml x y) h4, h2, R.Az h3]
 rw [R.Ac (JD p m (dv p v) (Q4 p m x) y), h1, R.Ac, R.Az h4] at h5; exact h5
theorem Jyl (hF : FV P M mf p m v) {x : Nat} (h : x < p ^ m) : inE (p ^ m) ((x : Nat) : Int) = x := QK h
theorem Qaw (hF : FV P M mf p m v) {a o : List Int} {x : Int} (ha : Elr p m a) (hx : El p m x) : sbx p m v a x o = adx p m v a (Ng p m x) o := by
 have R := hF.ring; have hp : 0 < p := by have := hF.p2; omega
 have hq : 0 < p ^ m := by have := R.q2; omega
 unfold sbx; by_cases h : x = 0
 .subst h; rw [if_pos rfl, ng_0 hF, Jmk]
 .rw [if_neg h]; have hn : Ng p m x ≠ 0 := fun e => h ((Jjo hF hx).1 e); unfold adx; rw [if_neg hn]; refine List.ext_getElem (by simp [adm]) fun i h1 h2 => ?_; simp only [List.length_map, List.length_range] at h1; simp only [adm, List.getElem_map, List.getElem_range]; have hai : El p m (vo a i) := Jaj ha h1; by_cases ho : vo o i = 0
  .rw [if_pos ho, ho]; split
   .unfold Sb; rw [ml_z hF (.inl (inE_0 hF)), inE_0 hF]; have : Q4 p m 0 = 0 := by
     have h0 := YU (m := m) hp hq; rw [R.Ac, R.Az (YI hp 0)] at h0; exact h0
    rw [this, R.Az (J8 hq _), Jck hai]
   .rfl
  .have hi : i < o.length := by
    rcases Nat.lt_or_ge i o.length with hh | hh
    .exact hh
    .exact absurd (Jb5 hh) ho
   rw [if_pos hi, if_neg ho]; unfold Sb Ad Ml Ng; rw [Jyl hF (R.Ml _ _), Jyl hF (R.Ml _ _), Jyl hF (YI hp _), neg_ml hF (J8 hq _) (J8 hq _)]
def rsd (p m v : Nat) (Q : Nat -> Nat) (X : List (List Int)) (u : List Int) : Nat -> List Int
  | 0 => u
  | k + 1 => adx p m v (rsd p m v Q X u k) (Ng p m (vo u (Q k))) (row X k)
theorem Jc4 (Q : Nat -> Nat) (u : List Int) : ∀ k, (rsd p m v Q X u k).length = u.length
 | 0 => rfl
 | k + 1 => by rw [rsd, Jdl, Jc4 Q u k]
theorem Ji4 (hp : 0 < p) (Q : Nat -> Nat) {u : List Int} (hu : Elr p m u) : ∀ k, Elr p m (rsd p m v Q X u k)
 | 0 => hu
 | k + 1 => Jry hp (Ji4 hp Q hu k)
theorem Ji3 (hF : FV P M mf p m v) {f : (Nat -> Nat) -> Nat} (L : Lin p m v w f) {Q : Nat -> Nat} {u : List Int} (hu : u.length = w) (hX : Ann p m f X) : ∀ k, k <= X.length -> f (en p m (rsd p m v Q X u k)) = f (en p m u)
 | 0, _ => rfl
 | k + 1, hk => by
  have R := hF.ring; rw [rsd, L.adx hF (by rw [Jc4]; exact hu), hX k (by omega), R.M0 (J8 (by have := R.q2; omega) _), R.Az (L.lt _), Ji3 hF L hu hX k (by omega)]
theorem Qbw (hF : FV P M mf p m v) {l : List Int} (h : Elr p m l) (c : Nat) : El p m (vo l c) := by
 rcases Nat.lt_or_ge c l.length with hc | hc
 .exact Jaj h hc
 .rw [Jb5 hc]; have := hF.ring.q2; exact ⟨by omega, by exact_mod_cast (by omega : 0 < p ^ m)⟩
end Go.Proofs.YtngdhnijkgjhcaaGreat
namespace Go.Proofs.YtngdhnijkgjhcaaGreat
variable {P M : Int} {mf : List Int} {p m v g : Nat} {C : Int} {X Y : List (List Int)} {F : GFv}
theorem Qan {l : List Int} {pf : Int -> (Bool -> Prop) -> Prop} {f : Int -> Bool} {Q : Int -> Prop} (hl : l.length <= 1000000) (hp : ∀ x (R : Bool -> Prop), R (f x) -> pf x R)
  (h1 : ∀ k : Nat, k < l.length -> f (vo l k) = true -> (∀ j, j < k -> f (vo l j) = false) -> Q (k : Int)) (h2 : (∀ j, j < l.length -> f (vo l j) = false) -> Q (-1)) : Y9 l pf Q := by
 refine ⟨fun z => ∃ k : Nat, z = k /\ k <= l.length /\ ∀ j, j < k -> f (vo l j) = false, fun z => (l.length - z).toNat, ⟨0, rfl, Nat.zero_le _, fun j hj => by omega⟩, ?_⟩; rintro _ ⟨k, rfl, hk, hv⟩; dsimp only; refine ⟨fun hlt => ⟨⟨by omega, by omega⟩, hp _ _ ⟨fun hb => h1 k (by omega) hb hv, fun hb => ⟨JB (by omega) (by omega), ⟨k + 1, by push_cast; rfl, by omega, fun j hj => ?_⟩, by omega⟩⟩⟩, fun hge => h2 fun j hj => hv j (by omega)⟩; rcases Nat.lt_or_ge j k with h | h
 .exact hv j h
 .have : j = k := by omega
  subst this; exact hb
theorem Jnd {l : List Int} {Q : Int -> Prop} (hl : l.length <= 1000000)
  (h1 : ∀ k : Nat, k < l.length -> vo l k ≠ 0 -> (∀ j, j < k -> vo l j = 0) -> Q (k : Int)) (h2 : (∀ j, j < l.length -> vo l j = 0) -> Q (-1)) : Y9 l (fun xc Qc => Yk xc Qc) Q :=
 Qan (f := fun x => decide (x ≠ 0)) hl (fun x R hR => hR) (fun k hk hb hv => h1 k hk (of_decide_eq_true hb) fun j hj => Classical.not_not.1 (of_decide_eq_false (hv j hj))) (fun hv => h2 fun j hj => Classical.not_not.1 (of_decide_eq_false (hv j hj)))
theorem Cnl.lead {w : Nat} {q : Nat -> Nat} (h : Cnl w X q) {t k : Nat} (ht : t < X.length) (hk : vo (row X t) k ≠ 0) (hz : ∀ j, j < k -> vo (row X t) j = 0) : q t = k := by
  rcases Nat.lt_trichotomy (q t) k with h1 | h1 | h1
  . have := hz _ h1
    rw [h.one t ht t ht, if_pos rfl] at this; exact absurd this (by decide)
  . exact h1
  . exact absurd (h.lf t ht k h1) hk
theorem Jhn {Q : Bool -> Prop} (hs : shp C X) (h1 : Jm5 C X -> Q true) (h2 : ¬ Jm5 C X -> Q false) : YK C X Q := by
 obtain ⟨hX, hC, hCe⟩ := Q2 hs; have hw : ∀ t, t < X.length -> (row X t).length = C.toNat := fun t ht => Qu hs ht; refine ⟨fun last z => ∃ t : Nat, z = t /\ t <= X.length /\ ∃ q : Nat -> Nat, (∀ i, i < t -> q i < C.toNat /\ (∀ s, s < X.length -> vo (row X s) (q i) = if s = i then 1 else 0) /\ ∀ c, c < q i -> vo (row X i) c = 0) /\ (∀ i j, i < j -> j < t -> q i < q j) /\ (t = 0 -> last = -1) /\ ∀ u, t = u + 1 -> last = (q u : Int), fun _ z => (X.length - z).toNat, ⟨0, rfl, Nat.zero_le _, fun _ => 0, fun i hi => absurd hi (Nat.not_lt_zero i), fun i j _ hj => absurd hj (Nat.not_lt_zero j), fun _ => rfl, fun u hu => by omega⟩, ?_⟩; rintro last _ ⟨t, rfl, ht, q, hq1, hq2, hl0, hl1⟩; dsimp only; refine ⟨fun hlt => ?_, fun hge => ?_⟩
 .have htl : t < X.length := by omega
  have hwt := hw t htl; refine ⟨⟨by omega, by omega⟩, ?_⟩; show Y9 (row X t) _ _; have hlast : ∀ q', Cnl C.toNat X q' -> ∀ u, t = u + 1 -> last = (q' u : Int) := fun q' hq' u hu => by
   have hul : u < X.length := by omega
   have := hq'.lead (t := u) (k := q u) hul (by rw [(hq1 u (by omega)).2.1 u hul, if_pos rfl]; decide) (hq1 u (by omega)).2.2; rw [this]; exact hl1 u hu
  refine Jnd (by omega) (fun k hk hne hz => ?_) (fun hz => ?_)
  .have hkq : ∀ q', Cnl C.toNat X q' -> q' t = k := fun q' hq' => hq'.lead htl hne hz; refine ⟨fun hle => h2 ?_, fun hgt => ?_⟩
   .rintro ⟨q', hq'⟩; rcases Nat.eq_zero_or_pos t with h0 | h0
    .have := hl0 h0; omega
    .have e1 := hlast q' hq' (t - 1) (by omega); have e2 := hq'.asc (t - 1) t (by omega) htl; have e3 := hkq q' hq'; omega
   .refine ⟨⟨by omega, by show (k : Int) < ((row X t).length : Nat); omega⟩, fun hn1 => h2 ?_, fun h1' => ?_⟩
    .rintro ⟨q', hq'⟩; have := hq'.one t htl t htl; rw [hkq q' hq', if_pos rfl] at this; exact hn1 this
    .have hone : vo (row X t) k = 1 := Classical.not_not.1 h1'; refine ⟨fun z => ∃ u : Nat, z = u /\ u <= X.length /\ ∀ j, j < u -> j ≠ t -> vo (row X j) k = 0, fun z => (X.length - z).toNat, ⟨0, rfl, Nat.zero_le _, fun j hj => absurd hj (Nat.not_lt_zero j)⟩, ?_⟩; rintro _ ⟨u, rfl, hu, hju⟩; dsimp only; refine ⟨fun hlt2 => ?_, fun hge2 => ?_⟩
     .have hul : u < X.length := by omega
      have hwu := hw u hul; refine ⟨fun _ => u = t ∨ vo (row X u) k = 0, ⟨⟨by omega, by omega⟩, fun hne2 => ⟨⟨by omega, by show (k : Int) < ((row X u).length : Nat); omega⟩, fun hnz => h2 ?_, fun hz2 => .inr (Classical.not_not.1 hz2)⟩, fun he => .inl (by have := Classical.not_not.1 he; omega)⟩, ?_⟩
      .rintro ⟨q', hq'⟩; have := hq'.one t htl u hul; rw [hkq q' hq', if_neg (by omega)] at this; exact hnz this
      .intro b hb; refine ⟨JB (by omega) (by omega), ⟨u + 1, by push_cast; rfl, by omega, fun j hj hne2 => ?_⟩, by omega⟩; rcases Nat.lt_or_ge j u with h | h
       .exact hju j h hne2
       .have : j = u := by omega
        subst this; exact hb.resolve_left hne2
     .obtain ⟨q2, e1, e2⟩ : ∃ q2 : Nat -> Nat, q2 t = k /\ ∀ i, i ≠ t -> q2 i = q i := ⟨fun i => if i = t then k else q i, if_pos rfl, fun i h => if_neg h⟩
      refine ⟨JB (by omega) (by omega), ⟨t + 1, by push_cast; rfl, by omega, q2, fun i hi => ?_, fun i j hij hj => ?_, fun h0 => by omega, fun u hu => ?_⟩, by omega⟩
      .by_cases hit : i = t
       .subst hit; rw [e1]; refine ⟨by omega, fun s hs' => ?_, fun c hc => hz c hc⟩; by_cases hsi : s = i
        .subst hsi; rw [if_pos rfl]; exact hone
        .rw [if_neg hsi]; exact hju s (by omega) hsi
       .rw [e2 i hit]; exact hq1 i (by omega)
      .have hit : i ≠ t := by omega
       rw [e2 i hit]; by_cases hjt : j = t
       .subst hjt; rw [e1]; have hlu := hl1 (j - 1) (by omega); have : q i <= q (j - 1) := by
         rcases Nat.lt_or_ge i (j - 1) with h | h
         .exact Nat.le_of_lt (hq2 i (j - 1) h (by omega))
         .have : i = j - 1 := by omega
          rw [this]; exact Nat.le_refl _
        omega
       .rw [e2 j hjt]; exact hq2 i j hij (by omega)
      .have : u = t := by omega
       subst this; rw [e1]
  .have hge : (-1 : Int) <= last := by
    rcases Nat.eq_zero_or_pos t with h0 | h0
    .rw [hl0 h0]; exact Int.le_refl _
    .have := hl1 (t - 1) (by omega); omega
   refine ⟨fun _ => h2 ?_, fun hgt => absurd hge hgt⟩; rintro ⟨q', hq'⟩; have := hq'.one t htl t htl; rw [hz (q' t) (by have := hq'.lt t htl; omega), if_pos rfl] at this; exact absurd this (by decide)
 .have : t = X.length := by omega
  subst this; exact h1 ⟨q, fun i hi => (hq1 i hi).1, fun i hi t ht => (hq1 i hi).2.1 t ht, fun i hi => (hq1 i hi).2.2, hq2⟩
open Classical in
noncomputable def sck (P M : Int) (mf : List Int) (C : Int) (X : List (List Int)) : Int := if mck P M mf C X ≠ 0 then mck P M mf C X else if Jm5 C X then 0 else 5
theorem Jns (h : mck P M mf C X ≠ 0) : sck P M mf C X = mck P M mf C X := if_pos h
theorem Jnt (h : mck P M mf C X = 0) (h2 : ¬ Jm5 C X) : sck P M mf C X = 5 := by unfold sck; rw [if_neg (fun hh => hh h), if_neg h2]
theorem Jnr (h : mck P M mf C X = 0) (h2 : Jm5 C X) : sck P M mf C X = 0 := by unfold sck; rw [if_neg (fun hh => hh h), if_pos h2]
theorem Jxj (h : sck P M mf C X = 0) : mck P M mf C X = 0 /\ Jm5 C X := by
 by_cases h1 : mck P M mf C X = 0
 .by_cases h2 : Jm5 C X
  .exact ⟨h1, h2⟩
  .rw [Jnt h1 h2] at h; exact absurd h (by decide)
 .rw [Jns h1] at h; exact absurd h h1
theorem YQ {Q : Int -> Prop} (h : Q (sck P M mf C X)) : QS P M mf C X Q := by
 refine Jkq ⟨fun hne => by rw [Jns hne] at h; exact h, fun he => ?_⟩; have h0 : mck P M mf C X = 0 := Classical.not_not.1 he; obtain ⟨hV, hs, hE⟩ := ZK h0; refine Jhn hs (fun hc => ?_) (fun hc => ?_)
 .rw [Jnr h0 hc] at h; exact ⟨fun hb => (by cases hb), fun _ => h⟩
 .rw [Jnt h0 hc] at h; exact ⟨fun _ => h, fun hb => by cases hb⟩
theorem Y4 {a b : List Int} {Q : Bool -> Prop} (ha : a.length <= 1000000) (h1 : a = b -> Q true) (h2 : a ≠ b -> Q false) : Q7 a b Q := by
 refine ⟨fun hne => h2 fun e => hne (by rw [e]), fun he => ?_⟩; have hl : a.length = b.length := by have := Classical.not_not.1 he; omega
 refine ⟨fun z => ∃ t : Nat, z = t /\ t <= a.length /\ ∀ j, j < t -> vo a j = vo b j, fun z => (a.length - z).toNat, ⟨0, rfl, Nat.zero_le _, fun j hj => absurd hj (Nat.not_lt_zero j)⟩, ?_⟩; rintro _ ⟨t, rfl, ht, hj⟩; dsimp only; refine ⟨fun hlt => ⟨⟨by omega, by omega⟩, ⟨by omega, by omega⟩, fun hne => h2 fun e => hne (by rw [e]), fun heq => ⟨JB (by omega) (by omega), ⟨t + 1, by push_cast; rfl, by omega, fun j hj' => ?_⟩, by omega⟩⟩, fun hge => h1 ?_⟩
 .rcases Nat.lt_or_ge j t with h | h
  .exact hj j h
  .have : j = t := by omega
   subst this; exact Classical.not_not.1 heq
 .refine List.ext_getElem hl fun i i1 i2 => ?_; have := hj i (by omega); unfold vo at this
  rwa [List.getD_eq_getElem?_getD, List.getElem?_eq_getElem i1, List.getD_eq_getElem?_getD, List.getElem?_eq_getElem i2] at this
theorem Yo {X Y : List (List Int)} {Q : Bool -> Prop} (hX : X.length <= 1000000) (hr : ∀ t, t < X.length -> (row X t).length <= 1000000) (h1 : X = Y -> Q true) (h2 : X ≠ Y -> Q false) : QC X Y Q := by
 refine ⟨fun hne => h2 fun e => hne (by rw [e]), fun he => ?_⟩; have hl : X.length = Y.length := by have := Classical.not_not.1 he; omega
 refine ⟨fun z => ∃ t : Nat, z = t /\ t <= X.length /\ ∀ j, j < t -> row X j = row Y j, fun z => (X.length - z).toNat, ⟨0, rfl, Nat.zero_le _, fun j hj => absurd hj (Nat.not_lt_zero j)⟩, ?_⟩; rintro _ ⟨t, rfl, ht, hj⟩; dsimp only; refine ⟨fun hlt => ⟨⟨by omega, by omega⟩, ⟨by omega, by omega⟩, ?_⟩, fun hge => h1 (QH hl fun i hi => hj i (by omega))⟩; have htl : t < X.length := by omega
 by_cases e : row X t = row Y t
 .refine ⟨true, Y4 (hr t htl) (fun _ => rfl) (fun hne => absurd e hne), fun hb => (by cases hb), fun _ => ⟨JB (by omega) (by omega), ⟨t + 1, by push_cast; rfl, by omega, fun j hj' => ?_⟩, by omega⟩⟩; rcases Nat.lt_or_ge j t with h | h
  .exact hj j h
  .have : j = t := by omega
   subst this; exact e
 .exact ⟨false, Y4 (hr t htl) (fun e' => absurd e' e) (fun _ => rfl), fun _ => h2 fun e' => e (by rw [e']), fun hb => (by cases hb)⟩
theorem ZD {Q : Int -> Prop} (h : Q (sck P M mf C X)) : Yc P M mf C X Q := by
 refine Jsl ⟨fun hne => by rw [Jns hne] at h; exact h, fun he => ?_⟩; have h0 : mck P M mf C X = 0 := Classical.not_not.1 he; obtain ⟨hV, hs, hE⟩ := ZK h0; obtain ⟨p', m', v', hF, hE'⟩ := hE; refine Jcw hF hs hE' ?_; have hcl := Yv (p := p') (m := m') (v := v') hs; refine Yo (by have := Yp hcl; omega) (fun t ht => by have := Qu hcl ht; have := Q2 hs; omega) (fun e => ?_) (fun e => ?_)
 .rw [Jnr h0 ((Jy0 hF hs hE').2 e)] at h; exact ⟨fun hb => (by cases hb), fun _ => h⟩
 .rw [Jnt h0 (fun hc => e ((Jy0 hF hs hE').1 hc))] at h; exact ⟨fun _ => h, fun hb => by cases hb⟩
end Go.Proofs.YtngdhnijkgjhcaaGreat
namespace Go.Proofs.YtngdhnijkgjhcaaGreat
variable {P M : Int} {mf : List Int} {p m v g : Nat} {C : Int} {X Y : List (List Int)} {F : GFv}
def pvl (q : Nat -> Nat) (n : Nat) : List Int := (List.range n).map fun i => ((q i : Nat) : Int)
theorem Y5 (q : Nat -> Nat) (n : Nat) : (pvl q n).length = n := by simp [pvl]
theorem Jiw {q : Nat -> Nat} {n i : Nat} (h : i < n) : vo (pvl q n) i = (q i : Int) := Jf5 h
theorem Jkp {q : Nat -> Nat} {Q : List Int -> Prop} (hs : shp C X) (hq : Cnl C.toNat X q) (h : Q (pvl q X.length)) : ZQ C X Q := by
 obtain ⟨hX, hC, hCe⟩ := Q2 hs; refine ⟨⟨by omega, by omega, by omega⟩, fun x z => ∃ t : Nat, z = t /\ t <= X.length /\ x.length = X.length /\ ∀ j, j < t -> vo x j = (q j : Int), fun _ z => (X.length - z).toNat, ⟨0, rfl, Nat.zero_le _, by simp, fun j hj => absurd hj (Nat.not_lt_zero j)⟩, ?_⟩; rintro x _ ⟨t, rfl, ht, hx, hj⟩; dsimp only; refine ⟨fun hlt => ?_, fun hge => ?_⟩
 .have htl : t < X.length := by omega
  refine ⟨⟨by omega, by omega⟩, ?_⟩; show Y9 (row X t) _ _; refine Jnd (by have := Qu hs htl; omega) (fun k hk hne hz => ?_) (fun hz => ?_)
  .have e := hq.lead htl hne hz; refine ⟨⟨by omega, by omega⟩, JB (by omega) (by omega), ⟨t + 1, by push_cast; rfl, by omega, by rw [Qv, List.length_set]; exact hx, fun j hj' => ?_⟩, by omega⟩; rw [Qv, Qi]; by_cases e2 : t = j
   .subst e2; rw [if_pos ⟨rfl, by omega⟩, e]
   .rw [if_neg (fun hh => e2 hh.1)]; exact hj j (by omega)
  .have h1 := hq.one t htl t htl; rw [hz (q t) (by have := hq.lt t htl; have := Qu hs htl; omega), if_pos rfl] at h1; exact absurd h1 (by decide)
 .have : x = pvl q X.length := QZ (by rw [hx, Y5]) fun i hi => by rw [hj i (by omega), Jiw (by omega)]
  rw [this]; exact h
theorem w_Sub {x y : Int} {Q : Int -> Prop} (K : GFk F p m v g) (h : Q (Sb p m x y)) : Jsi F x y Q := by
 refine Jqx K (v_Add K ?_); rw [QK (YI (by have := K.fv.p2; omega) _)]; exact h
theorem Jww {a o : List Int} {x : Int} {k : Nat} (h0 : x ≠ 0) (hk : k < a.length) : vo (sbx p m v a x o) k = if k < o.length then Sb p m (vo a k) (Ml p m v x (vo o k)) else vo a k := by
 unfold sbx; rw [if_neg h0, Jf5 hk]
theorem Qav (a o : List Int) (x : Int) : (sbx p m v a x o).length = a.length := by
 unfold sbx; split
 .rfl
 .simp
theorem Jm9 {a o : List Int} {x : Int} {Q : List Int -> Prop} (K : GFk F p m v g) (hl : o.length <= a.length) (ha : a.length <= 1000000) (h : Q (sbx p m v a x o)) : Jaq F a x o Q := by
 refine ⟨fun h0 => by unfold sbx at h; rwa [if_pos h0] at h, fun h0 => ?_⟩; refine ⟨fun y z => ∃ t : Nat, z = t /\ t <= o.length /\ y.length = a.length /\ ∀ k, k < a.length -> vo y k = if k < t then vo (sbx p m v a x o) k else vo a k, fun y z => (o.length - z).toNat, ⟨0, rfl, Nat.zero_le _, rfl, fun k hk => by simp⟩, ?_⟩; rintro y _ ⟨t, rfl, ht, hy, hk⟩; dsimp only; rw [JW, JW]; refine ⟨fun hlt => ⟨⟨by omega, by omega⟩, ⟨by omega, by omega⟩, _, Jkx K rfl, _, w_Sub K rfl, ⟨by omega, by omega⟩, JB (by omega) (by omega), ⟨t + 1, by push_cast; rfl, by omega, by rw [Qv, List.length_set]; exact hy, fun k hk' => ?_⟩, by omega⟩, fun hge => ?_⟩
 .rw [Qv, Qi]; by_cases e : t = k
  .subst e; rw [if_pos ⟨rfl, by omega⟩, if_pos (by omega), Jww h0 hk', if_pos (by omega), hk t hk', if_neg (by omega)]; rfl
  .rw [if_neg (fun h => e h.1), hk k hk']; by_cases hkt : k < t
   .rw [if_pos hkt, if_pos (by omega)]
   .rw [if_neg hkt, if_neg (by omega)]
 .have : y = sbx p m v a x o := QZ (by rw [hy, Qav]) fun k hk' => by
   rw [hk k (by omega)]; split
   .rfl
   .rw [Jww h0 (by omega), if_neg (by omega)]
  rw [this]; exact h
theorem Jcv {l : List (List Int)} {q : Nat -> Nat} {Q : List (List Int) -> Prop} (hF : FV P M mf p m v) (hs : shp C X) (hq : Cnl C.toNat X q) (hl : l.length <= 1000) (hw : ∀ t, t < l.length -> (row l t).length = C.toNat) (hE : Els p m l)
  (h : Q (l.map fun u => rsd p m v q X u X.length)) : YA P M mf C X l Q := by
 obtain ⟨hX, hC, hCe⟩ := Q2 hs; refine v_New (fun hV => absurd ⟨p, m, v, hF⟩ hV) fun F p' m' v' g' K e1 e2 e3 => ?_; have hF' : FV P M mf p' m' v' := by rw [<- e1, <- e2, <- e3]; exact K.fv
 obtain ⟨rfl, rfl, rfl⟩ := hF.uniq3 hF'; have hp : 0 < p := by have := hF.p2; omega
 refine Jkp hs hq ?_; refine ⟨⟨by omega, by omega, by omega⟩, fun x z => ∃ t : Nat, z = t /\ t <= l.length /\ x.length = l.length /\ ∀ j, j < t -> row x j = rsd p m v q X (row l j) X.length, fun _ z => (l.length - z).toNat, ⟨0, rfl, Nat.zero_le _, by simp, fun j hj => absurd hj (Nat.not_lt_zero j)⟩, ?_⟩; rintro x _ ⟨t, rfl, ht, hx, hj⟩; dsimp only; refine ⟨fun hlt => ?_, fun hge => ?_⟩
 .have htl : t < l.length := by omega
  have hwt := hw t htl; have hgl : gl l (t : Int) = row l t := rfl; rw [hgl]; refine ⟨⟨by omega, by omega⟩, Jcz (by omega) ⟨⟨by omega, by omega⟩, ?_⟩⟩; refine ⟨fun y z => ∃ s : Nat, z = s /\ s <= X.length /\ y.length = l.length /\ row y t = rsd p m v q X (row l t) s /\ ∀ j, j < t -> row y j = row x j, fun _ z => (X.length - z).toNat, ⟨0, rfl, Nat.zero_le _, by rw [Zm]; exact hx, ?_, fun j hj' => ?_⟩, ?_⟩
  .show row (x.set t (row l t)) t = _; rw [Qk, if_pos ⟨rfl, by omega⟩]; rfl
  .show row (x.set t (row l t)) j = _; rw [Qk, if_neg (fun hh => by omega)]
  rintro y _ ⟨s, rfl, hsx, hy, hyt, hyj⟩; dsimp only; refine ⟨fun hlt2 => ?_, fun hge2 => ?_⟩
  .have hsl : s < X.length := by rw [Y5] at hlt2; omega
   have e : gi (pvl q X.length) (s : Int) = (q s : Int) := Jiw hsl; have hqs := hq.lt s hsl; rw [e]; refine ⟨⟨by omega, by rw [Y5]; omega⟩, ⟨by omega, by omega⟩, ⟨by omega, by omega⟩, ⟨by omega, by omega⟩, ?_⟩; have e4 : gi (row l t) (q s : Int) = vo (row l t) (q s) := rfl; have e5 : gl X (s : Int) = row X s := rfl; have e6 : gl y (t : Int) = row y t := rfl; rw [e4, e5, e6]; have hrow : (row X s).length = C.toNat := Qu hs hsl; have hyl : (row y t).length = C.toNat := by rw [hyt, Jc4]; exact hwt
   have hyE : Elr p m (row y t) := by rw [hyt]; exact Ji4 hp q (Qm hE t) s
   refine Jm9 K (by omega) (by omega) ?_; have hx1 : El p m (vo (row l t) (q s)) := Jaj (Qm hE t) (by omega); rw [Qaw hF hyE hx1, hyt]; refine ⟨JB (by omega) (by omega), ⟨s + 1, by push_cast; rfl, by omega, by rw [Zm]; exact hy, ?_, fun j hj' => ?_⟩, by rw [Y5] at hlt2; omega⟩
   .show row (y.set t _) t = _; rw [Qk, if_pos ⟨rfl, by omega⟩]; rfl
   .show row (y.set t _) j = _; rw [Qk, if_neg (fun hh => by omega)]; exact hyj j hj'
  .rw [Y5] at hge2; have hsx' : s = X.length := by omega
   subst hsx'; refine ⟨JB (by omega) (by omega), ⟨t + 1, by push_cast; rfl, by omega, hy, fun j hj' => ?_⟩, by omega⟩; by_cases e : j = t
   .subst e; exact hyt
   .rw [hyj j (by omega)]; exact hj j (by omega)
 .have : x = l.map fun u => rsd p m v q X u X.length := QH (by simp [hx]) fun i hi => by
   rw [hj i (by omega)]; unfold row; rw [List.getD_eq_getElem?_getD, List.getD_eq_getElem?_getD, List.getElem?_map, List.getElem?_eq_getElem (by omega : i < l.length)]; rfl
  rw [this]; exact h
def zr (u : List Int) : Prop := ∀ c, c < u.length -> vo u c = 0
theorem Jh4 {l : List (List Int)} {Q : Bool -> Prop} (hl : l.length <= 1000000) (hw : ∀ t, t < l.length -> (row l t).length <= 1000000) (h1 : (∀ t, t < l.length -> zr (row l t)) -> Q true) (h2 : (¬ ∀ t, t < l.length -> zr (row l t)) -> Q false) : ZV l Q := by
 refine ⟨fun z => ∃ t : Nat, z = t /\ t <= l.length /\ ∀ j, j < t -> zr (row l j), fun z => (l.length - z).toNat, ⟨0, rfl, Nat.zero_le _, fun j hj => absurd hj (Nat.not_lt_zero j)⟩, ?_⟩; rintro _ ⟨t, rfl, ht, hj⟩; dsimp only; refine ⟨fun hlt => ⟨⟨by omega, by omega⟩, ?_⟩, fun hge => h1 fun j hj' => hj j (by omega)⟩; have htl : t < l.length := by omega
 show Q8 (row l t) _ _; refine Jnd (hw t htl) (fun k hk hne _ => ⟨fun _ => h2 fun hz => hne (hz t htl k hk), fun hb => ?_⟩) (fun hz => ⟨fun hb => absurd (of_decide_eq_true hb) (by decide), fun _ => ⟨JB (by omega) (by omega), ⟨t + 1, by push_cast; rfl, by omega, fun j hj' => ?_⟩, by omega⟩⟩)
 .have := of_decide_eq_false hb; omega
 .rcases Nat.lt_or_ge j t with h | h
  .exact hj j h
  .rw [show j = t by omega]; exact hz
end Go.Proofs.YtngdhnijkgjhcaaGreat
namespace Go.Proofs.YtngdhnijkgjhcaaGreat
variable {P M : Int} {mf : List Int} {p m v g : Nat} {C Ca Cb : Int} {X Y a b : List (List Int)} {F : GFv}
noncomputable def prk (P M : Int) (mf : List Int) (Ca : Int) (a : List (List Int)) (Cb : Int) (b : List (List Int)) : Int := if sck P M mf Ca a ≠ 0 then sck P M mf Ca a else if sck P M mf Cb b ≠ 0 then sck P M mf Cb b else if Ca ≠ Cb then 10 else 0
theorem Jxv (h : prk P M mf Ca a Cb b = 0) : sck P M mf Ca a = 0 /\ sck P M mf Cb b = 0 /\ Ca = Cb := by
 unfold prk at h; split at h
 .rename_i h1; exact absurd h h1
 rename_i h1
 split at h
 .rename_i h2; exact absurd h h2
 rename_i h2
 split at h
 .exact absurd h (by decide)
 rename_i h3
 exact ⟨Classical.not_not.1 h1, Classical.not_not.1 h2, Classical.not_not.1 h3⟩
theorem YR {Q : Int -> Prop} (h : Q (prk P M mf Ca a Cb b)) : Yl P M mf Ca a Cb b Q := by
 unfold prk at h; refine YQ ⟨fun h1 => by rwa [if_pos h1] at h, fun h1 => YQ ⟨fun h2 => by rwa [if_neg h1, if_pos h2] at h, fun h2 => ⟨fun h3 => by rwa [if_neg h1, if_neg h2, if_pos h3] at h, fun h3 => by rwa [if_neg h1, if_neg h2, if_neg h3] at h⟩⟩⟩
theorem Jfc {Q : Int -> Prop} (h : Q (prk P M mf Ca a Cb b)) : Jdo P M mf Ca a Cb b Q := by
 unfold prk at h; refine ZD ⟨fun e => e = (if sck P M mf Ca a ≠ 0 then sck P M mf Ca a else sck P M mf Cb b), ⟨fun h1 => ZD (by rw [if_neg (fun hh => hh h1)]), fun h1 => by rw [if_pos h1]⟩, ?_⟩; rintro e rfl; by_cases h1 : sck P M mf Ca a = 0
 .rw [if_neg (fun hh => hh h1)] at h ⊢; refine ⟨fun h2 => ⟨fun h3 => ?_, fun h3 => ?_⟩, fun h2 => ?_⟩
  .rwa [if_neg (fun hh => hh h2), if_pos h3] at h
  .rw [if_neg (fun hh => hh h2), if_neg h3] at h; rw [h2]; exact h
  .rwa [if_pos h2] at h
 .rw [if_pos h1] at h ⊢; exact ⟨fun h2 => absurd h2 h1, fun _ => h⟩
structure Sg (P M : Int) (mf : List Int) (p m v : Nat) (C : Int) (X : List (List Int)) (q : Nat -> Nat) : Prop where
  f : FV P M mf p m v
  s : shp C X
  e : Els p m X
  q : Cnl C.toNat X q
theorem Ji2 (h : sck P M mf C X = 0) : ∃ p m v q, Sg P M mf p m v C X q := by
 obtain ⟨h0, q, hq⟩ := Jxj h; obtain ⟨hV, hs, p, m, v, hF, hE⟩ := ZK h0; exact ⟨p, m, v, q, hF, hs, hE, hq⟩
theorem Qa2 (h : prk P M mf Ca a Cb b = 0) : ∃ p m v q r, Sg P M mf p m v Ca a q /\ Sg P M mf p m v Cb b r /\ Ca = Cb := by
 obtain ⟨h1, h2, h3⟩ := Jxv h; obtain ⟨p, m, v, q, G1⟩ := Ji2 h1; obtain ⟨p', m', v', r, G2⟩ := Ji2 h2; obtain ⟨rfl, rfl, rfl⟩ := G1.f.uniq3 G2.f; exact ⟨p, m, v, q, r, G1, G2, h3⟩
theorem Sg.mk0 {q : Nat -> Nat} (G : Sg P M mf p m v C X q) : mck P M mf C X = 0 := Jcj ⟨p, m, v, G.f⟩ G.s ((QN G.f).2 G.e)
theorem Sg.sck {q : Nat -> Nat} (G : Sg P M mf p m v C X q) : sck P M mf C X = 0 := Jnr G.mk0 ⟨q, G.q⟩
def rdl (p m v : Nat) (q : Nat -> Nat) (X l : List (List Int)) : List (List Int) := l.map fun u => rsd p m v q X u X.length
theorem Jc6 (q : Nat -> Nat) (X l : List (List Int)) : (rdl p m v q X l).length = l.length := by simp [rdl]
theorem Jbk {q : Nat -> Nat} {X l : List (List Int)} {t : Nat} (h : t < l.length) : row (rdl p m v q X l) t = rsd p m v q X (row l t) X.length := by
 unfold rdl row; rw [List.getD_eq_getElem?_getD, List.getD_eq_getElem?_getD, List.getElem?_map, List.getElem?_eq_getElem h]; rfl
theorem Ji1 {l : List (List Int)} (hC : 0 <= C /\ C <= 256) (hl : l.length <= 256) (hw : ∀ t, t < l.length -> (row l t).length = C.toNat) : shp C l := by
 unfold shp; refine ⟨hC.1, hC.2, by omega, fun r hr => ?_⟩; obtain ⟨t, ht, rfl⟩ := Jac hr; have := hw t ht; omega
theorem Jb7 (hs : shp C X) : 0 <= C /\ C <= 256 := by have := Q2 hs; omega
theorem Jfl {q : Nat -> Nat} {l : List (List Int)} (hs : shp C l) : shp C (rdl p m v q X l) :=
 Ji1 (Jb7 hs) (by rw [Jc6]; exact Yp hs) fun t ht => by rw [Jc6] at ht; rw [Jbk ht, Jc4]; exact Qu hs ht
theorem Ji8 (hF : FV P M mf p m v) {q : Nat -> Nat} {l : List (List Int)} (he : Els p m l) : Els p m (rdl p m v q X l) := Jai fun t ht => by
 rw [Jc6] at ht; rw [Jbk ht]; exact Ji4 (by have := hF.p2; omega) q (Qm he t) _
def ain (p m v : Nat) (q : Nat -> Nat) (X l : List (List Int)) : Prop := ∀ t, t < l.length -> zr (rsd p m v q X (row l t) X.length)
theorem Jrx {q : Nat -> Nat} {X l : List (List Int)} : (∀ t, t < (rdl p m v q X l).length -> zr (row (rdl p m v q X l) t)) ↔ ain p m v q X l := by
 unfold ain; rw [Jc6]; exact ⟨fun h t ht => by have := h t ht; rwa [Jbk ht] at this, fun h t ht => by rw [Jbk ht]; exact h t ht⟩
theorem Jgi {q r : Nat -> Nat} (G : Sg P M mf p m v Ca a q) (H : Sg P M mf p m v Cb b r) (e : Ca = Cb) : prk P M mf Ca a Cb b = 0 := by
 unfold prk; rw [if_neg (fun hh => hh G.sck), if_neg (fun hh => hh H.sck), if_neg (fun hh => hh e)]
theorem Jku {q r : Nat -> Nat} {Q : Bool × Int -> Prop} (G : Sg P M mf p m v C a q) (H : Sg P M mf p m v C b r) (h1 : ain p m v r b a -> Q (true, 0)) (h2 : ¬ ain p m v r b a -> Q (false, 0)) : Jbf P M mf C a C b Q := by
 refine YR ?_; rw [Jgi G H rfl]; refine ⟨fun hh => absurd rfl hh, fun _ => Jcv H.f H.s H.q (by have := Yp G.s; omega) (fun t ht => Qu G.s ht) G.e ?_⟩; have hsh := Jfl (p := p) (m := m) (v := v) (q := r) (X := b) G.s; exact Jh4 (l := rdl p m v r b a) (by have := Yp hsh; omega) (fun t ht => by have := Qu hsh ht; have := Q2 hsh; omega) (fun hz => h1 (Jrx.1 hz)) (fun hz => h2 fun hh => hz (Jrx.2 hh))
theorem Jna {l : List (List Int)} {Q : Int × List (List Int) × Int -> Prop} (hF : FV P M mf p m v) (hs : shp C l) (he : Els p m l) (h : Q (C, J7 p m v C l, 0)) : Jet P M mf C l Q := by
 have h0 : mck P M mf C l = 0 := Jcj ⟨p, m, v, hF⟩ hs ((QN hF).2 he); refine Jkv (fun hh => absurd h0 hh) fun p' m' v' hF' _ _ _ => ?_; obtain ⟨rfl, rfl, rfl⟩ := hF.uniq3 hF'; exact h
theorem Jnf {q r : Nat -> Nat} {Q : Int × List (List Int) × Int -> Prop} (G : Sg P M mf p m v C a q) (H : Sg P M mf p m v C b r) (h1 : ain p m v r b a -> Q (C, J7 p m v C (rdl p m v q a b), 0)) (h2 : ¬ ain p m v r b a -> Q (0, [], 11)) : Jax P M mf C a C b Q := by
 refine Jku G H (fun hin => ⟨fun hh => absurd rfl hh, fun _ => ⟨fun hb => (by cases hb), fun _ => ?_⟩⟩) (fun hin => ⟨fun hh => absurd rfl hh, fun _ => ⟨fun _ => h2 hin, fun hb => by cases hb⟩⟩); exact ⟨rdl p m v q a b, Jcv G.f G.s G.q (by have := Yp H.s; omega) (fun t ht => Qu H.s ht) H.e rfl, _, _, _, Jna G.f (Jfl H.s) (Ji8 G.f H.e) rfl, h1 hin⟩
theorem w_few {Q : Bool -> Prop} (h1 : Ca <= 20 -> Cb <= 20 -> a.length <= 150 -> b.length <= 150 -> Q true) (h2 : Q false) : Jsh Ca a Cb b Q := by
 refine ⟨fun hA => ⟨fun hB => Jwl (by omega) (fun _ ha _ => ⟨fun _ => Jwl (by omega) (fun _ hb _ => h1 hA hB (by omega) (by omega)) h2, fun hb => (by cases hb)⟩) ⟨fun hb => (by cases hb), fun _ => h2⟩, fun _ => h2⟩, fun _ => h2⟩
end Go.Proofs.YtngdhnijkgjhcaaGreat
namespace Go.Proofs.YtngdhnijkgjhcaaGreat
variable {P M : Int} {mf : List Int} {p m v g w : Nat} {C Ca Cb : Int} {X Y a b : List (List Int)}
theorem Jfk (A B : List (List Int)) (t : Nat) : row (A ++ B) t = if t < A.length then row A t else row B (t - A.length) := by
 unfold row; rw [List.getD_eq_getElem?_getD, List.getElem?_append]; split <;> rw [List.getD_eq_getElem?_getD]
theorem Jrw {f : (Nat -> Nat) -> Nat} {A B : List (List Int)} : Ann p m f (A ++ B) ↔ Ann p m f A /\ Ann p m f B := by
 unfold Ann; rw [List.length_append]; refine ⟨fun h => ⟨fun t ht => ?_, fun t ht => ?_⟩, fun h t ht => ?_⟩
 .have := h t (by omega); rwa [Jfk, if_pos ht] at this
 .have := h (A.length + t) (by omega); rwa [Jfk, if_neg (by omega), Nat.add_sub_cancel_left] at this
 .rw [Jfk]; split
  .rename_i hh; exact h.1 t hh
  .exact h.2 _ (by omega)
theorem Zr {A B : List (List Int)} (hA : shp C A) (hB : shp C B) (h : A.length + B.length <= 256) : shp C (A ++ B) :=
 Ji1 (Jb7 hA) (by rw [List.length_append]; exact h) fun t ht => by
  rw [List.length_append] at ht; rw [Jfk]; split
  .exact Qu hA (by assumption)
  .exact Qu hB (by omega)
theorem Jam {A B : List (List Int)} (hA : Els p m A) (hB : Els p m B) : Els p m (A ++ B) := fun r hr => by
 rcases List.mem_append.1 hr with h | h
 .exact hA r h
 .exact hB r h
theorem Jrv (hF : FV P M mf p m v) {f : (Nat -> Nat) -> Nat} (L : Lin p m v w f) {q : Nat -> Nat} {l : List (List Int)} (hw : ∀ t, t < l.length -> (row l t).length = w) (hX : Ann p m f X) : Ann p m f (rdl p m v q X l) ↔ Ann p m f l := by
 unfold Ann; rw [Jc6]; refine ⟨fun h t ht => ?_, fun h t ht => ?_⟩
 .have := h t ht; rwa [Jbk ht, Ji3 hF L (hw t ht) hX X.length (Nat.le_refl _)] at this
 .rw [Jbk ht, Ji3 hF L (hw t ht) hX X.length (Nat.le_refl _)]; exact h t ht
theorem Jy4 (hF : FV P M mf p m v) (hs : shp C X) (he : Els p m X) : (J7 p m v C X).length <= C.toNat := (Jg8 hF hs he).len
theorem sum_eq (hF : FV P M mf p m v) {q : Nat -> Nat} (ha : shp C a) (ea : Els p m a) (hb : shp C b) (eb : Els p m b) (hl : a.length + C.toNat <= 256) (hl2 : a.length + b.length <= 256) :
  J7 p m v C (a ++ J7 p m v C (rdl p m v q a b)) = J7 p m v C (a ++ b) := by
 have h1 := Jfl (p := p) (m := m) (v := v) (q := q) (X := a) hb; have h2 := Ji8 (X := a) (q := q) hF eb; have h3 := Jy4 hF h1 h2; refine (Jy3 hF (Zr ha (Yv h1) (by omega)) (Jam ea (YX hF h2)) (Zr ha hb hl2) (Jam ea eb) fun f L => ?_).2; rw [Jrw, Jrw, Jdk hF h1 h2 L]; exact ⟨fun ⟨u1, u2⟩ => ⟨u1, (Jrv hF L (fun t ht => Qu hb ht) u1).1 u2⟩, fun ⟨u1, u2⟩ => ⟨u1, (Jrv hF L (fun t ht => Qu hb ht) u1).2 u2⟩⟩
theorem w_sum {q : Nat -> Nat} {Q : Int × List (List Int) × Int -> Prop} (G : Sg P M mf p m v C a q) (hb : shp C b) (eb : Els p m b) (hl : a.length + C.toNat <= 256) (hl2 : a.length + b.length <= 256) (h : Q (C, J7 p m v C (a ++ b), 0)) : Jmv P M mf C a C b Q := by
 have h1 := Jfl (p := p) (m := m) (v := v) (q := q) (X := a) hb; have h2 := Ji8 (X := a) (q := q) G.f eb; have h3 := Jy4 G.f h1 h2; refine ⟨fun c x e => c = C /\ x = J7 p m v C (rdl p m v q a b) /\ e = 0, ⟨rdl p m v q a b, Jcv G.f G.s G.q (by have := Yp hb; omega) (fun t ht => Qu hb ht) eb rfl, _, _, _, Jna G.f h1 h2 rfl, rfl, rfl, rfl⟩, ?_⟩; rintro c x e ⟨rfl, rfl, rfl⟩; refine ⟨fun hh => absurd rfl hh, fun _ => ⟨a ++ J7 p m v c (rdl p m v q a b), ⟨?_, ?_, ?_⟩, _, _, _, Jna G.f (Zr G.s (Yv h1) (by omega)) (Jam G.e (YX G.f h2)) rfl, ?_⟩⟩
 .simp; omega
 .simp
 .simp
 .rw [sum_eq G.f G.s G.e hb eb hl hl2]; exact h
theorem Jwp {Q : Int × List (List Int) × Int -> Prop} (h0 : prk P M mf Ca a Cb b ≠ 0) (h : Q (0, [], prk P M mf Ca a Cb b)) : Jir P M mf Ca a Cb b Q := YR ⟨fun _ => h, fun hh => absurd h0 hh⟩
theorem w_Sum {q r : Nat -> Nat} {Q : Int × List (List Int) × Int -> Prop} (G : Sg P M mf p m v C a q) (H : Sg P M mf p m v C b r) (hC : C <= 100) (h : Q (C, J7 p m v C (a ++ b), 0)) : Jir P M mf C a C b Q := by
 have h1 := G.q.len; have h2 := H.q.len; have h3 := Jb7 G.s; refine YR ?_; rw [Jgi G H rfl]; exact ⟨fun hh => absurd rfl hh, fun _ => w_sum G H.s H.e (by omega) (by omega) h⟩
def nul (p m v : Nat) (C : Int) (X : List (List Int)) : List (List Int) := J7 p m v C (Jhw p m v C X)
theorem Qbg (hF : FV P M mf p m v) (hs : shp C X) (he : Els p m X) : nul p m v C (J7 p m v C X) = nul p m v C X := by
 obtain ⟨h1, h2⟩ := Qb0 hF hs he; unfold nul Jhw; rw [h1, h2]
theorem Jab (hF : FV P M mf p m v) (hs : shp C X) : Sg P M mf p m v C (nul p m v C X) fun i => (vo (Qb p m v C (Jhw p m v C X)) i).toNat :=
 ⟨hF, Yv (Jdj hs), YX hF (Jha hF), Jg8 hF (Jdj hs) (Jha hF)⟩
theorem Jf3 {Q : Int × List (List Int) × Int -> Prop} (hF : FV P M mf p m v) (hs : shp C X) (he : Els p m X) (h : Q (C, nul p m v C X, 0)) : YD P M mf C X Q := by
 have h0 : mck P M mf C X = 0 := Jcj ⟨p, m, v, hF⟩ hs ((QN hF).2 he); refine Jws (fun hh => absurd h0 hh) fun p' m' v' hF' _ _ _ => ?_; obtain ⟨rfl, rfl, rfl⟩ := hF.uniq3 hF'; exact h
theorem Jsp {Q : Int × List (List Int) × Int -> Prop} (h0 : sck P M mf C a ≠ 0) (h : Q (0, [], sck P M mf C a)) : Jct P M mf C a Q := YQ ⟨fun _ => h, fun hh => absurd h0 hh⟩
theorem Jwt {q : Nat -> Nat} {Q : Int × List (List Int) × Int -> Prop} (G : Sg P M mf p m v C a q) (h : Q (C, nul p m v C a, 0)) : Jct P M mf C a Q := by
 refine YQ ?_; rw [G.sck]; exact ⟨fun hh => absurd rfl hh, fun _ => Jf3 G.f G.s G.e h⟩
theorem Jso {Q : Int × List (List Int) × Int -> Prop} (h0 : prk P M mf Ca a Cb b ≠ 0) (h : Q (0, [], prk P M mf Ca a Cb b)) : Jev P M mf Ca a Cb b Q := YR ⟨fun _ => h, fun hh => absurd h0 hh⟩
theorem Jwr {q r : Nat -> Nat} {Q : Int × List (List Int) × Int -> Prop} (G : Sg P M mf p m v C a q) (H : Sg P M mf p m v C b r) (hC : C <= 100) (h : Q (C, nul p m v C (nul p m v C a ++ nul p m v C b), 0)) : Jev P M mf C a C b Q := by
 have G' := Jab (v := v) G.f G.s; have H' := Jab (v := v) H.f H.s; have h1 := G'.q.len; have h2 := H'.q.len; have h3 := Jb7 G.s; have hs := Zr G'.s H'.s (by omega); have he := Jam G'.e H'.e; refine YR ?_; rw [Jgi G H rfl]; refine ⟨fun hh => absurd rfl hh, fun _ => Jf3 G.f G.s G.e ⟨fun hh => absurd rfl hh, fun _ => Jf3 H.f H.s H.e ⟨fun hh => absurd rfl hh, fun _ => w_sum G' H'.s H'.e (by omega) (by omega) ⟨fun hh => absurd rfl hh, fun _ => Jf3 G.f (Yv hs) (YX G.f he) ?_⟩⟩⟩⟩; rw [Qbg G.f hs he]; exact h
noncomputable def wdk (P M : Int) (mf : List Int) (C : Int) (a : List (List Int)) (y : List Int) : Int := if sck P M mf C a ≠ 0 then sck P M mf C a else if (y.length : Int) ≠ C then 3 else mck P M mf C [y]
theorem Jex {y : List Int} {Q : Int -> Prop} (h : Q (wdk P M mf C a y)) : Y0 P M mf C a y Q := by
 unfold wdk at h; refine YQ ⟨fun h1 => by rwa [if_pos h1] at h, fun h1 => ⟨fun h2 => by rwa [if_neg h1, if_pos h2] at h, fun h2 => Jkq (by rwa [if_neg h1, if_neg h2] at h)⟩⟩
theorem Qa8 {y : List Int} (hC : 0 <= C /\ C <= 256) (hy : (y.length : Int) = C) : shp C [y] := Ji1 hC (by simp) fun t ht => by
 have : t = 0 := by simpa using ht
 subst this; show y.length = _; omega
theorem Jjf {y : List Int} : Els p m [y] ↔ Elr p m y := by unfold Els; simp
theorem Qai {q : Nat -> Nat} {y : List Int} (G : Sg P M mf p m v C a q) : wdk P M mf C a y = vce p m y C.toNat := by
 have hC := Jb7 G.s; unfold wdk vce; rw [if_neg (fun hh => hh G.sck)]; by_cases h : (y.length : Int) = C
 .have hs := Qa8 (y := y) hC h; rw [if_neg (fun hh => hh h), if_neg (fun hh => hh (by omega))]; by_cases he : Elr p m y
  .rw [if_neg (fun hh => hh he)]; exact Jcj ⟨p, m, v, G.f⟩ hs ((QN G.f).2 (Jjf.2 he))
  .rw [if_pos he]; exact Jfo ⟨p, m, v, G.f⟩ hs fun hh => he (Jjf.1 ((QN G.f).1 hh))
 .rw [if_pos h, if_pos (by omega)]
theorem Jwg {q : Nat -> Nat} {y : List Int} (G : Sg P M mf p m v C a q) (hy : y.length = C.toNat) (he : Elr p m y) : wdk P M mf C a y = 0 := by
 rw [Qai G]; exact vce_ok hy he
theorem Jwk {q : Nat -> Nat} {y : List Int} {Q : List (List Int) -> Prop} (G : Sg P M mf p m v C a q) (hy : y.length = C.toNat) (he : Elr p m y) (h : Q [rsd p m v q a y a.length]) : YA P M mf C a [y] Q :=
 Jcv G.f G.s G.q (by simp) (fun t ht => by
  have : t = 0 := by simpa using ht
  subst this; exact hy) (Jjf.2 he) h
theorem w_Has {q : Nat -> Nat} {y : List Int} {Q : Bool × Int -> Prop} (G : Sg P M mf p m v C a q) (hy : y.length = C.toNat) (he : Elr p m y) (h1 : zr (rsd p m v q a y a.length) -> Q (true, 0)) (h2 : ¬ zr (rsd p m v q a y a.length) -> Q (false, 0)) : Jmy P M mf C a y Q := by
 refine Jex ?_; rw [Jwg G hy he]; have hC := Jb7 G.s; refine ⟨fun hh => absurd rfl hh, fun _ => Jwk G hy he (Jh4 (by simp) (fun t ht => ?_) (fun hz => h1 (hz 0 (by simp))) (fun hz => h2 fun hh => hz fun t ht => ?_))⟩
 .have : t = 0 := by simpa using ht
  subst this; show (rsd p m v q a y a.length).length <= _; rw [Jc4]; omega
 .have : t = 0 := by simpa using ht
  subst this; exact hh
theorem Jwq {q : Nat -> Nat} {y : List Int} {Q : List Int × Int -> Prop} (G : Sg P M mf p m v C a q) (hy : y.length = C.toNat) (he : Elr p m y) (h : Q (rsd p m v q a y a.length, 0)) : Jdz P M mf C a y Q := by
 refine Jex ?_; rw [Jwg G hy he]; exact ⟨fun hh => absurd rfl hh, fun _ => Jwk G hy he ⟨⟨by omega, by simp⟩, h⟩⟩
theorem Jhp {q : Nat -> Nat} {y : List Int} {Q : List Int × Int -> Prop} (G : Sg P M mf p m v C a q) (hy : y.length = C.toNat) (he : Elr p m y) (h1 : zr (rsd p m v q a y a.length) -> Q (pkr y (pvl q a.length), 0)) (h2 : ¬ zr (rsd p m v q a y a.length) -> Q ([], 11)) : YM P M mf C a y Q := by
 have hl := Yp G.s; refine w_Has G hy he (fun hz => ⟨fun hh => absurd rfl hh, fun _ => ⟨fun hb => (by cases hb), fun _ => Jkp G.s G.q ?_⟩⟩) (fun hz => ⟨fun hh => absurd rfl hh, fun _ => ⟨fun _ => h2 hz, fun hb => by cases hb⟩⟩); refine ⟨fun x z => ∃ t : Nat, z = t /\ t <= a.length /\ x.length = a.length /\ ∀ j, j < a.length -> vo x j = if j < t then vo y (q j) else (q j : Int), fun _ z => (a.length - z).toNat, ⟨0, rfl, Nat.zero_le _, Y5 _ _, fun j hj => by rw [if_neg (by omega), Jiw hj]⟩, ?_⟩; rintro x _ ⟨t, rfl, ht, hx, hj⟩; dsimp only; rw [Y5, JW]; refine ⟨fun hlt => ?_, fun hge => ?_⟩
 .have htl : t < a.length := by omega
  have hq := G.q.lt t htl; rw [hj t htl, if_neg (by omega), JW]; refine ⟨⟨by omega, by omega⟩, ⟨by omega, by omega⟩, ⟨by omega, by omega⟩, JB (by omega) (by omega), ⟨t + 1, by push_cast; rfl, by omega, by rw [Qv, List.length_set]; exact hx, fun j hj' => ?_⟩, by omega⟩; rw [Qv, Qi]; by_cases e : t = j
  .subst e; rw [if_pos ⟨rfl, by omega⟩, if_pos (by omega)]
  .rw [if_neg (fun hh => e hh.1), hj j hj']; by_cases e2 : j < t
   .rw [if_pos e2, if_pos (by omega)]
   .rw [if_neg e2, if_neg (by omega)]
 .have : x = pkr y (pvl q a.length) := QZ (by rw [hx, Jfm, Y5]) fun i hi => by
   rw [hj i (by omega), if_pos (by omega), Jnh (by rw [Y5]; omega), Jiw (by omega)]; rfl
  rw [this]; exact h1 hz
end Go.Proofs.YtngdhnijkgjhcaaGreat
namespace Go.Proofs.YtngdhnijkgjhcaaGreat
variable {P M : Int} {mf : List Int} {p m v g w : Nat} {C Ca Cb : Int} {X Y a b : List (List Int)}
def rsg (s : List Int) (n : Int) : Prop := (∀ i, i < s.length -> 0 <= vo s i /\ vo s i < n) /\ ∀ i, i + 1 < s.length -> vo s i < vo s (i + 1)
theorem Jq5 {s : List Int} {n : Int} (h : rsg s n) : ∀ d i, i + d + 1 < s.length -> vo s i < vo s (i + d + 1)
 | 0, i, hi => h.2 i hi
 | d + 1, i, hi => by
  have h1 := Jq5 h d i (by omega); have h2 := h.2 (i + d + 1) (by omega); rw [show i + (d + 1) + 1 = i + d + 1 + 1 by omega]; omega
theorem Qax {s : List Int} {n : Int} (h : rsg s n) : Asc n.toNat s := ⟨fun i hi => by have := h.1 i hi; omega, fun i j hij hj => by
 have := Jq5 h (j - i - 1) i (by omega)
 rwa [show i + (j - i - 1) + 1 = j by omega] at this⟩
theorem Qam {s : List Int} {n : Int} {Q : Bool -> Prop} (hl : s.length <= 1000000) (h1 : rsg s n -> Q true) (h2 : ¬ rsg s n -> Q false) : Jfy s n Q := by
 refine ⟨fun last z => ∃ t : Nat, z = t /\ t <= s.length /\ (∀ i, i < t -> 0 <= vo s i /\ vo s i < n) /\ (∀ i, i + 1 < t -> vo s i < vo s (i + 1)) /\ (t = 0 -> last = -1) /\ ∀ u, t = u + 1 -> last = vo s u, fun _ z => (s.length - z).toNat, ⟨0, rfl, Nat.zero_le _, fun i hi => absurd hi (Nat.not_lt_zero i), fun i hi => absurd hi (Nat.not_lt_zero _), fun _ => rfl, fun u hu => by omega⟩, ?_⟩; rintro last _ ⟨t, rfl, ht, hr, ha, hl0, hl1⟩; dsimp only; rw [JW]; refine ⟨fun hlt => ⟨⟨by omega, by omega⟩, fun hle => h2 ?_, fun hgt => ⟨fun hn => h2 fun hh => ?_, fun hn => ⟨JB (by omega) (by omega), ⟨t + 1, by push_cast; rfl, by omega, fun i hi => ?_, fun i hi => ?_, fun h0 => by omega, fun u hu => ?_⟩, by omega⟩⟩⟩, fun hge => h1 ?_⟩
 .intro hh; rcases Nat.eq_zero_or_pos t with h0 | h0
  .have := hl0 h0; have := hh.1 t (by omega); omega
  .have e := hl1 (t - 1) (by omega); have := hh.2 (t - 1) (by omega); rw [show t - 1 + 1 = t by omega] at this; omega
 .have := hh.1 t (by omega); omega
 .by_cases e : i = t
  .subst e; refine ⟨?_, by omega⟩; rcases Nat.eq_zero_or_pos i with h0 | h0
   .have := hl0 h0; omega
   .have e := hl1 (i - 1) (by omega); have := hr (i - 1) (by omega); omega
  .exact hr i (by omega)
 .by_cases e : i + 1 = t
  .have e2 := hl1 i (by omega); rw [e]; omega
  .exact ha i (by omega)
 .rw [show u = t by omega]
 .have e : t = s.length := by omega
  subst e; exact ⟨hr, ha⟩
def Y6 (s : List Int) (n : Nat) : List Int := ((List.range n).filter fun i => !(inP s i)).map fun i => ((i : Nat) : Int)
theorem Jd9 (s : List Int) (k : Nat) : Y6 s (k + 1) = if inP s k then Y6 s k else Y6 s k ++ [(k : Int)] := by
 unfold Y6; rw [List.range_succ, List.filter_append, List.map_append]; cases h : inP s k <;> simp [h]
theorem Jgj (s : List Int) : ∀ n, (Y6 s n).length <= n
 | 0 => Nat.le_refl _
 | n + 1 => by
  rw [Jd9]; have := Jgj s n; split
  .omega
  .rw [List.length_append]; simp; omega
theorem Jxz (s : List Int) : ∀ n, ∀ x ∈ Y6 s n, 0 <= x /\ x < (n : Int) := fun n x hx => by
 obtain ⟨i, hi, rfl⟩ := List.mem_map.1 hx; have := List.mem_range.1 (List.mem_filter.1 hi).1; omega
theorem Jsm {s : List Int} {n : Int} {Q : List Int -> Prop} (hl : s.length <= 1000000) (hs : rsg s n) (hn : n <= 1000) (h : Q (Y6 s n.toNat)) : Jbv s n Q := by
 refine ⟨fun x z => ∃ t : Nat, z = t /\ t <= n.toNat /\ x = Y6 s t, fun _ z => (n - z).toNat, ⟨0, rfl, Nat.zero_le _, rfl⟩, ?_⟩; rintro _ _ ⟨t, rfl, ht, rfl⟩; dsimp only; refine ⟨fun hlt => ?_, fun hge => ?_⟩
 case refine_2 =>
  have e : t = n.toNat := by omega
  subst e; exact h
 have hol := Jgj s t; refine ⟨fun y _ _ => y = Y6 s (t + 1), Jkk hl (Qax hs) (fun i hex => ⟨fun hb => (by cases hb), fun _ => ?_⟩) (fun i hex => ⟨fun _ => ⟨by omega, ?_⟩, fun hb => by cases hb⟩), ?_⟩
 .rw [Jd9, if_pos (Jdc.2 hex)]
 .rw [Jd9, if_neg (fun hh => hex (Jdc.1 hh))]
 .rintro y _ _ rfl; exact ⟨JB (by omega) (by omega), ⟨t + 1, by push_cast; rfl, by omega, rfl⟩, by omega⟩
theorem Jzb (s : List Int) (hC : 0 <= C) : bad C (Y6 s C.toNat) = false := by
 unfold bad; rw [List.any_eq_false]; intro x hx; have := Jxz s C.toNat x hx; rw [if_neg (by omega), decide_eq_true_eq]; omega
theorem Qa5 (hs : shp C X) {s : List Int} (hl : s.length <= 256) : shp (s.length : Int) (pks X s) :=
 Ji1 (by omega) (by rw [Jc8]; exact Yp hs) fun t ht => by rw [Jc8] at ht; rw [Ji6 ht, Jfm]; omega
theorem Qa6 (hF : FV P M mf p m v) (he : Els p m X) (s : List Int) : Els p m (pks X s) := Jai fun t ht => by
 rw [Jc8] at ht; rw [Ji6 ht]; exact Jol fun i hi => by rw [Jfm] at hi; rw [Jnh hi]; exact Qbw hF (Qm he t) _
def spt (p m v : Nat) (C : Int) (a : List (List Int)) (s : List Int) : List (List Int) := mm p m v C.toNat (nul p m v (a.length : Int) (tr (Y6 s C.toNat).length (pks a (Y6 s C.toNat)))) a
theorem Jkt {q : Nat -> Nat} {s : List Int} {Q : Int × List (List Int) × Int -> Prop} (G : Sg P M mf p m v C a q) (hl : s.length <= 1000000) (h1 : rsg s C -> Q (C, spt p m v C a s, 0)) (h2 : ¬ rsg s C -> Q (0, [], 6)) : Zu P M mf C a s Q := by
 have hC := Jb7 G.s; have hol := Jgj s C.toNat; have hal := Yp G.s; refine YQ ?_; rw [G.sck]; refine ⟨fun hh => absurd rfl hh, fun _ => Qam hl (fun hs => ⟨fun hb => (by cases hb), fun _ => ?_⟩) (fun hs => ⟨fun _ => h2 hs, fun hb => by cases hb⟩)⟩; have hsP := Qa5 G.s (s := Y6 s C.toNat) (by omega); have heP := Qa6 G.f G.e (Y6 s C.toNat); have e0 : colR P M mf C a (Y6 s C.toNat) = ((((Y6 s C.toNat).length : Nat) : Int), pks a (Y6 s C.toNat), (0 : Int)) := by
  unfold colR; rw [if_neg (fun hh => hh G.mk0), if_neg (by omega), if_neg (by rw [Jzb s hC.1]; decide)]
 refine ⟨fun c x e => c = ((Y6 s C.toNat).length : Int) /\ x = pks a (Y6 s C.toNat) /\ e = 0, ⟨Y6 s C.toNat, Jsm hl hs (by omega) rfl, (((Y6 s C.toNat).length : Nat) : Int), pks a (Y6 s C.toNat), 0, Jsq (fun c Z e he => by rw [<- he, e0]), rfl, rfl, rfl⟩, ?_⟩; rintro c x e ⟨rfl, rfl, rfl⟩; refine ⟨fun hh => absurd rfl hh, fun _ => ?_⟩; have hm : mck P M mf ((Y6 s C.toNat).length : Int) (pks a (Y6 s C.toNat)) = 0 := Jcj ⟨p, m, v, G.f⟩ hsP ((QN G.f).2 heP); refine Jks (fun hh => absurd hm hh) fun p' m' v' hF' _ _ _ => ?_; obtain ⟨rfl, rfl, rfl⟩ := G.f.uniq3 hF'; have hsT := tr_shp hsP; have heT := tr_els hsP heP; rw [Jc8] at hsT ⊢; refine ⟨fun hh => absurd rfl hh, fun _ => Jf3 G.f hsT heT ⟨fun hh => absurd rfl hh, fun _ => ?_⟩⟩; have GN := Jab (v := v) G.f hsT; refine w_mMul (fun e hne hor => ?_) fun p' m' v' hF' _ _ _ _ _ => ?_
 .rcases hor with h | h | h
  .exact absurd GN.mk0 h
  .exact absurd G.mk0 h
  .exact absurd rfl h
 .obtain ⟨rfl, rfl, rfl⟩ := G.f.uniq3 hF'; exact h1 hs
end Go.Proofs.YtngdhnijkgjhcaaGreat
namespace Go.Proofs.YtngdhnijkgjhcaaGreat
variable {P M : Int} {mf : List Int} {p m v g w : Nat} {C Ca Cb : Int} {X Y a b : List (List Int)}
def B2 : List (List Int) := [[1, 0, 1], [0, 1, 1]]
def B1 : List (List Int) := [[1, 0, 0]]
def U3 : List (List Int) := [[1, 0, 0], [0, 1, 0], [0, 0, 1]]
theorem Jyz {q : Nat -> Nat} (h : (X.all fun r => decide (r.length = w)) = true) (h1 : ((List.range X.length).all fun i => decide (q i < w /\ (∀ t, t < X.length -> vo (row X t) (q i) = if t = i then 1 else 0) /\ (∀ c, c < q i -> vo (row X i) c = 0) /\ ∀ j, j < X.length -> i < j -> q i < q j)) = true) : Cnl w X q := by
 have g := fun i (hi : i < X.length) => of_decide_eq_true (List.all_eq_true.1 h1 i (List.mem_range.2 hi)); exact ⟨fun i hi => (g i hi).1, fun i hi t ht => (g i hi).2.1 t ht, fun i hi c hc => (g i hi).2.2.1 c hc, fun i j hij hj => (g i (by omega)).2.2.2 j hj hij⟩
theorem sg2 : Sg 2 1 [] 2 1 0 3 B2 id := ⟨fv2, ⟨by decide, by decide, by decide, by decide⟩, by unfold Els Elr; decide, Jyz (by decide) (by decide)⟩
theorem sg1 : Sg 2 1 [] 2 1 0 3 B1 id := ⟨fv2, ⟨by decide, by decide, by decide, by decide⟩, by unfold Els Elr; decide, Jyz (by decide) (by decide)⟩
theorem sgU : Sg 2 1 [] 2 1 0 3 U3 id := ⟨fv2, ⟨by decide, by decide, by decide, by decide⟩, by unfold Els Elr; decide, Jyz (by decide) (by decide)⟩
theorem evs1 : J7 2 1 0 3 (B2 ++ B1) = U3 := by decide +kernel
theorem evs2 : nul 2 1 0 3 (nul 2 1 0 3 B2 ++ nul 2 1 0 3 B1) = [] := by decide +kernel
theorem evs3 : nul 2 1 0 3 B2 = [[1, 1, 1]] := by decide +kernel
theorem evs4 : rsd 2 1 0 id B2 [1, 1, 0] 2 = [0, 0, 0] := by decide +kernel
theorem evs5 : rsd 2 1 0 id B2 [1, 0, 0] 2 = [0, 0, 1] := by decide +kernel
theorem evs6 : J7 2 1 0 3 (rdl 2 1 0 id B1 U3) = [[0, 1, 0], [0, 0, 1]] := by decide +kernel
theorem evs7 : spt 2 1 0 3 B2 [1, 2] = [[0, 1, 1]] := by decide +kernel
theorem evs8 : rsd 2 1 0 id U3 [1, 0, 0] 3 = [0, 0, 0] := by decide +kernel
theorem in_U3 : ain 2 1 0 id U3 B1 := fun t ht => by
 have : t = 0 := by simpa [B1] using ht
 subst this; show zr (rsd 2 1 0 id U3 [1, 0, 0] 3); rw [evs8]; unfold zr; decide
theorem rsg_12 : rsg [1, 2] 3 := ⟨by decide, fun i hi => by
 have : i = 0 := by simp at hi; omega
 subst this; decide⟩
theorem Jqt {Q : Bool -> Prop} (h : Q true) : Jby Q := by
 have z1 : zr (rsd 2 1 0 id B2 [1, 1, 0] B2.length) := by show zr (rsd 2 1 0 id B2 [1, 1, 0] 2); rw [evs4]; unfold zr; decide
 have z2 : ¬ zr (rsd 2 1 0 id B2 [1, 0, 0] B2.length) := by show ¬ zr (rsd 2 1 0 id B2 [1, 0, 0] 2); rw [evs5]; unfold zr; decide
 refine w_Sum (a := B2) (b := B1) sg2 sg1 (by decide) ?_; rw [evs1]; refine Jwr (a := B2) (b := B1) sg2 sg1 (by decide) ?_; rw [evs2]; refine Jwt (a := B2) sg2 ?_; rw [evs3]; refine Jhp (a := B2) sg2 rfl (by unfold Elr; decide) (fun _ => ?_) (fun hh => absurd z1 hh); refine Jwq (a := B2) sg2 rfl (by unfold Elr; decide) ?_; rw [show rsd 2 1 0 id B2 [1, 0, 0] B2.length = [0, 0, 1] from evs5]; refine Jnf (a := B1) (b := U3) sg1 sgU (fun _ => ?_) (fun hh => absurd in_U3 hh); rw [evs6]; refine Jkt (a := B2) (s := [1, 2]) sg2 (by decide) (fun _ => ?_) (fun hh => absurd rsg_12 hh); rw [evs7]; refine w_Has (a := B2) sg2 rfl (by unfold Elr; decide) (fun hh => absurd hh z2) (fun _ => ?_); refine Jku (a := B1) (b := U3) sg1 sgU (fun _ => ?_) (fun hh => absurd in_U3 hh); refine ⟨fun b => b = true, ⟨fun _ => ⟨fun _ => ⟨fun _ => ⟨fun _ => ⟨fun _ => ⟨fun _ => ⟨fun _ => ⟨fun _ => rfl, fun h => absurd rfl h⟩, fun h => absurd rfl h⟩, fun h => absurd rfl h⟩, fun h => absurd rfl h⟩, fun h => absurd rfl h⟩, fun h => absurd rfl h⟩, fun h => absurd rfl h⟩, fun h => absurd rfl h⟩, fun b hb => ⟨hb, _, Qak (by decide) rfl, Yo (by decide) (by decide) (fun _ => rfl) (fun hh => absurd (by decide) hh), rfl, rfl, Yo (by decide) (by decide) (fun _ => rfl) (fun hh => absurd rfl hh), Y4 (by decide) (fun _ => rfl) (fun hh => absurd (by decide) hh), Y4 (by decide) (fun _ => rfl) (fun hh => absurd rfl hh), Yo (by decide) (by decide) (fun _ => rfl) (fun hh => absurd rfl hh), Yo (by decide) (by decide) (fun _ => rfl) (fun hh => absurd rfl hh), rfl, rfl, _, YQ rfl, ?_⟩⟩; rw [show sck 2 1 [] 3 U3 = 0 from sgU.sck]; exact h
end Go.Proofs.YtngdhnijkgjhcaaGreat
namespace Go.Proofs.YtngdhnijkgjhcaaGreat
variable {P M : Int} {mf : List Int} {p m v g w : Nat} {C Ca Cb : Int} {X Y a b : List (List Int)}
end Go.Proofs.YtngdhnijkgjhcaaGreat
namespace Go.Proofs.YtngdhnijkgjhcaaGreat
variable {P M : Int} {mf : List Int} {p m v g w : Nat} {C Ca Cb : Int} {X Y a b : List (List Int)}
end Go.Proofs.YtngdhnijkgjhcaaGreat
namespace Go.Proofs.YtngdhnijkgjhcaaGreat
variable {P M : Int} {mf : List Int} {p m v g w : Nat} {C Ca Cb : Int} {X Y a b : List (List Int)}
theorem can_sg (hF : FV P M mf p m v) (hs : shp C X) (he : Els p m X) : Sg P M mf p m v C (J7 p m v C X) fun i => (vo (Qb p m v C X) i).toNat := ⟨hF, Yv hs, YX hF he, Jg8 hF hs he⟩
theorem Sg.rows {q : Nat -> Nat} (G : Sg P M mf p m v C X q) : X.length <= 1000000 /\ ∀ r ∈ X, r.length <= 1000000 := ⟨by have := Yp G.s; omega, Jk7 G.s⟩
end Go.Proofs.YtngdhnijkgjhcaaGreat
namespace Go.Proofs.YtngdhnijkgjhcaaGreat
variable {P M : Int} {mf : List Int} {p m v g w : Nat} {C Ca Cb : Int} {X Y a b : List (List Int)}
theorem Jnc {Q : Int × List (List Int) × Int -> Prop} (h0 : prk P M mf Ca a Cb b ≠ 0) (h : Q (0, [], prk P M mf Ca a Cb b)) : Jdq P M mf Ca a Cb b Q := Jfc ⟨fun _ => h, fun hh => absurd h0 hh⟩
theorem Qaj {q r : Nat -> Nat} {Q : Int × List (List Int) × Int -> Prop} (G : Sg P M mf p m v C a q) (H : Sg P M mf p m v C b r) (hC : C <= 100) (h : Q (C, J7 p m v C (a ++ b), 0)) : Jdq P M mf C a C b Q := by
 have h1 := G.q.len; have h2 := H.q.len; have h3 := Jb7 G.s; refine Jfc ?_; rw [Jgi G H rfl]; exact ⟨fun hh => absurd rfl hh, fun _ => ⟨fun x => x = J7 p m v C (a ++ b), ⟨a, Jqs G.rows.1 G.rows.2 rfl, by omega, Jcw G.f (Zr G.s H.s (by omega)) (Jam G.e H.e) rfl⟩, fun x hx => by rw [hx]; exact h⟩⟩
theorem Jkm {Q : Int × List (List Int) × Int -> Prop} (h0 : sck P M mf C a ≠ 0) (h : Q (0, [], sck P M mf C a)) : ZN P M mf C a Q := ZD ⟨fun _ => h, fun hh => absurd h0 hh⟩
theorem Jwj {q : Nat -> Nat} {Q : Int × List (List Int) × Int -> Prop} (G : Sg P M mf p m v C a q) (h : Q (C, nul p m v C a, 0)) : ZN P M mf C a Q := by
 refine ZD ?_; rw [G.sck]; exact ⟨fun hh => absurd rfl hh, fun _ => ⟨nul p m v C a, Jfd G.f G.s G.e rfl, h⟩⟩
theorem Jkl {Q : Int × List (List Int) × Int -> Prop} (h0 : prk P M mf Ca a Cb b ≠ 0) (h : Q (0, [], prk P M mf Ca a Cb b)) : Jbd P M mf Ca a Cb b Q := Jfc ⟨fun _ => h, fun hh => absurd h0 hh⟩
theorem Jwi {q r : Nat -> Nat} {Q : Int × List (List Int) × Int -> Prop} (G : Sg P M mf p m v C a q) (H : Sg P M mf p m v C b r) (hC : C <= 100) (h : Q (C, nul p m v C (nul p m v C a ++ nul p m v C b), 0)) : Jbd P M mf C a C b Q := by
 have G' := Jab (v := v) G.f G.s; have H' := Jab (v := v) H.f H.s; have h1 := G'.q.len; have h2 := H'.q.len; have h3 := Jb7 G.s; have hs := Zr G'.s H'.s (by omega); have he := Jam G'.e H'.e; refine Jfc ?_; rw [Jgi G H rfl]; exact ⟨fun hh => absurd rfl hh, fun _ => ⟨nul p m v C a, Jfd G.f G.s G.e rfl, Jfd H.f H.s H.e ⟨by show ((((nul p m v C a).length : Nat) + ((nul p m v C b).length : Nat) : Int)) * 24 <= _; omega, nul p m v C (nul p m v C a ++ nul p m v C b), Jfd G.f hs he rfl, h⟩⟩⟩
theorem Qal (hC : C <= 100) : Jct P M mf C a (fun q => match q with | (c76, x77, r78) => ZN P M mf C a (fun q => match q with | (c85, x86, r87) => (r78 = r87) /\ ((Jas c76 x77 c85 x86 (fun q => q = true)) /\ (∃ (r109 : Int), QS P M mf C a (fun q => q = r109) /\ (∃ (r115 : Int), Yc P M mf C a (fun q => q = r115) /\ (decide (r109 = r115) = true)))))) := by
 have hk : ∃ (r109 : Int), QS P M mf C a (fun q => q = r109) /\ (∃ (r115 : Int), Yc P M mf C a (fun q => q = r115) /\ (decide (r109 = r115) = true)) := ⟨_, YQ rfl, _, ZD rfl, decide_eq_true rfl⟩
 by_cases h0 : sck P M mf C a = 0
 .obtain ⟨p, m, v, q, G⟩ := Ji2 h0; have N := Jab (v := v) G.f G.s; exact Jwt G (Jwj G ⟨rfl, Jbg N.rows.1 N.rows.2 rfl, hk⟩)
 .exact Jsp h0 (Jkm h0 ⟨rfl, Jbg (by simp) (by simp) rfl, hk⟩)
theorem Jhv (P M : Int) (mf : List Int) (Ca : Int) (a : List (List Int)) (Cb : Int) (b : List (List Int)) : Jkd P M mf Ca a Cb b (fun r => r = true) := by
 refine Jqt ⟨fun hb => (by cases hb), fun _ => w_few (fun hA hB hla hlb => ⟨fun hb => (by cases hb), fun _ => ?_⟩) ⟨fun _ => Jqt rfl, fun hb => (by cases hb)⟩⟩; have hD := Qal (P := P) (M := M) (mf := mf) (a := a) (show Ca <= 100 by omega); by_cases h0 : prk P M mf Ca a Cb b = 0
 .obtain ⟨p, m, v, q, r, G, H, rfl⟩ := Qa2 h0; have hC : Ca <= 100 := by omega
  have G' := Jab (v := v) G.f G.s; have H' := Jab (v := v) H.f H.s; have h1 := G'.q.len; have h2 := H'.q.len; have h3 := Jb7 G.s; have h4 := G.q.len; have h5 := H.q.len; have S := can_sg G.f (Zr G.s H.s (by omega)) (Jam G.e H.e); have N := Jab (v := v) G.f (Zr G'.s H'.s (by omega)); refine w_Sum G H hC (Qaj G H hC ⟨fun hh => absurd rfl hh, fun _ => Jbg S.rows.1 S.rows.2 ⟨fun hb => (by cases hb), fun _ => ?_⟩⟩); refine Jwr G H hC (Jwi G H hC ⟨fun hh => absurd rfl hh, fun _ => Jbg N.rows.1 N.rows.2 ⟨fun hb => (by cases hb), fun _ => ?_⟩⟩); exact hD
 .refine Jwp h0 (Jnc h0 ⟨fun hh => absurd rfl hh, fun _ => Jbg (by simp) (by simp) ⟨fun hb => (by cases hb), fun _ => ?_⟩⟩); refine Jso h0 (Jkl h0 ⟨fun hh => absurd rfl hh, fun _ => Jbg (by simp) (by simp) ⟨fun hb => (by cases hb), fun _ => ?_⟩⟩); exact hD
end Go.Proofs.YtngdhnijkgjhcaaGreat
