/- Contracts of functions of the program, and what they lean on: M21, M22, M23, M24, S1, S2, S3, S4, S5, S6, S7, S8, S9, S10, S11, S12, Xm, D21, S13, D20, S14, S15, S16. -/
import Derived.Test.YtngdhnijkgjhcaaGreatSpaceWordsG10
set_option linter.unusedVariables false
set_option linter.unusedSimpArgs false
namespace Go.Proofs.YtngdhnijkgjhcaaGreat
section
variable {p m v : Nat} {P M : Int} {mf : LI} {X Y : LL} {C D : Int} {w wy : Nat}
theorem Jnm (hF : FV P M mf p m v) {f : (Nat -> Nat) -> Nat} (L : Lin p m v w f) {a : Nat -> Nat} (ha : ∀ c, c < w -> a c = 0) : f a = 0 := by
  have hq : 0 < p ^ m := by have := hF.ring.q2; omega
  have h := L.ml (a := fun _ => 0) (x := 0) (fun _ => hq) hq
  have e : f (fun _ => Jv p m (dv p v) 0 0) = f a := L.cg fun c hc => by rw [ha c hc, hF.ring.M0 hq]
  rw [<- e, h, hF.ring.Mc hq (L.lt _), hF.ring.M0 (L.lt _)]
theorem Jgw (hF : FV P M mf p m v) {f : (Nat -> Nat) -> Nat} (L : Lin p m v w f) (x : LI) (B : LL) : ∀ k, f (en p m (cmb p m v x w B k)) = fs p m (fun i => Jv p m (dv p v) (inE (p ^ m) (vo x i)) (f (en p m (row B i)))) k
 | 0 => Jnm hF L fun c hc => by
  show inE (p ^ m) (vo (List.replicate w 0) c) = 0; rw [ZY]; exact Qt (x := 0) (by have := hF.ring.q2; omega)
 | k + 1 => by
  rw [Jb7, L.adx hF (Jeq x w k), Jgw hF L x B k]; rfl
def mm (p m v w : Nat) (A B : LL) : LL := (List.range A.length).map fun t => cmb p m v (row A t) w B B.length
theorem Jp3 (A B : LL) : (mm p m v w A B).length = A.length := by simp [mm]
theorem Jkq {A B : LL} {t : Nat} (h : t < A.length) : row (mm p m v w A B) t = cmb p m v (row A t) w B B.length := Jck h
theorem mm_shp {A B : LL} (hA : A.length <= 256) (hs : shp D B) : shp D (mm p m v D.toNat A B) := by
 obtain ⟨h1, h2, h3⟩ := QQ hs; refine ⟨hs.1, hs.2.1, by rw [Jp3]; exact hA, fun r hr => ?_⟩; obtain ⟨t, _, rfl⟩ := List.mem_map.1 hr; rw [Jeq]; exact h3
theorem mm_els (hF : FV P M mf p m v) (A B : LL) : Els p m (mm p m v w A B) := fun r hr => by
 obtain ⟨t, _, rfl⟩ := List.mem_map.1 hr; exact Jtx hF _
theorem mm_en (hF : FV P M mf p m v) {A B : LL} {t c : Nat} (ht : t < A.length) (hc : c < w) : en p m (row (mm p m v w A B) t) c = fs p m (fun i => Jv p m (dv p v) (en p m (row A t) i) (en p m (row B i) c)) B.length := by
 rw [Jkq ht, Jqh hF hc]; rfl
theorem Jto {A B : LL} (hl : A.length = B.length) (ha : Els p m A) (hb : Els p m B) (hw : ∀ t, t < A.length -> (row A t).length = w /\ (row B t).length = w) (h : ∀ t c, t < A.length -> c < w -> en p m (row A t) c = en p m (row B t) c) : A = B :=
  QL hl fun t ht => QY (by rw [(hw t ht).1, (hw t ht).2]) fun c hc => by
    rw [(hw t ht).1] at hc
    have e := h t c ht hc
    have e1 := Z2 (Z3 (Qb ha t) (t := c) (by rw [(hw t ht).1]; exact hc))
    have e2 := Z2 (Z3 (Qb hb t) (t := c) (by rw [(hw t ht).2]; exact hc))
    unfold en at e
    rw [<- e1, <- e2, e]
def tr (n : Nat) (A : LL) : LL := (List.range n).map fun c => (List.range A.length).map fun t => vo (row A t) c
theorem Jkj (n : Nat) (A : LL) : (tr n A).length = n := by simp [tr]
theorem Jz3 {n c : Nat} {A : LL} (h : c < n) : row (tr n A) c = (List.range A.length).map fun t => vo (row A t) c := Jck h
theorem Jpc {n c : Nat} {A : LL} (h : c < n) : (row (tr n A) c).length = A.length := by rw [Jz3 h]; simp
theorem tr_at {n c t : Nat} {A : LL} (h : c < n) (ht : t < A.length) : vo (row (tr n A) c) t = vo (row A t) c := by rw [Jz3 h]; exact Jdo ht
theorem tr_en {n c t : Nat} {A : LL} (h : c < n) (ht : t < A.length) : en p m (row (tr n A) c) t = en p m (row A t) c := by unfold en; rw [tr_at h ht]
theorem Jzh (hs : shp C X) : shp (X.length : Int) (tr C.toNat X) := by
 obtain ⟨h1, h2, h3⟩ := QQ hs; refine ⟨by omega, by omega, by rw [Jkj]; exact h2, fun r hr => ?_⟩; obtain ⟨c, _, rfl⟩ := List.mem_map.1 hr; simp
theorem Jzi (hs : shp C X) (he : Els p m X) : Els p m (tr C.toNat X) := fun r hr => by
 obtain ⟨c, hc, rfl⟩ := List.mem_map.1 hr; have hc := List.mem_range.1 hc; intro x hx; obtain ⟨t, ht, rfl⟩ := List.mem_map.1 hx; have ht := List.mem_range.1 ht; exact Z3 (Qb he t) (by rw [Qe hs ht]; exact hc)
end
end Go.Proofs.YtngdhnijkgjhcaaGreat
namespace Go.Proofs.YtngdhnijkgjhcaaGreat
section
variable {P M : Int} {mf : LI} {X : LL} {C : Int}
theorem w_mMul {Ca Cb : Int} {A B : LL} {Q : Int × LL × Int -> Prop} (hb : ∀ e, e ≠ 0 -> (mck P M mf Ca A ≠ 0 ∨ mck P M mf Cb B ≠ 0 ∨ Ca ≠ (B.length : Int)) -> Q (0, [], e))
    (h : ∀ p m v, FV P M mf p m v -> shp Ca A -> Els p m A -> shp Cb B -> Els p m B -> Ca = (B.length : Int) -> Q (Cb, mm p m v Cb.toNat A B, 0)) : Jly P M mf Ca A Cb B Q := by
  refine Jyy (ms := [(Ca, A), (Cb, B)]) (by simp) (fun hn _ => hb 1 (by decide) (.inl (by rw [Jib hn]; decide))) (fun F p m v g K hF h0 => ?_) (fun hV hne _ => hb _ hne ?_)
  . rw [Jm3] at h0
    have hA : mck P M mf Ca A = 0 := by
      by_cases e : mck P M mf Ca A = 0
      . exact e
      . rw [if_neg e] at h0; exact h0
    rw [if_pos hA] at h0
    obtain ⟨_, sA, eA⟩ := Jae hA
    obtain ⟨_, sB, eB⟩ := Jae h0
    have eA := (QT hF).1 eA
    have eB := (QT hF).1 eB
    obtain ⟨a1, a2, a3⟩ := QQ sA
    refine ⟨fun hne => hb 10 (by decide) (.inr (.inr hne)), fun he => ?_⟩
    have hC : Ca = (B.length : Int) := Classical.not_not.1 he
    refine ⟨⟨by omega, by omega, by omega⟩, fun x z => ∃ t : Nat, z = t /\ t <= A.length /\ x.length = A.length /\ ∀ s, s < t -> row x s = row (mm p m v Cb.toNat A B) s, fun _ z => (A.length - z).toNat, ⟨0, rfl, Nat.zero_le _, by simp, fun s hs => absurd hs (Nat.not_lt_zero _)⟩, ?_⟩
    rintro x _ ⟨t, rfl, ht, hx, hv⟩
    dsimp only
    refine ⟨fun hlt => ⟨⟨by omega, by omega⟩, _, Jut K sB (by show (row A t).length = _; rw [Qe sA (by omega)]; omega) rfl, ⟨by omega, by omega⟩, Jz (by omega) (by omega), ⟨t + 1, by push_cast; rfl, by omega, by rw [ZJ]; exact hx, fun s hs => ?_⟩, by omega⟩, fun hge => ?_⟩
    . show row (x.set t _) s = _
      rw [Qn]
      by_cases e : t = s
      . subst e; rw [if_pos ⟨rfl, by omega⟩, Jkq (by omega)]; rfl
      . rw [if_neg (fun q => e q.1)]; exact hv s (by omega)
    . rw [show x = mm p m v Cb.toNat A B from QL (by rw [Jp3]; exact hx) fun i hi => hv i (by omega)]
      exact h p m v hF sA eA sB eB hC
  . rw [Jm3] at hne
    by_cases e : mck P M mf Ca A = 0
    . rw [if_pos e] at hne; exact .inr (.inl hne)
    . exact .inl e
theorem Jmf {Q : Int × LL × Int -> Prop} (hb : mck P M mf C X ≠ 0 -> Q (0, [], mck P M mf C X))
  (h : ∀ p m v, FV P M mf p m v -> shp C X -> Els p m X -> mck P M mf C X = 0 -> Q ((X.length : Int), tr C.toNat X, 0)) : ZT P M mf C X Q := by
 refine Jd6 (fun h0 _ => hb h0) fun F p m v g K hF hs he h0 => ?_; have hfin := h p m v hF hs he h0; obtain ⟨a1, a2, a3⟩ := QQ hs; generalize hn : C.toNat = n at *
 refine ⟨⟨by omega, by omega, by omega⟩, fun x z => ∃ c : Nat, z = c /\ c <= n /\ x.length = n /\ ∀ d, d < c -> row x d = row (tr n X) d, fun _ z => (n - z).toNat, ⟨0, rfl, Nat.zero_le _, by simp, fun d hd => absurd hd (Nat.not_lt_zero _)⟩, ?_⟩; rintro x _ ⟨c, rfl, hc, hx, hv⟩; dsimp only; refine ⟨fun hlt => ?_, fun hge => ?_⟩
 .have hcn : c < n := by omega
  refine ⟨⟨by omega, by omega, by omega⟩, ⟨by omega, by omega⟩, fun y z => ∃ t : Nat, z = t /\ t <= X.length /\ y.length = n /\ (∀ d, d < c -> row y d = row (tr n X) d) /\ (row y c).length = X.length /\ ∀ s, s < t -> vo (row y c) s = vo (row X s) c, fun _ z => (X.length - z).toNat, ⟨0, rfl, Nat.zero_le _, by rw [ZJ]; exact hx, fun d hd => ?_, ?_, fun s hs => absurd hs (Nat.not_lt_zero _)⟩, ?_⟩
  .show row (x.set c _) d = _; rw [Qn, if_neg (fun q => by omega)]; exact hv d hd
  .show (row (x.set c _) c).length = _; rw [Qn, if_pos ⟨rfl, by omega⟩]; simp
  rintro y _ ⟨t, rfl, ht, hy, h1, h2, h3⟩; dsimp only; refine ⟨fun hlt2 => ?_, fun hge2 => ⟨Jz (by omega) (by omega), ⟨c + 1, by push_cast; rfl, by omega, hy, fun d hd => ?_⟩, by omega⟩⟩
  .have htx : t < X.length := by omega
   have hrl : (row X t).length = n := by rw [Qe hs htx]; exact hn
   refine ⟨⟨by omega, by omega⟩, ⟨by omega, by omega⟩, ⟨by omega, by show (c : Int) < ((row X t).length : Int); omega⟩, ⟨by omega, by show (t : Int) < ((row y c).length : Int); omega⟩, Jz (by omega) (by omega), ⟨t + 1, by push_cast; rfl, by omega, by rw [ZJ]; exact hy, fun d hd => ?_, ?_, fun s hs' => ?_⟩, by omega⟩
   .show row (y.set c _) d = _; rw [Qn, if_neg (fun q => by omega)]; exact h1 d hd
   .show (row (y.set c ((row y c).set t (vo (row X t) c))) c).length = _; rw [Qn, if_pos ⟨rfl, by omega⟩, List.length_set]; exact h2
   .show vo (row (y.set c ((row y c).set t (vo (row X t) c))) c) s = _; rw [Qn, if_pos ⟨rfl, by omega⟩, J5]; by_cases e : t = s
    .subst e; rw [if_pos ⟨rfl, by omega⟩]
    .rw [if_neg (fun q => e q.1)]; exact h3 s (by omega)
  .by_cases e : d = c
   .subst e; exact QY (by rw [h2, Jpc hcn]) fun s hs' => by rw [h3 s (by omega), tr_at hcn (by omega)]
   .exact h1 d (by omega)
 .rw [show x = tr n X from QL (by rw [Jkj]; exact hx) fun i hi => hv i (by omega)]; exact hfin
end
end Go.Proofs.YtngdhnijkgjhcaaGreat
namespace Go.Proofs.YtngdhnijkgjhcaaGreat
section
variable {p m v : Nat} {P M : Int} {mf : LI} {X Y : LL} {C D : Int} {w wy : Nat}
theorem Qbp {n k : Nat} {a b : LI} (ha : Asc n a) (hb : Asc n b) (h1 : ∀ i, i < a.length -> ∃ j, j < b.length /\ vo b j = vo a i) (h2 : ∀ j, j < b.length -> ∃ i, i < a.length /\ vo a i = vo b j) : ∀ k, k < a.length -> k < b.length /\ vo a k = vo b k := by
  intro k
  induction k using Nat.strongRecOn with
  | ind k ih =>
    intro hk
    obtain ⟨j, hj, e⟩ := h1 k hk
    have hjk : k <= j := by
      rcases Nat.lt_or_ge j k with h | h
      . have h3 := (ih j h (by omega)).2
        have h4 := ha.2 j k h hk
        omega
      . exact h
    have hkb : k < b.length := by omega
    refine ⟨hkb, ?_⟩
    obtain ⟨i, hi, e2⟩ := h2 k hkb
    rcases Nat.lt_trichotomy i k with h | h | h
    . have h3 := (ih i h hi).2
      have h4 := hb.2 i k h hkb
      omega
    . rw [<- e2, h]
    . have h3 := ha.2 k i h hi
      rcases Nat.lt_or_ge k j with h5 | h5
      . have := hb.2 k j h5 hj; omega
      . rw [show k = j by omega] at e2 ⊢; omega
theorem Qbo {n : Nat} {a b : LI} (ha : Asc n a) (hb : Asc n b) (h1 : ∀ i, i < a.length -> ∃ j, j < b.length /\ vo b j = vo a i) (h2 : ∀ j, j < b.length -> ∃ i, i < a.length /\ vo a i = vo b j) : a = b := by
 have k1 := Qbp (k := 0) ha hb h1 h2; have k2 := Qbp (k := 0) hb ha h2 h1; refine QY ?_ fun i hi => (k1 i hi).2; rcases Nat.lt_trichotomy a.length b.length with h | h | h
 .have := (k2 a.length h).1; omega
 .exact h
 .have := (k1 b.length h).1; omega
theorem Jgy (hF : FV P M mf p m v) (hs : shp C X) (he : Els p m X) {a : Nat -> Nat} (ha : ∀ c, a c < p ^ m) (hA : ∀ f, Lin p m v C.toNat f -> Ann p m f (JQ p m v C X) -> f a = 0) {c : Nat} (hc : c < C.toNat) :
    a c = fs p m (fun i => Jv p m (dv p v) (a (vo (JG p m v C X) i).toNat) (en p m (row (JQ p m v C X) i) c)) (JG p m v C X).length := by
  have R := hF.ring
  have q1 : 1 < p ^ m := R.q2
  have hp : 0 < p := by have := hF.p2; omega
  have hasc := QA (p := p) (m := m) (v := v) C X
  have hcl := Qz (p := p) (m := m) (v := v) hs
  have hneg : ∀ y, y < p ^ m -> QH p m y < p ^ m := fun y _ => Yb hp y
  have L := Jtv (w := C.toNat) hF (c := c) (r := (JG p m v C X).length) (pv := fun i => (vo (JG p m v C X) i).toNat) (nR := fun i => QH p m (en p m (row (JQ p m v C X) i) c)) hc (fun i hi => by have := hasc.1 i hi; show (vo (JG p m v C X) i).toNat < _; omega) (fun i => hneg _ (JX hF _ _))
  have hann := hA _ L (fun s hsl => by
    show cof _ _ _ _ _ _ _ (en p m (row (JQ p m v C X) s)) = 0
    unfold cof
    have hsr : s < (JG p m v C X).length := by omega
    have hd : ∀ i, i < (JG p m v C X).length -> en p m (row (JQ p m v C X) s) (vo (JG p m v C X) i).toNat = if s = i then 1 else 0 := fun i hi => by
      have := YK hF hs he hi hsr
      by_cases e : s = i
      . rw [if_pos e] at this ⊢; exact Za hF q1 this
      . rw [if_neg e] at this ⊢; exact Za hF (by omega) this
    have h9 := Zw hF (f := fun i => Jv p m (dv p v) (QH p m (en p m (row (JQ p m v C X) i) c)) (en p m (row (JQ p m v C X) s) (vo (JG p m v C X) i).toNat)) (j := s) (R.Ml _ _) _ hsr fun i hi hne => by
      show Jv p m (dv p v) _ _ = 0
      rw [hd i hi, if_neg (fun e => hne e.symm), R.M0 (hneg _ (JX hF _ _))]
    show J0 p m _ (fs p m (fun i => Jv p m (dv p v) (QH p m (en p m (row (JQ p m v C X) i) c)) (en p m (row (JQ p m v C X) s) (vo (JG p m v C X) i).toNat)) (JG p m v C X).length) = 0
    rw [h9]
    show J0 p m _ (Jv p m (dv p v) _ _) = 0
    rw [hd s hsr, if_pos rfl, R.M1 (hneg _ (JX hF _ _))]
    exact Q2 hp (JX hF _ _))
  unfold cof at hann
  have hG := Zx hF (fun i => Jv p m (dv p v) (a (vo (JG p m v C X) i).toNat) (en p m (row (JQ p m v C X) i) c)) (JG p m v C X).length
  have hN := Zx hF (fun i => Jv p m (dv p v) (QH p m (en p m (row (JQ p m v C X) i) c)) (a (vo (JG p m v C X) i).toNat)) (JG p m v C X).length
  have hGN : J0 p m (fs p m (fun i => Jv p m (dv p v) (a (vo (JG p m v C X) i).toNat) (en p m (row (JQ p m v C X) i) c)) (JG p m v C X).length) (fs p m (fun i => Jv p m (dv p v) (QH p m (en p m (row (JQ p m v C X) i) c)) (a (vo (JG p m v C X) i).toNat)) (JG p m v C X).length) = 0 := by
    have h1 := Jfu hF (f := fun i => Jv p m (dv p v) (a (vo (JG p m v C X) i).toNat) (en p m (row (JQ p m v C X) i) c)) (h := fun i => Jv p m (dv p v) (QH p m (en p m (row (JQ p m v C X) i) c)) (a (vo (JG p m v C X) i).toNat)) (x := 1) (fun i => R.Ml _ _) (fun i => R.Ml _ _) q1 (JG p m v C X).length
    rw [R.Mc q1 hN, R.M1 hN] at h1
    rw [<- h1]
    refine YH hF _ fun i hi => ?_
    show J0 p m (Jv p m (dv p v) _ _) (Jv p m (dv p v) 1 (Jv p m (dv p v) _ _)) = 0
    have ha' := ha (vo (JG p m v C X) i).toNat
    have hb := JX hF (row (JQ p m v C X) i) c
    rw [R.Mc q1 (R.Ml _ _), R.M1 (R.Ml _ _), R.Mc (hneg _ hb) ha', <- R.Md ha' hb (hneg _ hb), Q2 hp hb, R.M0 ha']
  have hx := ha c
  generalize fs p m (fun i => Jv p m (dv p v) (a (vo (JG p m v C X) i).toNat) (en p m (row (JQ p m v C X) i) c)) (JG p m v C X).length = G1 at *
  generalize fs p m (fun i => Jv p m (dv p v) (QH p m (en p m (row (JQ p m v C X) i) c)) (a (vo (JG p m v C X) i).toNat)) (JG p m v C X).length = N1 at *
  generalize a c = b at *
  calc b = J0 p m b (J0 p m G1 N1) := by rw [hGN, R.Az hx]
    _ = J0 p m G1 (J0 p m b N1) := by rw [<- R.Aa hx hG hN, R.Ac b G1, R.Aa hG hx hN]
    _ = G1 := by rw [hann, R.Az hG]
theorem Jpp (hF : FV P M mf p m v) (hX : shp C X) (eX : Els p m X) (hY : shp C Y) (eY : Els p m Y) (h : ∀ f, Lin p m v C.toNat f -> Ann p m f Y -> Ann p m f X) : ∀ t, t < (JG p m v C X).length -> ∃ j, j < (JG p m v C Y).length /\ vo (JG p m v C Y) j = vo (JG p m v C X) t := by
  intro t ht
  have R := hF.ring
  have q1 : 1 < p ^ m := R.q2
  have hq : 0 < p ^ m := by omega
  have pX := QA (p := p) (m := m) (v := v) C X
  have pY := QA (p := p) (m := m) (v := v) C Y
  have lX := Qz (p := p) (m := m) (v := v) hX
  have hk := fun f (L : Lin p m v C.toNat f) (h1 : Ann p m f (JQ p m v C Y)) => (Q0 hF hX eX L).2 (h f L ((Q0 hF hY eY L).1 h1)) t (by omega)
  have ht' := pX.1 t ht
  have hc := Jgy hF hY eY (a := en p m (row (JQ p m v C X) t)) (fun c => JX hF _ c) hk (c := (vo (JG p m v C X) t).toNat) (by omega)
  have hu := YK hF hX eX (i := t) (t := t) ht ht
  rw [if_pos rfl] at hu
  rw [Za hF (z := 1) q1 hu] at hc
  refine Classical.byContradiction fun hno => ?_
  rw [YH hF _ fun i hi => ?_] at hc
  . omega
  show Jv p m (dv p v) (en p m (row (JQ p m v C X) t) (vo (JG p m v C Y) i).toNat) (en p m (row (JQ p m v C Y) i) (vo (JG p m v C X) t).toNat) = 0
  have hi' := pY.1 i hi
  rcases Int.lt_trichotomy (vo (JG p m v C Y) i) (vo (JG p m v C X) t) with h1 | h1 | h1
  . rw [Za hF (z := 0) hq (Jio hF hX eX ht (c := (vo (JG p m v C Y) i).toNat) (by omega)), R.Mc hq (JX hF _ _), R.M0 (JX hF _ _)]
  . exact absurd ⟨i, hi, h1⟩ hno
  . rw [Za hF (z := 0) hq (Jio hF hY eY hi (c := (vo (JG p m v C X) t).toNat) (by omega)), R.M0 (JX hF _ _)]
theorem Jn8 (hF : FV P M mf p m v) (hX : shp C X) (eX : Els p m X) (hY : shp C Y) (eY : Els p m Y) (h : ∀ f, Lin p m v C.toNat f -> (Ann p m f X ↔ Ann p m f Y)) : JG p m v C X = JG p m v C Y /\ JQ p m v C X = JQ p m v C Y := by
 have R := hF.ring; have q1 : 1 < p ^ m := R.q2; have hq : 0 < p ^ m := by omega
 have pX := QA (p := p) (m := m) (v := v) C X; have pY := QA (p := p) (m := m) (v := v) C Y; have lX := Qz (p := p) (m := m) (v := v) hX; have lY := Qz (p := p) (m := m) (v := v) hY; have sX := Zc (p := p) (m := m) (v := v) hX; have sY := Zc (p := p) (m := m) (v := v) hY; have e : JG p m v C X = JG p m v C Y := Qbo pX pY (Jpp hF hX eX hY eY fun f L => (h f L).2) (Jpp hF hY eY hX eX fun f L => (h f L).1); refine ⟨e, Jto (w := C.toNat) (by rw [lX, lY, e]) (YL hF eX) (YL hF eY) (fun t ht => ⟨Qe sX ht, Qe sY (by rw [lY, <- e, <- lX]; exact ht)⟩) fun t c ht hc => ?_⟩; have ht' : t < (JG p m v C Y).length := by rw [<- e, <- lX]; exact ht
 have hk := fun f (L : Lin p m v C.toNat f) (h1 : Ann p m f (JQ p m v C Y)) => (Q0 hF hX eX L).2 ((h f L).2 ((Q0 hF hY eY L).1 h1)) t ht; have hc' := Jgy hF hY eY (a := en p m (row (JQ p m v C X) t)) (fun c => JX hF _ c) hk (c := c) hc; rw [hc']; have hd : ∀ i, i < (JG p m v C Y).length -> en p m (row (JQ p m v C X) t) (vo (JG p m v C Y) i).toNat = if t = i then 1 else 0 := fun i hi => by
  have := YK hF hX eX (i := i) (t := t) (by rw [e]; exact hi) (by rw [e]; exact ht'); rw [e] at this; by_cases e' : t = i
  .rw [if_pos e'] at this ⊢; exact Za hF q1 this
  .rw [if_neg e'] at this ⊢; exact Za hF hq this
 rw [Zw hF (f := fun i => Jv p m (dv p v) (en p m (row (JQ p m v C X) t) (vo (JG p m v C Y) i).toNat) (en p m (row (JQ p m v C Y) i) c)) (j := t) (R.Ml _ _) _ ht' fun i hi hne => by
  show Jv p m (dv p v) _ _ = 0; rw [hd i hi, if_neg (fun q => hne q.symm), R.Mc hq (JX hF _ _), R.M0 (JX hF _ _)]]
 show Jv p m (dv p v) _ _ = _; rw [hd t ht', if_pos rfl, R.Mc q1 (JX hF _ _), R.M1 (JX hF _ _)]
end
end Go.Proofs.YtngdhnijkgjhcaaGreat
namespace Go.Proofs.YtngdhnijkgjhcaaGreat
section
variable {p m v : Nat} {P M : Int} {mf : LI} {X Y : LL} {C D : Int} {w wy : Nat}
theorem Qek {a o : LI} {x : Int} (h : x ≠ 0) : adm p m v a x o = adx p m v a x o := by unfold adx; rw [if_neg h]
end
end Go.Proofs.YtngdhnijkgjhcaaGreat
namespace Go.Proofs.YtngdhnijkgjhcaaGreat
variable {P M : Int} {mf : LI} {p m v : Nat} {C : Int} {X Y : LL}
structure Cnl (C : Nat) (X : LL) (q : Nat -> Nat) : Prop where
  lt : ∀ i, i < X.length -> q i < C
  one : ∀ i, i < X.length -> ∀ t, t < X.length -> vo (row X t) (q i) = if t = i then 1 else 0
  lf : ∀ i, i < X.length -> ∀ c, c < q i -> vo (row X i) c = 0
  asc : ∀ i j, i < j -> j < X.length -> q i < q j
def Jot (C : Int) (X : LL) : Prop := ∃ q, Cnl C.toNat X q
theorem Jir (a o : LI) : adx p m v a 0 o = a := by unfold adx; rw [if_pos rfl]
theorem ng_0 (hF : FV P M mf p m v) : Ng p m 0 = 0 := (Jk8 hF ⟨by omega, by
 have := hF.ring.q2; have h : (0 : Int) < ((p ^ m : Nat) : Int) := by exact_mod_cast (by omega : 0 < p ^ m)
 exact h⟩).2 rfl
theorem Qd9 (hF : FV P M mf p m v) {S : ES} {k : Nat} (he : Els p m S.X) (hj : S.pv.length < S.X.length) (h1 : ∀ t, t < S.X.length -> vo (row S.X t) k = if t = S.pv.length then 1 else 0) : (es1 p m v k S.pv.length S.pv.length S).X = S.X := by
 rw [Jdi]; have e1 : swq S.X S.pv.length S.pv.length = S.X := by unfold swq; rw [if_pos rfl]
 rw [e1]; have e2 : scq p m v S.X S.pv.length (vo (row S.X S.pv.length) k) = S.X := by
  unfold scq; rw [h1 _ hj, if_pos rfl, Qap hF, Jzu hF (Qb he _)]; refine QL (by simp) fun i hi => ?_; rw [Qn]; split
  .rename_i h; rw [h.1]
  .rfl
 rw [e2]; refine QL (by rw [Zj]) fun i hi => ?_; rw [Zj] at hi; rw [ZK hi]; split
 .rfl
 .rename_i hne
  rw [h1 i hi, if_neg hne, ng_0 hF, Jir]
theorem Jns (hF : FV P M mf p m v) {q : Nat -> Nat} {w wy : Nat} {Y : LL} {d : Int} (hq : Cnl w X q) (he : Els p m X) : ∀ k, k <= w -> (elim p m v k ⟨X, Y, [], d⟩).X = X /\ ∃ j, j <= X.length /\ (∀ i, i < j -> q i < k) /\ (∀ i, j <= i -> i < X.length -> k <= q i) /\ (elim p m v k ⟨X, Y, [], d⟩).pv = (List.range j).map fun i => ((q i : Nat) : Int)
 | 0, _ => ⟨rfl, 0, Nat.zero_le _, fun i h => absurd h (Nat.not_lt_zero i), fun i _ _ => Nat.zero_le _, rfl⟩
 | k + 1, hk => by
  obtain ⟨h1, j, hj, h2, h3, h4⟩ := Jns hF (Y := Y) (d := d) (wy := wy) hq he k (by omega); rw [Q7]; generalize elim p m v k ⟨X, Y, [], d⟩ = S at h1 h4 ⊢; have hl : S.pv.length = j := by rw [h4]; simp
  unfold Yo; rw [hl, h1]; by_cases hjn : j < X.length
  .by_cases hqk : q j = k
   .have hn : nz X k j = j := (Jnl (Nat.le_refl _) hj (fun t a b => by omega) (fun hh => by
     have := hq.one j hh j hh; rw [hqk, if_pos rfl] at this; rw [this]; decide)).symm
    rw [hn, if_pos ⟨hjn, hjn⟩]; have e := Qd9 (k := k) hF (S := S) (by rw [h1]; exact he) (by rw [hl, h1]; exact hjn) (fun t ht => by
     rw [h1] at ht ⊢; rw [hl, <- hqk]; exact hq.one j hjn t ht)
    rw [hl] at e; refine ⟨e.trans h1, j + 1, hjn, fun i hi => ?_, fun i a b => ?_, ?_⟩
    .rcases Nat.lt_or_ge i j with h | h
     .have := h2 i h; omega
     .have : i = j := by omega
      subst this; omega
    .have := hq.asc j i (by omega) b; omega
    .show S.pv ++ [(k : Int)] = _; rw [h4, List.range_succ, List.map_append, List.map_cons, List.map_nil, hqk]
   .have hlt : k < q j := by have := h3 j (Nat.le_refl _) hjn; omega
    have hz : ∀ t, j <= t -> t < X.length -> vo (row X t) k = 0 := fun t a b => hq.lf t b k (by
     rcases Nat.lt_or_ge j t with h | h
     .have := hq.asc j t h b; omega
     .have : t = j := by omega
      subst this; exact hlt)
    have hn : ¬ nz X k j < X.length := fun hh => (Ja8 X k j hj).2.2 hh (hz _ (Jtk X k j) hh); rw [if_neg (fun hh => hn hh.2)]; refine ⟨h1, j, hj, fun i hi => by have := h2 i hi; omega, fun i a b => ?_, h4⟩; rcases Nat.lt_or_ge j i with h | h
    .have := hq.asc j i h b; omega
    .have : i = j := by omega
     subst this; omega
  .rw [if_neg (fun hh => hjn hh.1)]; exact ⟨h1, j, hj, fun i hi => by have := h2 i hi; omega, fun i a b => by omega, h4⟩
theorem Jcs (hF : FV P M mf p m v) (hs : shp C X) (he : Els p m X) {q : Nat -> Nat} (hq : Cnl C.toNat X q) : JQ p m v C X = X /\ JG p m v C X = (List.range X.length).map fun i => ((q i : Nat) : Int) := by
 obtain ⟨h1, j, hj, h2, h3, h4⟩ := Jns (wy := 0) (Y := List.replicate X.length []) (d := 1) hF hq he C.toNat (Nat.le_refl _); have e : j = X.length := by
  rcases Nat.lt_or_ge j X.length with h | h
  .have := h3 j (Nat.le_refl _) h; have := hq.lt j h; omega
  .omega
 subst e; have hP : JG p m v C X = (List.range X.length).map fun i => ((q i : Nat) : Int) := h4; refine ⟨?_, hP⟩; show (elim p m v C.toNat ⟨X, List.replicate X.length [], [], 1⟩).X.take (elim p m v C.toNat ⟨X, List.replicate X.length [], [], 1⟩).pv.length = X; rw [h1, h4, List.length_map, List.length_range, List.take_length]
theorem Jag (hs : shp C X) {i : Nat} (hi : i < (JG p m v C X).length) : (((vo (JG p m v C X) i).toNat : Nat) : Int) = vo (JG p m v C X) i /\ (vo (JG p m v C X) i).toNat < C.toNat := by
 have h := (QA (p := p) (m := m) (v := v) C X).1 i hi; omega
theorem Jlo (hF : FV P M mf p m v) (hs : shp C X) (he : Els p m X) : Cnl C.toNat (JQ p m v C X) fun i => (vo (JG p m v C X) i).toNat := by
 have hl := Qz (p := p) (m := m) (v := v) hs; refine ⟨fun i hi => (Jag hs (by omega)).2, fun i hi t ht => YK hF hs he (by omega) (by omega), fun i hi c hc => ?_, fun i j hij hj => ?_⟩
 .exact Jio hF hs he (by omega) (by have := (Jag (p := p) (m := m) (v := v) hs (i := i) (by omega)).1; omega)
 .have h := (QA (p := p) (m := m) (v := v) C X).2 i j hij (by omega); have h1 := (Jag (p := p) (m := m) (v := v) hs (i := i) (by omega)).1; have h2 := (Jag (p := p) (m := m) (v := v) hs (i := j) (by omega)).1; omega
theorem Jlp (hF : FV P M mf p m v) (hs : shp C X) (he : Els p m X) : JQ p m v C (JQ p m v C X) = JQ p m v C X /\ JG p m v C (JQ p m v C X) = JG p m v C X := by
 have h := Jcs hF (Zc hs) (YL hF he) (Jlo hF hs he); refine ⟨h.1, h.2.trans ?_⟩; have hl := Qz (p := p) (m := m) (v := v) hs; refine List.ext_getElem (by simp [hl]) fun i h1 h2 => ?_; simp only [List.getElem_map, List.getElem_range]; rw [(Jag hs h2).1]; unfold vo; rw [List.getD_eq_getElem?_getD, List.getElem?_eq_getElem h2]; rfl
theorem Qba (hF : FV P M mf p m v) (hs : shp C X) (he : Els p m X) : Jot C X ↔ JQ p m v C X = X :=
 ⟨fun ⟨q, hq⟩ => (Jcs hF hs he hq).1, fun h => ⟨_, by have := Jlo hF hs he; rwa [h] at this⟩⟩
theorem Cnl.len {w : Nat} {q : Nat -> Nat} (h : Cnl w X q) : X.length <= w := by
  have : ∀ k, k <= X.length -> k = 0 ∨ k <= q (k - 1) + 1 := by
    intro k
    induction k with
    | zero => intro _; exact .inl rfl
    | succ k ih =>
      intro hk
      refine .inr ?_
      rcases ih (by omega) with h0 | h1
      . subst h0; omega
      . rcases Nat.eq_zero_or_pos k with h0 | h0
        . subst h0; omega
        . have := h.asc (k - 1) k (by omega) (by omega)
          rw [Nat.add_sub_cancel]; omega
  rcases this X.length (Nat.le_refl _) with h0 | h1
  . omega
  . rcases Nat.eq_zero_or_pos X.length with h0 | h0
    . omega
    . have := h.lt (X.length - 1) (by omega); omega
end Go.Proofs.YtngdhnijkgjhcaaGreat
namespace Go.Proofs.YtngdhnijkgjhcaaGreat
variable {P M : Int} {mf : LI} {p m v : Nat} {C : Int} {X Y : LL} {w : Nat}
def Sb (p m : Nat) (x y : Int) : Int := ((J0 p m (inE (p ^ m) x) (QH p m (inE (p ^ m) y)) : Nat) : Int)
def sbx (p m v : Nat) (a : LI) (x : Int) (o : LI) : LI := if x = 0 then a else (List.range a.length).map fun i => if i < o.length then Sb p m (vo a i) (Ml p m v x (vo o i)) else vo a i
theorem el_ad0 (hF : FV P M mf p m v) {a : Int} (ha : El p m a) {z : Int} (hz : inE (p ^ m) z = 0) : Ad p m a z = a := by
 unfold Ad; rw [hz, hF.ring.Az (J6 (by have := hF.ring.q2; omega) _), Z2 ha]
theorem ml_z (hF : FV P M mf p m v) {x z : Int} (hz : inE (p ^ m) z = 0 ∨ inE (p ^ m) x = 0) : Ml p m v x z = 0 := by
 have hq : 0 < p ^ m := by have := hF.ring.q2; omega
 unfold Ml; rcases hz with h | h
 .rw [h, hF.ring.M0 (J6 hq _)]; rfl
 .rw [h, hF.ring.Mc hq (J6 hq _), hF.ring.M0 (J6 hq _)]; rfl
theorem ZP (hF : FV P M mf p m v) : inE (p ^ m) 0 = 0 := Qt (x := 0) (by have := hF.ring.q2; omega)
theorem adm_el (hF : FV P M mf p m v) {a o : LI} {x : Int} (ha : Elr p m a) : adm p m v a x o = adx p m v a x o := by
 by_cases h : x = 0
 .subst h; rw [Jir]; refine List.ext_getElem (by rw [Jcv]) fun i h1 h2 => ?_; have e : vo (adm p m v a 0 o) i = vo a i := by
   rw [Jaw h2]; split
   .rfl
   .exact el_ad0 hF (Z3 ha h2) (by rw [ml_z hF (.inr (ZP hF)), ZP hF])
  unfold vo at e
  rwa [List.getD_eq_getElem?_getD, List.getElem?_eq_getElem h1, List.getD_eq_getElem?_getD, List.getElem?_eq_getElem h2] at e
 .exact Qek h
theorem neg_ml (hF : FV P M mf p m v) {x y : Nat} (hx : x < p ^ m) (hy : y < p ^ m) : QH p m (Jv p m (dv p v) x y) = Jv p m (dv p v) (QH p m x) y := by
 have R := hF.ring; have hp : 0 < p := by have := hF.p2; omega
 have hn := Yb (m := m) hp x; have h1 : J0 p m (Jv p m (dv p v) x y) (Jv p m (dv p v) (QH p m x) y) = 0 := by
  rw [R.Mc hx hy, R.Mc hn hy, <- R.Md hy hx hn, Q2 hp hx, R.M0 hy]
 have h2 := Q2 (m := m) hp (R.Ml x y); have h3 := R.Ml (QH p m x) y; have h4 := Yb (m := m) hp (Jv p m (dv p v) x y); have h5 : J0 p m (J0 p m (Jv p m (dv p v) (QH p m x) y) (Jv p m (dv p v) x y)) (QH p m (Jv p m (dv p v) x y)) = Jv p m (dv p v) (QH p m x) y := by
  rw [R.Aa h3 (R.Ml x y) h4, h2, R.Az h3]
 rw [R.Ac (Jv p m (dv p v) (QH p m x) y), h1, R.Ac, R.Az h4] at h5; exact h5
theorem Jtq (hF : FV P M mf p m v) {x : Nat} (h : x < p ^ m) : inE (p ^ m) ((x : Nat) : Int) = x := Qt h
theorem Qda (hF : FV P M mf p m v) {a o : LI} {x : Int} (ha : Elr p m a) (hx : El p m x) : sbx p m v a x o = adx p m v a (Ng p m x) o := by
 have R := hF.ring; have hp : 0 < p := by have := hF.p2; omega
 have hq : 0 < p ^ m := by have := R.q2; omega
 unfold sbx; by_cases h : x = 0
 .subst h; rw [if_pos rfl, ng_0 hF, Jir]
 .rw [if_neg h]; have hn : Ng p m x ≠ 0 := fun e => h ((Jk8 hF hx).1 e); unfold adx; rw [if_neg hn]; refine List.ext_getElem (by simp [adm]) fun i h1 h2 => ?_; simp only [List.length_map, List.length_range] at h1; simp only [adm, List.getElem_map, List.getElem_range]; have hai : El p m (vo a i) := Z3 ha h1; by_cases ho : vo o i = 0
  .rw [if_pos ho, ho]; split
   .unfold Sb; rw [ml_z hF (.inl (ZP hF)), ZP hF]; have : QH p m 0 = 0 := by
     have h0 := Q2 (m := m) hp hq; rw [R.Ac, R.Az (Yb hp 0)] at h0; exact h0
    rw [this, R.Az (J6 hq _), Z2 hai]
   .rfl
  .have hi : i < o.length := by
    rcases Nat.lt_or_ge i o.length with hh | hh
    .exact hh
    .exact absurd (Jdc hh) ho
   rw [if_pos hi, if_neg ho]; unfold Sb Ad Ml Ng; rw [Jtq hF (R.Ml _ _), Jtq hF (R.Ml _ _), Jtq hF (Yb hp _), neg_ml hF (J6 hq _) (J6 hq _)]
def rsd (p m v : Nat) (Q : Nat -> Nat) (X : LL) (u : LI) : Nat -> LI
  | 0 => u
  | k + 1 => adx p m v (rsd p m v Q X u k) (Ng p m (vo u (Q k))) (row X k)
theorem YB (Q : Nat -> Nat) (u : LI) : ∀ k, (rsd p m v Q X u k).length = u.length
 | 0 => rfl
 | k + 1 => by rw [rsd, Jes, YB Q u k]
theorem Jci (hp : 0 < p) (Q : Nat -> Nat) {u : LI} (hu : Elr p m u) : ∀ k, Elr p m (rsd p m v Q X u k)
 | 0 => hu
 | k + 1 => Jls hp (Jci hp Q hu k)
theorem Jz2 (hF : FV P M mf p m v) {Q : Nat -> Nat} {u : LI} {c : Nat} (hc : c < u.length) : ∀ k, en p m (rsd p m v Q X u k) c = J0 p m (en p m u c) (fs p m (fun i => Jv p m (dv p v) (inE (p ^ m) (Ng p m (vo u (Q i)))) (en p m (row X i) c)) k)
 | 0 => by
  have R := hF.ring; show en p m u c = J0 p m (en p m u c) 0; rw [R.Az (JX hF u c)]
 | k + 1 => by
  have R := hF.ring; rw [rsd, Jli hF (by rw [YB]; exact hc), Jz2 hF hc k, R.Aa (JX hF u c) (Zx hF _ k) (R.Ml _ _)]; rfl
theorem Jed (hF : FV P M mf p m v) {f : (Nat -> Nat) -> Nat} (L : Lin p m v w f) {Q : Nat -> Nat} {u : LI} (hu : u.length = w) (hX : Ann p m f X) : ∀ k, k <= X.length -> f (en p m (rsd p m v Q X u k)) = f (en p m u)
 | 0, _ => rfl
 | k + 1, hk => by
  have R := hF.ring; rw [rsd, L.adx hF (by rw [YB]; exact hu), hX k (by omega), R.M0 (J6 (by have := R.q2; omega) _), R.Az (L.lt _), Jed hF L hu hX k (by omega)]
theorem en_vo (hF : FV P M mf p m v) {l : LI} {c : Nat} (h : El p m (vo l c)) : en p m l c = 0 ↔ vo l c = 0 := by
 unfold en; constructor
 .intro h0; have := Z2 h; rw [h0] at this; exact this.symm
 .intro h0; rw [h0, ZP hF]
theorem Jem (hF : FV P M mf p m v) {l : LI} (h : Elr p m l) (c : Nat) : El p m (vo l c) := by
 rcases Nat.lt_or_ge c l.length with hc | hc
 .exact Z3 h hc
 .rw [Jdc hc]; have := hF.ring.q2; exact ⟨by omega, by exact_mod_cast (by omega : 0 < p ^ m)⟩
theorem Jz1 (hF : FV P M mf p m v) {Q : Nat -> Nat} (hlt : ∀ j, j < X.length -> Q j < w) (hone : ∀ j, j < X.length -> ∀ t, t < X.length -> vo (row X t) (Q j) = if t = j then 1 else 0) {u : LI} (hu : u.length = w) (he : Elr p m u) {j : Nat} (hj : j < X.length) : vo (rsd p m v Q X u X.length) (Q j) = 0 := by
  have R := hF.ring
  have hp : 0 < p := by have := hF.p2; omega
  have hq1 : 1 < p ^ m := by have := R.q2; omega
  refine (en_vo hF (Jem hF (Jci hp Q he _) _)).1 ?_
  rw [Jz2 hF (by rw [hu]; exact hlt j hj)]
  have e1 : inE (p ^ m) 1 = 1 := Qt (x := 1) hq1
  have hs : fs p m (fun i => Jv p m (dv p v) (inE (p ^ m) (Ng p m (vo u (Q i)))) (en p m (row X i) (Q j))) X.length = inE (p ^ m) (Ng p m (vo u (Q j))) := by
    refine (Zw hF (f := fun i => Jv p m (dv p v) (inE (p ^ m) (Ng p m (vo u (Q i)))) (en p m (row X i) (Q j))) (j := j) (R.Ml _ _) X.length hj (fun i hi hne => ?_)).trans ?_
    . show Jv p m (dv p v) _ (inE (p ^ m) (vo (row X i) (Q j))) = 0
      rw [hone j hj i hi, if_neg hne, ZP hF, R.M0 (J6 (by omega) _)]
    . show Jv p m (dv p v) _ (inE (p ^ m) (vo (row X j) (Q j))) = _
      rw [hone j hj j hj, if_pos rfl, e1, R.M1 (J6 (by omega) _)]
  rw [hs]
  unfold Ng en
  rw [Jtq hF (Yb hp _), Q2 hp (J6 (by omega) _)]
def Sp (p m v w : Nat) (X : LL) (u : LI) : Prop := ∀ f, Lin p m v w f -> Ann p m f X -> f (en p m u) = 0
end Go.Proofs.YtngdhnijkgjhcaaGreat
namespace Go.Proofs.YtngdhnijkgjhcaaGreat
variable {P M : Int} {mf : LI} {p m v g : Nat} {C : Int} {X Y : LL} {F : GFv}
theorem Qcz {l : LI} {pf : Int -> (Bool -> Prop) -> Prop} {f : Int -> Bool} {Q : Int -> Prop} (hl : l.length <= 1000000) (hp : ∀ x (R : Bool -> Prop), R (f x) -> pf x R)
  (h1 : ∀ k : Nat, k < l.length -> f (vo l k) = true -> (∀ j, j < k -> f (vo l j) = false) -> Q (k : Int)) (h2 : (∀ j, j < l.length -> f (vo l j) = false) -> Q (-1)) : Zl l pf Q := by
 refine ⟨fun z => ∃ k : Nat, z = k /\ k <= l.length /\ ∀ j, j < k -> f (vo l j) = false, fun z => (l.length - z).toNat, ⟨0, rfl, Nat.zero_le _, fun j hj => by omega⟩, ?_⟩; rintro _ ⟨k, rfl, hk, hv⟩; dsimp only; refine ⟨fun hlt => ⟨⟨by omega, by omega⟩, hp _ _ ⟨fun hb => h1 k (by omega) hb hv, fun hb => ⟨Jz (by omega) (by omega), ⟨k + 1, by push_cast; rfl, by omega, fun j hj => ?_⟩, by omega⟩⟩⟩, fun hge => h2 fun j hj => hv j (by omega)⟩; rcases Nat.lt_or_ge j k with h | h
 .exact hv j h
 .have : j = k := by omega
  subst this; exact hb
theorem Jo4 {l : LI} {Q : Int -> Prop} (hl : l.length <= 1000000)
  (h1 : ∀ k : Nat, k < l.length -> vo l k ≠ 0 -> (∀ j, j < k -> vo l j = 0) -> Q (k : Int)) (h2 : (∀ j, j < l.length -> vo l j = 0) -> Q (-1)) : Zl l (fun xc Qc => Yw xc Qc) Q :=
 Qcz (f := fun x => decide (x ≠ 0)) hl (fun x R hR => hR) (fun k hk hb hv => h1 k hk (of_decide_eq_true hb) fun j hj => Classical.not_not.1 (of_decide_eq_false (hv j hj))) (fun hv => h2 fun j hj => Classical.not_not.1 (of_decide_eq_false (hv j hj)))
theorem Cnl.lead {w : Nat} {q : Nat -> Nat} (h : Cnl w X q) {t k : Nat} (ht : t < X.length) (hk : vo (row X t) k ≠ 0) (hz : ∀ j, j < k -> vo (row X t) j = 0) : q t = k := by
  rcases Nat.lt_trichotomy (q t) k with h1 | h1 | h1
  . have := hz _ h1
    rw [h.one t ht t ht, if_pos rfl] at this; exact absurd this (by decide)
  . exact h1
  . exact absurd (h.lf t ht k h1) hk
theorem Ji6 {Q : Bool -> Prop} (hs : shp C X) (h1 : Jot C X -> Q true) (h2 : ¬ Jot C X -> Q false) : Y3 C X Q := by
 obtain ⟨hX, hC, hCe⟩ := QQ hs; have hw : ∀ t, t < X.length -> (row X t).length = C.toNat := fun t ht => Qe hs ht; refine ⟨fun last z => ∃ t : Nat, z = t /\ t <= X.length /\ ∃ q : Nat -> Nat, (∀ i, i < t -> q i < C.toNat /\ (∀ s, s < X.length -> vo (row X s) (q i) = if s = i then 1 else 0) /\ ∀ c, c < q i -> vo (row X i) c = 0) /\ (∀ i j, i < j -> j < t -> q i < q j) /\ (t = 0 -> last = -1) /\ ∀ u, t = u + 1 -> last = (q u : Int), fun _ z => (X.length - z).toNat, ⟨0, rfl, Nat.zero_le _, fun _ => 0, fun i hi => absurd hi (Nat.not_lt_zero i), fun i j _ hj => absurd hj (Nat.not_lt_zero j), fun _ => rfl, fun u hu => by omega⟩, ?_⟩; rintro last _ ⟨t, rfl, ht, q, hq1, hq2, hl0, hl1⟩; dsimp only; refine ⟨fun hlt => ?_, fun hge => ?_⟩
 .have htl : t < X.length := by omega
  have hwt := hw t htl; refine ⟨⟨by omega, by omega⟩, ?_⟩; show Zl (row X t) _ _; have hlast : ∀ q', Cnl C.toNat X q' -> ∀ u, t = u + 1 -> last = (q' u : Int) := fun q' hq' u hu => by
   have hul : u < X.length := by omega
   have := hq'.lead (t := u) (k := q u) hul (by rw [(hq1 u (by omega)).2.1 u hul, if_pos rfl]; decide) (hq1 u (by omega)).2.2; rw [this]; exact hl1 u hu
  refine Jo4 (by omega) (fun k hk hne hz => ?_) (fun hz => ?_)
  .have hkq : ∀ q', Cnl C.toNat X q' -> q' t = k := fun q' hq' => hq'.lead htl hne hz; refine ⟨fun hle => h2 ?_, fun hgt => ?_⟩
   .rintro ⟨q', hq'⟩; rcases Nat.eq_zero_or_pos t with h0 | h0
    .have := hl0 h0; omega
    .have e1 := hlast q' hq' (t - 1) (by omega); have e2 := hq'.asc (t - 1) t (by omega) htl; have e3 := hkq q' hq'; omega
   .refine ⟨⟨by omega, by show (k : Int) < ((row X t).length : Nat); omega⟩, fun hn1 => h2 ?_, fun h1' => ?_⟩
    .rintro ⟨q', hq'⟩; have := hq'.one t htl t htl; rw [hkq q' hq', if_pos rfl] at this; exact hn1 this
    .have hone : vo (row X t) k = 1 := Classical.not_not.1 h1'; refine ⟨fun z => ∃ u : Nat, z = u /\ u <= X.length /\ ∀ j, j < u -> j ≠ t -> vo (row X j) k = 0, fun z => (X.length - z).toNat, ⟨0, rfl, Nat.zero_le _, fun j hj => absurd hj (Nat.not_lt_zero j)⟩, ?_⟩; rintro _ ⟨u, rfl, hu, hju⟩; dsimp only; refine ⟨fun hlt2 => ?_, fun hge2 => ?_⟩
     .have hul : u < X.length := by omega
      have hwu := hw u hul; refine ⟨fun _ => u = t ∨ vo (row X u) k = 0, ⟨⟨by omega, by omega⟩, fun hne2 => ⟨⟨by omega, by show (k : Int) < ((row X u).length : Nat); omega⟩, fun hnz => h2 ?_, fun hz2 => .inr (Classical.not_not.1 hz2)⟩, fun he => .inl (by have := Classical.not_not.1 he; omega)⟩, ?_⟩
      .rintro ⟨q', hq'⟩; have := hq'.one t htl u hul; rw [hkq q' hq', if_neg (by omega)] at this; exact hnz this
      .intro b hb; refine ⟨Jz (by omega) (by omega), ⟨u + 1, by push_cast; rfl, by omega, fun j hj hne2 => ?_⟩, by omega⟩; rcases Nat.lt_or_ge j u with h | h
       .exact hju j h hne2
       .have : j = u := by omega
        subst this; exact hb.resolve_left hne2
     .obtain ⟨q2, e1, e2⟩ : ∃ q2 : Nat -> Nat, q2 t = k /\ ∀ i, i ≠ t -> q2 i = q i := ⟨fun i => if i = t then k else q i, if_pos rfl, fun i h => if_neg h⟩
      refine ⟨Jz (by omega) (by omega), ⟨t + 1, by push_cast; rfl, by omega, q2, fun i hi => ?_, fun i j hij hj => ?_, fun h0 => by omega, fun u hu => ?_⟩, by omega⟩
      .by_cases hit : i = t
       .subst hit; rw [e1]; refine ⟨by omega, fun s hs' => ?_, fun c hc => hz c hc⟩; by_cases hsi : s = i
        .subst hsi; rw [if_pos rfl]; exact hone
        .rw [if_neg hsi]; exact hju s (by omega) hsi
       .rw [e2 i hit]; exact hq1 i (by omega)
      .have hit : i ≠ t := by omega
       rw [e2 i hit]; by_cases hjt : j = t
       .subst hjt; rw [e1]; have hlu := hl1 (j - 1) (by omega); have : q i <= q (j - 1) := by
         rcases Nat.lt_or_ge i (j - 1) with h | h
         .exact Nat.le_of_lt (hq2 i (j - 1) h (by omega))
         .have : i = j - 1 := by omega
          rw [this]; exact Nat.le_refl _
        omega
       .rw [e2 j hjt]; exact hq2 i j hij (by omega)
      .have : u = t := by omega
       subst this; rw [e1]
  .have hge : (-1 : Int) <= last := by
    rcases Nat.eq_zero_or_pos t with h0 | h0
    .rw [hl0 h0]; exact Int.le_refl _
    .have := hl1 (t - 1) (by omega); omega
   refine ⟨fun _ => h2 ?_, fun hgt => absurd hge hgt⟩; rintro ⟨q', hq'⟩; have := hq'.one t htl t htl; rw [hz (q' t) (by have := hq'.lt t htl; omega), if_pos rfl] at this; exact absurd this (by decide)
 .have : t = X.length := by omega
  subst this; exact h1 ⟨q, fun i hi => (hq1 i hi).1, fun i hi t ht => (hq1 i hi).2.1 t ht, fun i hi => (hq1 i hi).2.2, hq2⟩
open Classical in
noncomputable def sck (P M : Int) (mf : LI) (C : Int) (X : LL) : Int := if mck P M mf C X ≠ 0 then mck P M mf C X else if Jot C X then 0 else 5
theorem Jpj (h : mck P M mf C X ≠ 0) : sck P M mf C X = mck P M mf C X := if_pos h
theorem Jpk (h : mck P M mf C X = 0) (h2 : ¬ Jot C X) : sck P M mf C X = 5 := by unfold sck; rw [if_neg (fun hh => hh h), if_neg h2]
theorem Jpi (h : mck P M mf C X = 0) (h2 : Jot C X) : sck P M mf C X = 0 := by unfold sck; rw [if_neg (fun hh => hh h), if_pos h2]
theorem Jzt (h : sck P M mf C X = 0) : mck P M mf C X = 0 /\ Jot C X := by
 by_cases h1 : mck P M mf C X = 0
 .by_cases h2 : Jot C X
  .exact ⟨h1, h2⟩
  .rw [Jpk h1 h2] at h; exact absurd h (by decide)
 .rw [Jpj h1] at h; exact absurd h h1
theorem Zq {Q : Int -> Prop} (h : Q (sck P M mf C X)) : YQ P M mf C X Q := by
 refine Jmd ⟨fun hne => by rw [Jpj hne] at h; exact h, fun he => ?_⟩; have h0 : mck P M mf C X = 0 := Classical.not_not.1 he; obtain ⟨hV, hs, hE⟩ := Jae h0; refine Ji6 hs (fun hc => ?_) (fun hc => ?_)
 .rw [Jpi h0 hc] at h; exact ⟨fun hb => (by cases hb), fun _ => h⟩
 .rw [Jpk h0 hc] at h; exact ⟨fun _ => h, fun hb => by cases hb⟩
theorem Qx {a b : LI} {Q : Bool -> Prop} (ha : a.length <= 1000000) (h1 : a = b -> Q true) (h2 : a ≠ b -> Q false) : QP a b Q := by
 refine ⟨fun hne => h2 fun e => hne (by rw [e]), fun he => ?_⟩; have hl : a.length = b.length := by have := Classical.not_not.1 he; omega
 refine ⟨fun z => ∃ t : Nat, z = t /\ t <= a.length /\ ∀ j, j < t -> vo a j = vo b j, fun z => (a.length - z).toNat, ⟨0, rfl, Nat.zero_le _, fun j hj => absurd hj (Nat.not_lt_zero j)⟩, ?_⟩; rintro _ ⟨t, rfl, ht, hj⟩; dsimp only; refine ⟨fun hlt => ⟨⟨by omega, by omega⟩, ⟨by omega, by omega⟩, fun hne => h2 fun e => hne (by rw [e]), fun heq => ⟨Jz (by omega) (by omega), ⟨t + 1, by push_cast; rfl, by omega, fun j hj' => ?_⟩, by omega⟩⟩, fun hge => h1 ?_⟩
 .rcases Nat.lt_or_ge j t with h | h
  .exact hj j h
  .have : j = t := by omega
   subst this; exact Classical.not_not.1 heq
 .refine List.ext_getElem hl fun i i1 i2 => ?_; have := hj i (by omega); unfold vo at this
  rwa [List.getD_eq_getElem?_getD, List.getElem?_eq_getElem i1, List.getD_eq_getElem?_getD, List.getElem?_eq_getElem i2] at this
theorem YA {X Y : LL} {Q : Bool -> Prop} (hX : X.length <= 1000000) (hr : ∀ t, t < X.length -> (row X t).length <= 1000000) (h1 : X = Y -> Q true) (h2 : X ≠ Y -> Q false) : QG X Y Q := by
 refine ⟨fun hne => h2 fun e => hne (by rw [e]), fun he => ?_⟩; have hl : X.length = Y.length := by have := Classical.not_not.1 he; omega
 refine ⟨fun z => ∃ t : Nat, z = t /\ t <= X.length /\ ∀ j, j < t -> row X j = row Y j, fun z => (X.length - z).toNat, ⟨0, rfl, Nat.zero_le _, fun j hj => absurd hj (Nat.not_lt_zero j)⟩, ?_⟩; rintro _ ⟨t, rfl, ht, hj⟩; dsimp only; refine ⟨fun hlt => ⟨⟨by omega, by omega⟩, ⟨by omega, by omega⟩, ?_⟩, fun hge => h1 (QL hl fun i hi => hj i (by omega))⟩; have htl : t < X.length := by omega
 by_cases e : row X t = row Y t
 .refine ⟨true, Qx (hr t htl) (fun _ => rfl) (fun hne => absurd e hne), fun hb => (by cases hb), fun _ => ⟨Jz (by omega) (by omega), ⟨t + 1, by push_cast; rfl, by omega, fun j hj' => ?_⟩, by omega⟩⟩; rcases Nat.lt_or_ge j t with h | h
  .exact hj j h
  .have : j = t := by omega
   subst this; exact e
 .exact ⟨false, Qx (hr t htl) (fun e' => absurd e' e) (fun _ => rfl), fun _ => h2 fun e' => e (by rw [e']), fun hb => (by cases hb)⟩
theorem Je9 {Q : Int -> Prop} (h : Q (sck P M mf C X)) : Jai P M mf C X Q := by
 refine Juq ⟨fun hne => by rw [Jpj hne] at h; exact h, fun he => ?_⟩; have h0 : mck P M mf C X = 0 := Classical.not_not.1 he; obtain ⟨hV, hs, hE⟩ := Jae h0; obtain ⟨p', m', v', hF, hE'⟩ := hE; refine Jhe hF hs hE' ?_; have hcl := Zc (p := p') (m := m') (v := v') hs; refine YA (by have := QZ hcl; omega) (fun t ht => by have := Qe hcl ht; have := QQ hs; omega) (fun e => ?_) (fun e => ?_)
 .rw [Jpi h0 ((Qba hF hs hE').2 e)] at h; exact ⟨fun hb => (by cases hb), fun _ => h⟩
 .rw [Jpk h0 (fun hc => e ((Qba hF hs hE').1 hc))] at h; exact ⟨fun _ => h, fun hb => by cases hb⟩
end Go.Proofs.YtngdhnijkgjhcaaGreat
namespace Go.Proofs.YtngdhnijkgjhcaaGreat
variable {P M : Int} {mf : LI} {p m v g : Nat} {C : Int} {X Y : LL} {F : GFv}
def pvl (q : Nat -> Nat) (n : Nat) : LI := (List.range n).map fun i => ((q i : Nat) : Int)
theorem QM (q : Nat -> Nat) (n : Nat) : (pvl q n).length = n := by simp [pvl]
theorem Jdn {q : Nat -> Nat} {n i : Nat} (h : i < n) : vo (pvl q n) i = (q i : Int) := Jdo h
theorem Jmc {q : Nat -> Nat} {Q : LI -> Prop} (hs : shp C X) (hq : Cnl C.toNat X q) (h : Q (pvl q X.length)) : Jam C X Q := by
 obtain ⟨hX, hC, hCe⟩ := QQ hs; refine ⟨⟨by omega, by omega, by omega⟩, fun x z => ∃ t : Nat, z = t /\ t <= X.length /\ x.length = X.length /\ ∀ j, j < t -> vo x j = (q j : Int), fun _ z => (X.length - z).toNat, ⟨0, rfl, Nat.zero_le _, by simp, fun j hj => absurd hj (Nat.not_lt_zero j)⟩, ?_⟩; rintro x _ ⟨t, rfl, ht, hx, hj⟩; dsimp only; refine ⟨fun hlt => ?_, fun hge => ?_⟩
 .have htl : t < X.length := by omega
  refine ⟨⟨by omega, by omega⟩, ?_⟩; show Zl (row X t) _ _; refine Jo4 (by have := Qe hs htl; omega) (fun k hk hne hz => ?_) (fun hz => ?_)
  .have e := hq.lead htl hne hz; refine ⟨⟨by omega, by omega⟩, Jz (by omega) (by omega), ⟨t + 1, by push_cast; rfl, by omega, by rw [Qk, List.length_set]; exact hx, fun j hj' => ?_⟩, by omega⟩; rw [Qk, J5]; by_cases e2 : t = j
   .subst e2; rw [if_pos ⟨rfl, by omega⟩, e]
   .rw [if_neg (fun hh => e2 hh.1)]; exact hj j (by omega)
  .have h1 := hq.one t htl t htl; rw [hz (q t) (by have := hq.lt t htl; have := Qe hs htl; omega), if_pos rfl] at h1; exact absurd h1 (by decide)
 .have : x = pvl q X.length := QY (by rw [hx, QM]) fun i hi => by rw [hj i (by omega), Jdn (by omega)]
  rw [this]; exact h
theorem w_Sub {x y : Int} {Q : Int -> Prop} (K : GFk F p m v g) (h : Q (Sb p m x y)) : Jun F x y Q := by
 refine Jsu K (v_Add K ?_); rw [Qt (Yb (by have := K.fv.p2; omega) _)]; exact h
theorem Jy3 {a o : LI} {x : Int} {k : Nat} (h0 : x ≠ 0) (hk : k < a.length) : vo (sbx p m v a x o) k = if k < o.length then Sb p m (vo a k) (Ml p m v x (vo o k)) else vo a k := by
 unfold sbx; rw [if_neg h0, Jdo hk]
theorem Qc9 (a o : LI) (x : Int) : (sbx p m v a x o).length = a.length := by
 unfold sbx; split
 .rfl
 .simp
theorem Jox {a o : LI} {x : Int} {Q : LI -> Prop} (K : GFk F p m v g) (hl : o.length <= a.length) (ha : a.length <= 1000000) (h : Q (sbx p m v a x o)) : Jbk F a x o Q := by
 refine ⟨fun h0 => by unfold sbx at h; rwa [if_pos h0] at h, fun h0 => ?_⟩; refine ⟨fun y z => ∃ t : Nat, z = t /\ t <= o.length /\ y.length = a.length /\ ∀ k, k < a.length -> vo y k = if k < t then vo (sbx p m v a x o) k else vo a k, fun y z => (o.length - z).toNat, ⟨0, rfl, Nat.zero_le _, rfl, fun k hk => by simp⟩, ?_⟩; rintro y _ ⟨t, rfl, ht, hy, hk⟩; dsimp only; rw [JU, JU]; refine ⟨fun hlt => ⟨⟨by omega, by omega⟩, ⟨by omega, by omega⟩, _, Jml K rfl, _, w_Sub K rfl, ⟨by omega, by omega⟩, Jz (by omega) (by omega), ⟨t + 1, by push_cast; rfl, by omega, by rw [Qk, List.length_set]; exact hy, fun k hk' => ?_⟩, by omega⟩, fun hge => ?_⟩
 .rw [Qk, J5]; by_cases e : t = k
  .subst e; rw [if_pos ⟨rfl, by omega⟩, if_pos (by omega), Jy3 h0 hk', if_pos (by omega), hk t hk', if_neg (by omega)]; rfl
  .rw [if_neg (fun h => e h.1), hk k hk']; by_cases hkt : k < t
   .rw [if_pos hkt, if_pos (by omega)]
   .rw [if_neg hkt, if_neg (by omega)]
 .have : y = sbx p m v a x o := QY (by rw [hy, Qc9]) fun k hk' => by
   rw [hk k (by omega)]; split
   .rfl
   .rw [Jy3 h0 (by omega), if_neg (by omega)]
  rw [this]; exact h
theorem Jd5 {l : LL} {q : Nat -> Nat} {Q : LL -> Prop} (hF : FV P M mf p m v) (hs : shp C X) (hq : Cnl C.toNat X q) (hl : l.length <= 1000) (hw : ∀ t, t < l.length -> (row l t).length = C.toNat) (hE : Els p m l)
  (h : Q (l.map fun u => rsd p m v q X u X.length)) : YR P M mf C X l Q := by
 obtain ⟨hX, hC, hCe⟩ := QQ hs; refine v_New (fun hV => absurd ⟨p, m, v, hF⟩ hV) fun F p' m' v' g' K e1 e2 e3 => ?_; have hF' : FV P M mf p' m' v' := by rw [<- e1, <- e2, <- e3]; exact K.fv
 obtain ⟨rfl, rfl, rfl⟩ := hF.uniq3 hF'; have hp : 0 < p := by have := hF.p2; omega
 refine Jmc hs hq ?_; refine ⟨⟨by omega, by omega, by omega⟩, fun x z => ∃ t : Nat, z = t /\ t <= l.length /\ x.length = l.length /\ ∀ j, j < t -> row x j = rsd p m v q X (row l j) X.length, fun _ z => (l.length - z).toNat, ⟨0, rfl, Nat.zero_le _, by simp, fun j hj => absurd hj (Nat.not_lt_zero j)⟩, ?_⟩; rintro x _ ⟨t, rfl, ht, hx, hj⟩; dsimp only; refine ⟨fun hlt => ?_, fun hge => ?_⟩
 .have htl : t < l.length := by omega
  have hwt := hw t htl; have hgl : gl l (t : Int) = row l t := rfl; rw [hgl]; refine ⟨⟨by omega, by omega⟩, Jd8 (by omega) ⟨⟨by omega, by omega⟩, ?_⟩⟩; refine ⟨fun y z => ∃ s : Nat, z = s /\ s <= X.length /\ y.length = l.length /\ row y t = rsd p m v q X (row l t) s /\ ∀ j, j < t -> row y j = row x j, fun _ z => (X.length - z).toNat, ⟨0, rfl, Nat.zero_le _, by rw [ZJ]; exact hx, ?_, fun j hj' => ?_⟩, ?_⟩
  .show row (x.set t (row l t)) t = _; rw [Qn, if_pos ⟨rfl, by omega⟩]; rfl
  .show row (x.set t (row l t)) j = _; rw [Qn, if_neg (fun hh => by omega)]
  rintro y _ ⟨s, rfl, hsx, hy, hyt, hyj⟩; dsimp only; refine ⟨fun hlt2 => ?_, fun hge2 => ?_⟩
  .have hsl : s < X.length := by rw [QM] at hlt2; omega
   have e : gi (pvl q X.length) (s : Int) = (q s : Int) := Jdn hsl; have hqs := hq.lt s hsl; rw [e]; refine ⟨⟨by omega, by rw [QM]; omega⟩, ⟨by omega, by omega⟩, ⟨by omega, by omega⟩, ⟨by omega, by omega⟩, ?_⟩; have e4 : gi (row l t) (q s : Int) = vo (row l t) (q s) := rfl; have e5 : gl X (s : Int) = row X s := rfl; have e6 : gl y (t : Int) = row y t := rfl; rw [e4, e5, e6]; have hrow : (row X s).length = C.toNat := Qe hs hsl; have hyl : (row y t).length = C.toNat := by rw [hyt, YB]; exact hwt
   have hyE : Elr p m (row y t) := by rw [hyt]; exact Jci hp q (Qb hE t) s
   refine Jox K (by omega) (by omega) ?_; have hx1 : El p m (vo (row l t) (q s)) := Z3 (Qb hE t) (by omega); rw [Qda hF hyE hx1, hyt]; refine ⟨Jz (by omega) (by omega), ⟨s + 1, by push_cast; rfl, by omega, by rw [ZJ]; exact hy, ?_, fun j hj' => ?_⟩, by rw [QM] at hlt2; omega⟩
   .show row (y.set t _) t = _; rw [Qn, if_pos ⟨rfl, by omega⟩]; rfl
   .show row (y.set t _) j = _; rw [Qn, if_neg (fun hh => by omega)]; exact hyj j hj'
  .rw [QM] at hge2; have hsx' : s = X.length := by omega
   subst hsx'; refine ⟨Jz (by omega) (by omega), ⟨t + 1, by push_cast; rfl, by omega, hy, fun j hj' => ?_⟩, by omega⟩; by_cases e : j = t
   .subst e; exact hyt
   .rw [hyj j (by omega)]; exact hj j (by omega)
 .have : x = l.map fun u => rsd p m v q X u X.length := QL (by simp [hx]) fun i hi => by
   rw [hj i (by omega)]; unfold row; rw [List.getD_eq_getElem?_getD, List.getD_eq_getElem?_getD, List.getElem?_map, List.getElem?_eq_getElem (by omega : i < l.length)]; rfl
  rw [this]; exact h
theorem Jhd {q : Nat -> Nat} {Q : LI -> Prop} (hs : shp C X) (hq : Cnl C.toNat X q) (h : Q (pvl q X.length)) : ZD X Q := by
  obtain ⟨hX, hC, hCe⟩ := QQ hs
  refine ⟨fun x z => ∃ t : Nat, z = t /\ t <= X.length /\ x = pvl q t, fun _ z => (X.length - z).toNat, ⟨0, rfl, Nat.zero_le _, rfl⟩, ?_⟩
  rintro _ _ ⟨t, rfl, ht, rfl⟩
  dsimp only
  refine ⟨fun hlt => ?_, fun hge => by rw [show t = X.length by omega]; exact h⟩
  have htl : t < X.length := by omega
  have hwt := Qe hs htl
  have hqt := hq.lt t htl
  refine ⟨fun y _ _ => y = pvl q (t + 1), ⟨fun z _ => z = (q t : Int), ⟨fun z => ∃ k : Nat, z = k /\ k <= q t, fun z => (q t - z).toNat, ⟨0, rfl, Nat.zero_le _⟩, ?_⟩, ?_⟩, ?_⟩
  . rintro _ ⟨k, rfl, hk⟩
    dsimp only
    have e : gl X (t : Int) = row X t := rfl
    rw [e, JU]
    refine ⟨⟨by omega, by omega⟩, fun hlt2 => ⟨⟨by omega, by omega⟩, ⟨by omega, by omega⟩, fun h0 => ?_, fun h0 => ?_⟩, fun hge2 => by omega⟩
    . have hne : k ≠ q t := fun e2 => by
        have := hq.one t htl t htl
        rw [<- e2, h0, if_pos rfl] at this; exact absurd this (by decide)
      exact ⟨Jz (by omega) (by omega), ⟨k + 1, by push_cast; rfl, by omega⟩, by omega⟩
    . rcases Nat.lt_or_ge k (q t) with h1 | h1
      . exact absurd (hq.lf t htl k h1) h0
      . show (k : Int) = _
        rw [show k = q t by omega]
  . rintro z _ rfl
    refine ⟨by rw [QM]; omega, ?_⟩
    show pvl q t ++ [(q t : Int)] = pvl q (t + 1)
    unfold pvl; rw [List.range_succ, List.map_append]; rfl
  . rintro y _ _ rfl
    exact ⟨Jz (by omega) (by omega), ⟨t + 1, by push_cast; rfl, by omega, rfl⟩, by omega⟩
theorem w_rNeg {x : Int} {Q : Int -> Prop} (hF : FV P M mf p m v) (h : Q (Ng p m x)) : Jdz P M mf x Q := Jpa hF h
theorem Jl8 {u : LI} {q : Nat -> Nat} {Q : LI -> Prop} (hF : FV P M mf p m v) (hs : shp C X) (hq : Cnl C.toNat X q) (hu : u.length = C.toNat) (hE : Elr p m u) (h : Q (rsd p m v q X u X.length)) : Jcd P M mf X u Q := by
 obtain ⟨hX, hC, hCe⟩ := QQ hs; have hp : 0 < p := by have := hF.p2; omega
 refine Jhd hs hq ⟨by omega, fun y z => ∃ t : Nat, z = t /\ t <= X.length /\ y = rsd p m v q X u t, fun _ z => (X.length - z).toNat, ⟨0, rfl, Nat.zero_le _, rfl⟩, ?_⟩; rintro _ _ ⟨t, rfl, ht, rfl⟩; dsimp only; refine ⟨fun hlt => ?_, fun hge => by rw [show t = X.length by omega]; exact h⟩; have htl : t < X.length := by omega
 have hqt := hq.lt t htl; have e : gi (pvl q X.length) (t : Int) = (q t : Int) := Jdn htl; have e2 : gl X (t : Int) = row X t := rfl; rw [e, JU, e2]; have hrow : (row X t).length = C.toNat := Qe hs htl; refine ⟨⟨by omega, by rw [QM]; omega⟩, ⟨by omega, by omega⟩, _, w_rNeg hF rfl, ⟨by omega, by omega⟩, _, Jmb hF (by rw [YB]; omega) (by rw [YB]; omega) rfl, Jz (by omega) (by omega), ⟨t + 1, by push_cast; rfl, by omega, ?_⟩, by omega⟩; rw [adm_el hF (Jci hp q hE t)]; rfl
def zr (u : LI) : Prop := ∀ c, c < u.length -> vo u c = 0
theorem Jyu {u : LI} {Q : Bool -> Prop} (hu : u.length <= 1000000) (h1 : zr u -> Q true) (h2 : ¬ zr u -> Q false) : Jex u Q := by
 refine ⟨fun z => ∃ t : Nat, z = t /\ t <= u.length /\ ∀ j, j < t -> vo u j = 0, fun z => (u.length - z).toNat, ⟨0, rfl, Nat.zero_le _, fun j hj => absurd hj (Nat.not_lt_zero j)⟩, ?_⟩; rintro _ ⟨t, rfl, ht, hj⟩; dsimp only; rw [JU]; refine ⟨fun hlt => ⟨⟨by omega, by omega⟩, fun hne => h2 fun hz => hne (hz t (by omega)), fun he => ⟨Jz (by omega) (by omega), ⟨t + 1, by push_cast; rfl, by omega, fun j hj' => ?_⟩, by omega⟩⟩, fun hge => h1 fun c hc => hj c (by omega)⟩; rcases Nat.lt_or_ge j t with h | h
 .exact hj j h
 .rw [show j = t by omega]; exact Classical.not_not.1 he
theorem Jyv {u : LI} {q : Nat -> Nat} {Q : Bool -> Prop} (hF : FV P M mf p m v) (hs : shp C X) (hq : Cnl C.toNat X q) (hu : u.length = C.toNat) (hE : Elr p m u) (h1 : zr (rsd p m v q X u X.length) -> Q true) (h2 : ¬ zr (rsd p m v q X u X.length) -> Q false) : Jiu P M mf X u Q :=
 Jl8 hF hs hq hu hE (Jyu (by rw [YB]; have := QQ hs; omega) h1 h2)
theorem Jjk {l : LL} {Q : Bool -> Prop} (hl : l.length <= 1000000) (hw : ∀ t, t < l.length -> (row l t).length <= 1000000) (h1 : (∀ t, t < l.length -> zr (row l t)) -> Q true) (h2 : (¬ ∀ t, t < l.length -> zr (row l t)) -> Q false) : Jar l Q := by
 refine ⟨fun z => ∃ t : Nat, z = t /\ t <= l.length /\ ∀ j, j < t -> zr (row l j), fun z => (l.length - z).toNat, ⟨0, rfl, Nat.zero_le _, fun j hj => absurd hj (Nat.not_lt_zero j)⟩, ?_⟩; rintro _ ⟨t, rfl, ht, hj⟩; dsimp only; refine ⟨fun hlt => ⟨⟨by omega, by omega⟩, ?_⟩, fun hge => h1 fun j hj' => hj j (by omega)⟩; have htl : t < l.length := by omega
 show Yi (row l t) _ _; refine Jo4 (hw t htl) (fun k hk hne _ => ⟨fun _ => h2 fun hz => hne (hz t htl k hk), fun hb => ?_⟩) (fun hz => ⟨fun hb => absurd (of_decide_eq_true hb) (by decide), fun _ => ⟨Jz (by omega) (by omega), ⟨t + 1, by push_cast; rfl, by omega, fun j hj' => ?_⟩, by omega⟩⟩)
 .have := of_decide_eq_false hb; omega
 .rcases Nat.lt_or_ge j t with h | h
  .exact hj j h
  .rw [show j = t by omega]; exact hz
end Go.Proofs.YtngdhnijkgjhcaaGreat
namespace Go.Proofs.YtngdhnijkgjhcaaGreat
variable {P M : Int} {mf : LI} {p m v g : Nat} {C Ca Cb : Int} {X Y a b : LL} {F : GFv}
noncomputable def prk (P M : Int) (mf : LI) (Ca : Int) (a : LL) (Cb : Int) (b : LL) : Int := if sck P M mf Ca a ≠ 0 then sck P M mf Ca a else if sck P M mf Cb b ≠ 0 then sck P M mf Cb b else if Ca ≠ Cb then 10 else 0
theorem Jbv {Q : Int -> Prop} (h : Q (prk P M mf Ca a Cb b)) : Yx P M mf Ca a Cb b Q := by
 unfold prk at h; refine Zq ⟨fun h1 => by rwa [if_pos h1] at h, fun h1 => Zq ⟨fun h2 => by rwa [if_neg h1, if_pos h2] at h, fun h2 => ⟨fun h3 => by rwa [if_neg h1, if_neg h2, if_pos h3] at h, fun h3 => by rwa [if_neg h1, if_neg h2, if_neg h3] at h⟩⟩⟩
structure Sg (P M : Int) (mf : LI) (p m v : Nat) (C : Int) (X : LL) (q : Nat -> Nat) : Prop where
  f : FV P M mf p m v
  s : shp C X
  e : Els p m X
  q : Cnl C.toNat X q
theorem Jkn (h : sck P M mf C X = 0) : ∃ p m v q, Sg P M mf p m v C X q := by
 obtain ⟨h0, q, hq⟩ := Jzt h; obtain ⟨hV, hs, p, m, v, hF, hE⟩ := Jae h0; exact ⟨p, m, v, q, hF, hs, hE, hq⟩
theorem Sg.mk0 {q : Nat -> Nat} (G : Sg P M mf p m v C X q) : mck P M mf C X = 0 := Jdt ⟨p, m, v, G.f⟩ G.s ((QT G.f).2 G.e)
theorem Sg.sck {q : Nat -> Nat} (G : Sg P M mf p m v C X q) : sck P M mf C X = 0 := Jpi G.mk0 ⟨q, G.q⟩
def rdl (p m v : Nat) (q : Nat -> Nat) (X l : LL) : LL := l.map fun u => rsd p m v q X u X.length
theorem Jef (q : Nat -> Nat) (X l : LL) : (rdl p m v q X l).length = l.length := by simp [rdl]
theorem Jcj {q : Nat -> Nat} {X l : LL} {t : Nat} (h : t < l.length) : row (rdl p m v q X l) t = rsd p m v q X (row l t) X.length := by
 unfold rdl row; rw [List.getD_eq_getElem?_getD, List.getD_eq_getElem?_getD, List.getElem?_map, List.getElem?_eq_getElem h]; rfl
theorem Jhv {l : LL} (hC : 0 <= C /\ C <= 256) (hl : l.length <= 256) (hw : ∀ t, t < l.length -> (row l t).length = C.toNat) : shp C l := by
 unfold shp; refine ⟨hC.1, hC.2, by omega, fun r hr => ?_⟩; obtain ⟨t, ht, rfl⟩ := ZN hr; have := hw t ht; omega
theorem Jbz (hs : shp C X) : 0 <= C /\ C <= 256 := by have := QQ hs; omega
theorem Jgt {q : Nat -> Nat} {l : LL} (hs : shp C l) : shp C (rdl p m v q X l) :=
 Jhv (Jbz hs) (by rw [Jef]; exact QZ hs) fun t ht => by rw [Jef] at ht; rw [Jcj ht, YB]; exact Qe hs ht
theorem Jkt (hF : FV P M mf p m v) {q : Nat -> Nat} {l : LL} (he : Els p m l) : Els p m (rdl p m v q X l) := Zz fun t ht => by
 rw [Jef] at ht; rw [Jcj ht]; exact Jci (by have := hF.p2; omega) q (Qb he t) _
def ain (p m v : Nat) (q : Nat -> Nat) (X l : LL) : Prop := ∀ t, t < l.length -> zr (rsd p m v q X (row l t) X.length)
theorem Jt2 {q : Nat -> Nat} {X l : LL} : (∀ t, t < (rdl p m v q X l).length -> zr (row (rdl p m v q X l) t)) ↔ ain p m v q X l := by
 unfold ain; rw [Jef]; exact ⟨fun h t ht => by have := h t ht; rwa [Jcj ht] at this, fun h t ht => by rw [Jcj ht]; exact h t ht⟩
theorem Jpo {q r : Nat -> Nat} (G : Sg P M mf p m v Ca a q) (H : Sg P M mf p m v Cb b r) (e : Ca = Cb) : prk P M mf Ca a Cb b = 0 := by
 unfold prk; rw [if_neg (fun hh => hh G.sck), if_neg (fun hh => hh H.sck), if_neg (fun hh => hh e)]
theorem Jmh {q r : Nat -> Nat} {Q : Bool × Int -> Prop} (G : Sg P M mf p m v C a q) (H : Sg P M mf p m v C b r) (h1 : ain p m v r b a -> Q (true, 0)) (h2 : ¬ ain p m v r b a -> Q (false, 0)) : Jcg P M mf C a C b Q := by
 refine Jbv ?_; rw [Jpo G H rfl]; refine ⟨fun hh => absurd rfl hh, fun _ => Jd5 H.f H.s H.q (by have := QZ G.s; omega) (fun t ht => Qe G.s ht) G.e ?_⟩; have hsh := Jgt (p := p) (m := m) (v := v) (q := r) (X := b) G.s; exact Jjk (l := rdl p m v r b a) (by have := QZ hsh; omega) (fun t ht => by have := Qe hsh ht; have := QQ hsh; omega) (fun hz => h1 (Jt2.1 hz)) (fun hz => h2 fun hh => hz (Jt2.2 hh))
theorem Joy {l : LL} {Q : Int × LL × Int -> Prop} (hF : FV P M mf p m v) (hs : shp C l) (he : Els p m l) (h : Q (C, JQ p m v C l, 0)) : Jf6 P M mf C l Q := by
 have h0 : mck P M mf C l = 0 := Jdt ⟨p, m, v, hF⟩ hs ((QT hF).2 he); refine Jmj (fun hh => absurd h0 hh) fun p' m' v' hF' _ _ _ => ?_; obtain ⟨rfl, rfl, rfl⟩ := hF.uniq3 hF'; exact h
theorem Jo6 {q r : Nat -> Nat} {Q : Int × LL × Int -> Prop} (G : Sg P M mf p m v C a q) (H : Sg P M mf p m v C b r) (h1 : ain p m v r b a -> Q (C, JQ p m v C (rdl p m v q a b), 0)) (h2 : ¬ ain p m v r b a -> Q (0, [], 11)) : Jbs P M mf C a C b Q := by
 refine Jmh G H (fun hin => ⟨fun hh => absurd rfl hh, fun _ => ⟨fun hb => (by cases hb), fun _ => ?_⟩⟩) (fun hin => ⟨fun hh => absurd rfl hh, fun _ => ⟨fun _ => h2 hin, fun hb => by cases hb⟩⟩); exact ⟨rdl p m v q a b, Jd5 G.f G.s G.q (by have := QZ H.s; omega) (fun t ht => Qe H.s ht) H.e rfl, _, _, _, Joy G.f (Jgt H.s) (Jkt G.f H.e) rfl, h1 hin⟩
theorem w_few {Q : Bool -> Prop} (h1 : Ca <= 20 -> Cb <= 20 -> a.length <= 150 -> b.length <= 150 -> Q true) (h2 : Q false) : Jul Ca a Cb b Q := by
 refine ⟨fun hA => ⟨fun hB => Jyx (by omega) (fun _ ha _ => ⟨fun _ => Jyx (by omega) (fun _ hb _ => h1 hA hB (by omega) (by omega)) h2, fun hb => (by cases hb)⟩) ⟨fun hb => (by cases hb), fun _ => h2⟩, fun _ => h2⟩, fun _ => h2⟩
end Go.Proofs.YtngdhnijkgjhcaaGreat
namespace Go.Proofs.YtngdhnijkgjhcaaGreat
variable {P M : Int} {mf : LI} {p m v g w : Nat} {C Ca Cb : Int} {X Y a b : LL}
theorem Ja2 (A B : LL) (t : Nat) : row (A ++ B) t = if t < A.length then row A t else row B (t - A.length) := by
 unfold row; rw [List.getD_eq_getElem?_getD, List.getElem?_append]; split <;> rw [List.getD_eq_getElem?_getD]
theorem Jt1 {f : (Nat -> Nat) -> Nat} {A B : LL} : Ann p m f (A ++ B) ↔ Ann p m f A /\ Ann p m f B := by
 unfold Ann; rw [List.length_append]; refine ⟨fun h => ⟨fun t ht => ?_, fun t ht => ?_⟩, fun h t ht => ?_⟩
 .have := h t (by omega); rwa [Ja2, if_pos ht] at this
 .have := h (A.length + t) (by omega); rwa [Ja2, if_neg (by omega), Nat.add_sub_cancel_left] at this
 .rw [Ja2]; split
  .rename_i hh; exact h.1 t hh
  .exact h.2 _ (by omega)
theorem Jbh {A B : LL} (hA : shp C A) (hB : shp C B) (h : A.length + B.length <= 256) : shp C (A ++ B) :=
 Jhv (Jbz hA) (by rw [List.length_append]; exact h) fun t ht => by
  rw [List.length_append] at ht; rw [Ja2]; split
  .exact Qe hA (by assumption)
  .exact Qe hB (by omega)
theorem Jct {A B : LL} (hA : Els p m A) (hB : Els p m B) : Els p m (A ++ B) := fun r hr => by
 rcases List.mem_append.1 hr with h | h
 .exact hA r h
 .exact hB r h
theorem Jt0 (hF : FV P M mf p m v) {f : (Nat -> Nat) -> Nat} (L : Lin p m v w f) {q : Nat -> Nat} {l : LL} (hw : ∀ t, t < l.length -> (row l t).length = w) (hX : Ann p m f X) : Ann p m f (rdl p m v q X l) ↔ Ann p m f l := by
 unfold Ann; rw [Jef]; refine ⟨fun h t ht => ?_, fun h t ht => ?_⟩
 .have := h t ht; rwa [Jcj ht, Jed hF L (hw t ht) hX X.length (Nat.le_refl _)] at this
 .rw [Jcj ht, Jed hF L (hw t ht) hX X.length (Nat.le_refl _)]; exact h t ht
theorem Qbd (hF : FV P M mf p m v) (hs : shp C X) (he : Els p m X) : (JQ p m v C X).length <= C.toNat := (Jlo hF hs he).len
theorem sum_eq (hF : FV P M mf p m v) {q : Nat -> Nat} (ha : shp C a) (ea : Els p m a) (hb : shp C b) (eb : Els p m b) (hl : a.length + C.toNat <= 256) (hl2 : a.length + b.length <= 256) :
  JQ p m v C (a ++ JQ p m v C (rdl p m v q a b)) = JQ p m v C (a ++ b) := by
 have h1 := Jgt (p := p) (m := m) (v := v) (q := q) (X := a) hb; have h2 := Jkt (X := a) (q := q) hF eb; have h3 := Qbd hF h1 h2; refine (Jn8 hF (Jbh ha (Zc h1) (by omega)) (Jct ea (YL hF h2)) (Jbh ha hb hl2) (Jct ea eb) fun f L => ?_).2; rw [Jt1, Jt1, Q0 hF h1 h2 L]; exact ⟨fun ⟨u1, u2⟩ => ⟨u1, (Jt0 hF L (fun t ht => Qe hb ht) u1).1 u2⟩, fun ⟨u1, u2⟩ => ⟨u1, (Jt0 hF L (fun t ht => Qe hb ht) u1).2 u2⟩⟩
theorem w_sum {q : Nat -> Nat} {Q : Int × LL × Int -> Prop} (G : Sg P M mf p m v C a q) (hb : shp C b) (eb : Els p m b) (hl : a.length + C.toNat <= 256) (hl2 : a.length + b.length <= 256) (h : Q (C, JQ p m v C (a ++ b), 0)) : Jok P M mf C a C b Q := by
 have h1 := Jgt (p := p) (m := m) (v := v) (q := q) (X := a) hb; have h2 := Jkt (X := a) (q := q) G.f eb; have h3 := Qbd G.f h1 h2; refine ⟨fun c x e => c = C /\ x = JQ p m v C (rdl p m v q a b) /\ e = 0, ⟨rdl p m v q a b, Jd5 G.f G.s G.q (by have := QZ hb; omega) (fun t ht => Qe hb ht) eb rfl, _, _, _, Joy G.f h1 h2 rfl, rfl, rfl, rfl⟩, ?_⟩; rintro c x e ⟨rfl, rfl, rfl⟩; refine ⟨fun hh => absurd rfl hh, fun _ => ⟨a ++ JQ p m v c (rdl p m v q a b), ⟨?_, ?_, ?_⟩, _, _, _, Joy G.f (Jbh G.s (Zc h1) (by omega)) (Jct G.e (YL G.f h2)) rfl, ?_⟩⟩
 .simp; omega
 .simp
 .simp
 .rw [sum_eq G.f G.s G.e hb eb hl hl2]; exact h
theorem w_Sum {q r : Nat -> Nat} {Q : Int × LL × Int -> Prop} (G : Sg P M mf p m v C a q) (H : Sg P M mf p m v C b r) (hC : C <= 100) (h : Q (C, JQ p m v C (a ++ b), 0)) : Jum P M mf C a C b Q := by
 have h1 := G.q.len; have h2 := H.q.len; have h3 := Jbz G.s; refine Jbv ?_; rw [Jpo G H rfl]; exact ⟨fun hh => absurd rfl hh, fun _ => w_sum G H.s H.e (by omega) (by omega) h⟩
def nul (p m v : Nat) (C : Int) (X : LL) : LL := JQ p m v C (Q3 p m v C X)
theorem Qdu (hF : FV P M mf p m v) (hs : shp C X) (he : Els p m X) : nul p m v C (JQ p m v C X) = nul p m v C X := by
 obtain ⟨h1, h2⟩ := Jlp hF hs he; unfold nul Q3; rw [h1, h2]
theorem Zv (hF : FV P M mf p m v) (hs : shp C X) : Sg P M mf p m v C (nul p m v C X) fun i => (vo (JG p m v C (Q3 p m v C X)) i).toNat :=
 ⟨hF, Zc (QU hs), YL hF (QV hF), Jlo hF (QU hs) (QV hF)⟩
theorem Jhh {Q : Int × LL × Int -> Prop} (hF : FV P M mf p m v) (hs : shp C X) (he : Els p m X) (h : Q (C, nul p m v C X, 0)) : YU P M mf C X Q := by
 have h0 : mck P M mf C X = 0 := Jdt ⟨p, m, v, hF⟩ hs ((QT hF).2 he); refine Jy0 (fun hh => absurd h0 hh) fun p' m' v' hF' _ _ _ => ?_; obtain ⟨rfl, rfl, rfl⟩ := hF.uniq3 hF'; exact h
theorem w_Dual {q : Nat -> Nat} {Q : Int × LL × Int -> Prop} (G : Sg P M mf p m v C a q) (h : Q (C, nul p m v C a, 0)) : Jl0 P M mf C a Q := by
 refine Zq ?_; rw [G.sck]; exact ⟨fun hh => absurd rfl hh, fun _ => Jhh G.f G.s G.e h⟩
theorem w_Meet {q r : Nat -> Nat} {Q : Int × LL × Int -> Prop} (G : Sg P M mf p m v C a q) (H : Sg P M mf p m v C b r) (hC : C <= 100) (h : Q (C, nul p m v C (nul p m v C a ++ nul p m v C b), 0)) : Jlz P M mf C a C b Q := by
 have G' := Zv (v := v) G.f G.s; have H' := Zv (v := v) H.f H.s; have h1 := G'.q.len; have h2 := H'.q.len; have h3 := Jbz G.s; have hs := Jbh G'.s H'.s (by omega); have he := Jct G'.e H'.e; refine Jbv ?_; rw [Jpo G H rfl]; refine ⟨fun hh => absurd rfl hh, fun _ => Jhh G.f G.s G.e ⟨fun hh => absurd rfl hh, fun _ => Jhh H.f H.s H.e ⟨fun hh => absurd rfl hh, fun _ => w_sum G' H'.s H'.e (by omega) (by omega) ⟨fun hh => absurd rfl hh, fun _ => Jhh G.f (Zc hs) (YL G.f he) ?_⟩⟩⟩⟩; rw [Qdu G.f hs he]; exact h
noncomputable def wdk (P M : Int) (mf : LI) (C : Int) (a : LL) (y : LI) : Int := if sck P M mf C a ≠ 0 then sck P M mf C a else if (y.length : Int) ≠ C then 3 else mck P M mf C [y]
theorem ZI {y : LI} {Q : Int -> Prop} (h : Q (wdk P M mf C a y)) : Zf P M mf C a y Q := by
 unfold wdk at h; refine Zq ⟨fun h1 => by rwa [if_pos h1] at h, fun h1 => ⟨fun h2 => by rwa [if_neg h1, if_pos h2] at h, fun h2 => Jmd (by rwa [if_neg h1, if_neg h2] at h)⟩⟩
theorem Qdj {y : LI} (hC : 0 <= C /\ C <= 256) (hy : (y.length : Int) = C) : shp C [y] := Jhv hC (by simp) fun t ht => by
 have : t = 0 := by simpa using ht
 subst this; show y.length = _; omega
theorem Jkz {y : LI} : Els p m [y] ↔ Elr p m y := by unfold Els; simp
theorem Jkb {q : Nat -> Nat} {y : LI} (G : Sg P M mf p m v C a q) : wdk P M mf C a y = vce p m y C.toNat := by
 have hC := Jbz G.s; unfold wdk vce; rw [if_neg (fun hh => hh G.sck)]; by_cases h : (y.length : Int) = C
 .have hs := Qdj (y := y) hC h; rw [if_neg (fun hh => hh h), if_neg (fun hh => hh (by omega))]; by_cases he : Elr p m y
  .rw [if_neg (fun hh => hh he)]; exact Jdt ⟨p, m, v, G.f⟩ hs ((QT G.f).2 (Jkz.2 he))
  .rw [if_pos he]; exact Jgv ⟨p, m, v, G.f⟩ hs fun hh => he (Jkz.1 ((QT G.f).1 hh))
 .rw [if_pos h, if_pos (by omega)]
theorem Z6 {y : LI} {Q : Int -> Prop} (h : Q (wdk P M mf C a y)) : Jah P M mf C a y Q := by
 refine Je9 ⟨fun e => e = wdk P M mf C a y, ⟨fun h1 => ?_, fun h1 => ?_⟩, fun e he => by rw [he]; exact h⟩
 .obtain ⟨p, m, v, q, G⟩ := Jkn h1; have hC := Jbz G.s; have := Jur (x := y) (n := C.toNat) (Q := fun e => e = wdk P M mf C a y) G.f (by omega) (Jkb G).symm
  rwa [show ((C.toNat : Nat) : Int) = C by omega] at this
 .show sck P M mf C a = wdk P M mf C a y; unfold wdk; rw [if_pos h1]
theorem Qcu {y : LI} (h : wdk P M mf C a y = 0) : ∃ p m v q, Sg P M mf p m v C a q /\ y.length = C.toNat /\ Elr p m y := by
 have h1 : sck P M mf C a = 0 := by
  unfold wdk at h; split at h
  .rename_i hh; exact absurd h hh
  .rename_i hh; exact Classical.not_not.1 hh
 obtain ⟨p, m, v, q, G⟩ := Jkn h1; rw [Jkb G] at h; obtain ⟨e1, e2⟩ := Jy9 h; exact ⟨p, m, v, q, G, e1, e2⟩
theorem Jhb {q : Nat -> Nat} {y : LI} (G : Sg P M mf p m v C a q) (hy : y.length = C.toNat) (he : Elr p m y) : wdk P M mf C a y = 0 := by
 rw [Jkb G]; exact vce_ok hy he
theorem Jyw {q : Nat -> Nat} {y : LI} {Q : LL -> Prop} (G : Sg P M mf p m v C a q) (hy : y.length = C.toNat) (he : Elr p m y) (h : Q [rsd p m v q a y a.length]) : YR P M mf C a [y] Q :=
 Jd5 G.f G.s G.q (by simp) (fun t ht => by
  have : t = 0 := by simpa using ht
  subst this; exact hy) (Jkz.2 he) h
theorem Jmi {y : LI} {Q : Bool × Int -> Prop} (h0 : wdk P M mf C a y ≠ 0) (h : Q (false, wdk P M mf C a y)) : Ji0 P M mf C a y Q := ZI ⟨fun _ => h, fun hh => absurd h0 hh⟩
theorem Jo3 {y : LI} {Q : Bool × Int -> Prop} (h0 : wdk P M mf C a y ≠ 0) (h : Q (false, wdk P M mf C a y)) : Jey P M mf C a y Q := Z6 ⟨fun _ => h, fun hh => absurd h0 hh⟩
theorem Jsr {q : Nat -> Nat} {y : LI} {Q : Bool × Int -> Prop} (G : Sg P M mf p m v C a q) (hy : y.length = C.toNat) (he : Elr p m y) (h1 : zr (rsd p m v q a y a.length) -> Q (true, 0)) (h2 : ¬ zr (rsd p m v q a y a.length) -> Q (false, 0)) : Ji0 P M mf C a y Q := by
 refine ZI ?_; rw [Jhb G hy he]; have hC := Jbz G.s; refine ⟨fun hh => absurd rfl hh, fun _ => Jyw G hy he (Jjk (by simp) (fun t ht => ?_) (fun hz => h1 (hz 0 (by simp))) (fun hz => h2 fun hh => hz fun t ht => ?_))⟩
 .have : t = 0 := by simpa using ht
  subst this; show (rsd p m v q a y a.length).length <= _; rw [YB]; omega
 .have : t = 0 := by simpa using ht
  subst this; exact hh
theorem Jso {q : Nat -> Nat} {y : LI} {Q : Bool × Int -> Prop} (G : Sg P M mf p m v C a q) (hy : y.length = C.toNat) (he : Elr p m y) (h1 : zr (rsd p m v q a y a.length) -> Q (true, 0)) (h2 : ¬ zr (rsd p m v q a y a.length) -> Q (false, 0)) : Jey P M mf C a y Q := by
 refine Z6 ?_; rw [Jhb G hy he]; exact ⟨fun hh => absurd rfl hh, fun _ => Jyv G.f G.s G.q hy he h1 h2⟩
theorem Jmg {y : LI} {Q : LI × Int -> Prop} (h0 : wdk P M mf C a y ≠ 0) (h : Q ([], wdk P M mf C a y)) : Jas P M mf C a y Q := ZI ⟨fun _ => h, fun hh => absurd h0 hh⟩
theorem Ji4 {y : LI} {Q : LI × Int -> Prop} (h0 : wdk P M mf C a y ≠ 0) (h : Q ([], wdk P M mf C a y)) : ZC P M mf C a y Q := Z6 ⟨fun _ => h, fun hh => absurd h0 hh⟩
theorem Jhg {q : Nat -> Nat} {y : LI} {Q : LI × Int -> Prop} (G : Sg P M mf p m v C a q) (hy : y.length = C.toNat) (he : Elr p m y) (h : Q (rsd p m v q a y a.length, 0)) : Jas P M mf C a y Q := by
 refine ZI ?_; rw [Jhb G hy he]; exact ⟨fun hh => absurd rfl hh, fun _ => Jyw G hy he ⟨⟨by omega, by simp⟩, h⟩⟩
theorem Jhc {q : Nat -> Nat} {y : LI} {Q : LI × Int -> Prop} (G : Sg P M mf p m v C a q) (hy : y.length = C.toNat) (he : Elr p m y) (h : Q (rsd p m v q a y a.length, 0)) : ZC P M mf C a y Q := by
 refine Z6 ?_; rw [Jhb G hy he]; exact ⟨fun hh => absurd rfl hh, fun _ => Jl8 G.f G.s G.q hy he h⟩
theorem Jfa {y : LI} {Q : LI × Int -> Prop} (h0 : wdk P M mf C a y ≠ 0) (h : Q ([], wdk P M mf C a y)) : Q9 P M mf C a y Q := Jmi h0 ⟨fun _ => h, fun hh => absurd h0 hh⟩
theorem Jdl {y : LI} {Q : LI × Int -> Prop} (h0 : wdk P M mf C a y ≠ 0) (h : Q ([], wdk P M mf C a y)) : Q5 P M mf C a y Q := Z6 ⟨fun _ => h, fun hh => absurd h0 hh⟩
theorem ZX {q : Nat -> Nat} {y : LI} {Q : LI × Int -> Prop} (G : Sg P M mf p m v C a q) (hy : y.length = C.toNat) (he : Elr p m y) (h1 : zr (rsd p m v q a y a.length) -> Q (pkr y (pvl q a.length), 0)) (h2 : ¬ zr (rsd p m v q a y a.length) -> Q ([], 11)) : Q9 P M mf C a y Q := by
 have hl := QZ G.s; refine Jsr G hy he (fun hz => ⟨fun hh => absurd rfl hh, fun _ => ⟨fun hb => (by cases hb), fun _ => Jmc G.s G.q ?_⟩⟩) (fun hz => ⟨fun hh => absurd rfl hh, fun _ => ⟨fun _ => h2 hz, fun hb => by cases hb⟩⟩); refine ⟨fun x z => ∃ t : Nat, z = t /\ t <= a.length /\ x.length = a.length /\ ∀ j, j < a.length -> vo x j = if j < t then vo y (q j) else (q j : Int), fun _ z => (a.length - z).toNat, ⟨0, rfl, Nat.zero_le _, QM _ _, fun j hj => by rw [if_neg (by omega), Jdn hj]⟩, ?_⟩; rintro x _ ⟨t, rfl, ht, hx, hj⟩; dsimp only; rw [QM, JU]; refine ⟨fun hlt => ?_, fun hge => ?_⟩
 .have htl : t < a.length := by omega
  have hq := G.q.lt t htl; rw [hj t htl, if_neg (by omega), JU]; refine ⟨⟨by omega, by omega⟩, ⟨by omega, by omega⟩, ⟨by omega, by omega⟩, Jz (by omega) (by omega), ⟨t + 1, by push_cast; rfl, by omega, by rw [Qk, List.length_set]; exact hx, fun j hj' => ?_⟩, by omega⟩; rw [Qk, J5]; by_cases e : t = j
  .subst e; rw [if_pos ⟨rfl, by omega⟩, if_pos (by omega)]
  .rw [if_neg (fun hh => e hh.1), hj j hj']; by_cases e2 : j < t
   .rw [if_pos e2, if_pos (by omega)]
   .rw [if_neg e2, if_neg (by omega)]
 .have : x = pkr y (pvl q a.length) := QY (by rw [hx, Ja3, QM]) fun i hi => by
   rw [hj i (by omega), if_pos (by omega), Jbx (by rw [QM]; omega), Jdn (by omega)]; rfl
  rw [this]; exact h1 hz
theorem Jbu {q : Nat -> Nat} {y : LI} {Q : LI × Int -> Prop} (G : Sg P M mf p m v C a q) (hy : y.length = C.toNat) (he : Elr p m y) (h1 : zr (rsd p m v q a y a.length) -> Q (pkr y (pvl q a.length), 0)) (h2 : ¬ zr (rsd p m v q a y a.length) -> Q ([], 11)) : Q5 P M mf C a y Q := by
 refine Z6 ?_; rw [Jhb G hy he]; have hl := QZ G.s; refine ⟨fun hh => absurd rfl hh, fun _ => Jyv G.f G.s G.q hy he (fun hz => ⟨fun hb => (by cases hb), fun _ => Jhd G.s G.q (Qcw (by rw [QM]; omega) (fun i hi => ?_) (h1 hz))⟩) (fun hz => ⟨fun _ => h2 hz, fun hb => by cases hb⟩)⟩; rw [QM] at hi; rw [Jdn hi]; have := G.q.lt i hi; omega
end Go.Proofs.YtngdhnijkgjhcaaGreat
namespace Go.Proofs.YtngdhnijkgjhcaaGreat
variable {P M : Int} {mf : LI} {p m v g w : Nat} {C Ca Cb : Int} {X Y a b : LL}
def rsg (s : LI) (n : Int) : Prop := (∀ i, i < s.length -> 0 <= vo s i /\ vo s i < n) /\ ∀ i, i + 1 < s.length -> vo s i < vo s (i + 1)
theorem Js5 {s : LI} {n : Int} (h : rsg s n) : ∀ d i, i + d + 1 < s.length -> vo s i < vo s (i + d + 1)
 | 0, i, hi => h.2 i hi
 | d + 1, i, hi => by
  have h1 := Js5 h d i (by omega); have h2 := h.2 (i + d + 1) (by omega); rw [show i + (d + 1) + 1 = i + d + 1 + 1 by omega]; omega
theorem Qdb {s : LI} {n : Int} (h : rsg s n) : Asc n.toNat s := ⟨fun i hi => by have := h.1 i hi; omega, fun i j hij hj => by
 have := Js5 h (j - i - 1) i (by omega)
 rwa [show i + (j - i - 1) + 1 = j by omega] at this⟩
theorem Qcy {s : LI} {n : Int} {Q : Bool -> Prop} (hl : s.length <= 1000000) (h1 : rsg s n -> Q true) (h2 : ¬ rsg s n -> Q false) : Jg7 s n Q := by
 refine ⟨fun last z => ∃ t : Nat, z = t /\ t <= s.length /\ (∀ i, i < t -> 0 <= vo s i /\ vo s i < n) /\ (∀ i, i + 1 < t -> vo s i < vo s (i + 1)) /\ (t = 0 -> last = -1) /\ ∀ u, t = u + 1 -> last = vo s u, fun _ z => (s.length - z).toNat, ⟨0, rfl, Nat.zero_le _, fun i hi => absurd hi (Nat.not_lt_zero i), fun i hi => absurd hi (Nat.not_lt_zero _), fun _ => rfl, fun u hu => by omega⟩, ?_⟩; rintro last _ ⟨t, rfl, ht, hr, ha, hl0, hl1⟩; dsimp only; rw [JU]; refine ⟨fun hlt => ⟨⟨by omega, by omega⟩, fun hle => h2 ?_, fun hgt => ⟨fun hn => h2 fun hh => ?_, fun hn => ⟨Jz (by omega) (by omega), ⟨t + 1, by push_cast; rfl, by omega, fun i hi => ?_, fun i hi => ?_, fun h0 => by omega, fun u hu => ?_⟩, by omega⟩⟩⟩, fun hge => h1 ?_⟩
 .intro hh; rcases Nat.eq_zero_or_pos t with h0 | h0
  .have := hl0 h0; have := hh.1 t (by omega); omega
  .have e := hl1 (t - 1) (by omega); have := hh.2 (t - 1) (by omega); rw [show t - 1 + 1 = t by omega] at this; omega
 .have := hh.1 t (by omega); omega
 .by_cases e : i = t
  .subst e; refine ⟨?_, by omega⟩; rcases Nat.eq_zero_or_pos i with h0 | h0
   .have := hl0 h0; omega
   .have e := hl1 (i - 1) (by omega); have := hr (i - 1) (by omega); omega
  .exact hr i (by omega)
 .by_cases e : i + 1 = t
  .have e2 := hl1 i (by omega); rw [e]; omega
  .exact ha i (by omega)
 .rw [show u = t by omega]
 .have e : t = s.length := by omega
  subst e; exact ⟨hr, ha⟩
def Yl (s : LI) (n : Nat) : LI := ((List.range n).filter fun i => !(inP s i)).map fun i => ((i : Nat) : Int)
theorem Z9 (s : LI) (k : Nat) : Yl s (k + 1) = if inP s k then Yl s k else Yl s k ++ [(k : Int)] := by
 unfold Yl; rw [List.range_succ, List.filter_append, List.map_append]; cases h : inP s k <;> simp [h]
theorem Zs (s : LI) : ∀ n, (Yl s n).length <= n
 | 0 => Nat.le_refl _
 | n + 1 => by
  rw [Z9]; have := Zs s n; split
  .omega
  .rw [List.length_append]; simp; omega
theorem Jm1 (s : LI) : ∀ n, ∀ x ∈ Yl s n, 0 <= x /\ x < (n : Int) := fun n x hx => by
 obtain ⟨i, hi, rfl⟩ := List.mem_map.1 hx; have := List.mem_range.1 (List.mem_filter.1 hi).1; omega
theorem Jus {s : LI} {n : Int} {Q : LI -> Prop} (hl : s.length <= 1000000) (hs : rsg s n) (hn : n <= 1000) (h : Q (Yl s n.toNat)) : Jc2 s n Q := by
 refine ⟨fun x z => ∃ t : Nat, z = t /\ t <= n.toNat /\ x = Yl s t, fun _ z => (n - z).toNat, ⟨0, rfl, Nat.zero_le _, rfl⟩, ?_⟩; rintro _ _ ⟨t, rfl, ht, rfl⟩; dsimp only; refine ⟨fun hlt => ?_, fun hge => ?_⟩
 case refine_2 =>
  have e : t = n.toNat := by omega
  subst e; exact h
 have hol := Zs s t; refine ⟨fun y _ _ => y = Yl s (t + 1), Jl7 hl (Qdb hs) (fun i hex => ⟨fun hb => (by cases hb), fun _ => ?_⟩) (fun i hex => ⟨fun _ => ⟨by omega, ?_⟩, fun hb => by cases hb⟩), ?_⟩
 .rw [Z9, if_pos (YZ.2 hex)]
 .rw [Z9, if_neg (fun hh => hex (YZ.1 hh))]
 .rintro y _ _ rfl; exact ⟨Jz (by omega) (by omega), ⟨t + 1, by push_cast; rfl, by omega, rfl⟩, by omega⟩
theorem Qbn (s : LI) (hC : 0 <= C) : bad C (Yl s C.toNat) = false := by
 unfold bad; rw [List.any_eq_false]; intro x hx; have := Jm1 s C.toNat x hx; rw [if_neg (by omega), decide_eq_true_eq]; omega
theorem Js6 (hs : shp C X) {s : LI} (hl : s.length <= 256) : shp (s.length : Int) (pks X s) :=
 Jhv (by omega) (by rw [ZL]; exact QZ hs) fun t ht => by rw [ZL] at ht; rw [Jee ht, Ja3]; omega
theorem Js7 (hF : FV P M mf p m v) (he : Els p m X) (s : LI) : Els p m (pks X s) := Zz fun t ht => by
 rw [ZL] at ht; rw [Jee ht]; exact Jdu fun i hi => by rw [Ja3] at hi; rw [Jbx hi]; exact Jem hF (Qb he t) _
def spt (p m v : Nat) (C : Int) (a : LL) (s : LI) : LL := mm p m v C.toNat (nul p m v (a.length : Int) (tr (Yl s C.toNat).length (pks a (Yl s C.toNat)))) a
theorem Jhf {s : LI} {Q : Int × LL × Int -> Prop} (h0 : sck P M mf C a ≠ 0) (h : Q (0, [], sck P M mf C a)) : Yj P M mf C a s Q := Zq ⟨fun _ => h, fun hh => absurd h0 hh⟩
theorem Jf9 {q : Nat -> Nat} {s : LI} {Q : Int × LL × Int -> Prop} (G : Sg P M mf p m v C a q) (hl : s.length <= 1000000) (h1 : rsg s C -> Q (C, spt p m v C a s, 0)) (h2 : ¬ rsg s C -> Q (0, [], 6)) : Yj P M mf C a s Q := by
 have hC := Jbz G.s; have hol := Zs s C.toNat; have hal := QZ G.s; refine Zq ?_; rw [G.sck]; refine ⟨fun hh => absurd rfl hh, fun _ => Qcy hl (fun hs => ⟨fun hb => (by cases hb), fun _ => ?_⟩) (fun hs => ⟨fun _ => h2 hs, fun hb => by cases hb⟩)⟩; have hsP := Js6 G.s (s := Yl s C.toNat) (by omega); have heP := Js7 G.f G.e (Yl s C.toNat); have e0 : colR P M mf C a (Yl s C.toNat) = ((((Yl s C.toNat).length : Nat) : Int), pks a (Yl s C.toNat), (0 : Int)) := by
  unfold colR; rw [if_neg (fun hh => hh G.mk0), if_neg (by omega), if_neg (by rw [Qbn s hC.1]; decide)]
 refine ⟨fun c x e => c = ((Yl s C.toNat).length : Int) /\ x = pks a (Yl s C.toNat) /\ e = 0, ⟨Yl s C.toNat, Jus hl hs (by omega) rfl, (((Yl s C.toNat).length : Nat) : Int), pks a (Yl s C.toNat), 0, Juu (fun c Z e he => by rw [<- he, e0]), rfl, rfl, rfl⟩, ?_⟩; rintro c x e ⟨rfl, rfl, rfl⟩; refine ⟨fun hh => absurd rfl hh, fun _ => ?_⟩; have hm : mck P M mf ((Yl s C.toNat).length : Int) (pks a (Yl s C.toNat)) = 0 := Jdt ⟨p, m, v, G.f⟩ hsP ((QT G.f).2 heP); refine Jmf (fun hh => absurd hm hh) fun p' m' v' hF' _ _ _ => ?_; obtain ⟨rfl, rfl, rfl⟩ := G.f.uniq3 hF'; have hsT := Jzh hsP; have heT := Jzi hsP heP; rw [ZL] at hsT ⊢; refine ⟨fun hh => absurd rfl hh, fun _ => Jhh G.f hsT heT ⟨fun hh => absurd rfl hh, fun _ => ?_⟩⟩; have GN := Zv (v := v) G.f hsT; refine w_mMul (fun e hne hor => ?_) fun p' m' v' hF' _ _ _ _ _ => ?_
 .rcases hor with h | h | h
  .exact absurd GN.mk0 h
  .exact absurd G.mk0 h
  .exact absurd rfl h
 .obtain ⟨rfl, rfl, rfl⟩ := G.f.uniq3 hF'; exact h1 hs
end Go.Proofs.YtngdhnijkgjhcaaGreat
namespace Go.Proofs.YtngdhnijkgjhcaaGreat
variable {P M : Int} {mf : LI} {p m v g w : Nat} {C Ca Cb : Int} {X Y a b : LL}
def B2 : LL := [[1, 0, 1], [0, 1, 1]]
def B1 : LL := [[1, 0, 0]]
def U3 : LL := [[1, 0, 0], [0, 1, 0], [0, 0, 1]]
theorem Qa9 {q : Nat -> Nat} (h : (X.all fun r => decide (r.length = w)) = true) (h1 : ((List.range X.length).all fun i => decide (q i < w /\ (∀ t, t < X.length -> vo (row X t) (q i) = if t = i then 1 else 0) /\ (∀ c, c < q i -> vo (row X i) c = 0) /\ ∀ j, j < X.length -> i < j -> q i < q j)) = true) : Cnl w X q := by
 have g := fun i (hi : i < X.length) => of_decide_eq_true (List.all_eq_true.1 h1 i (List.mem_range.2 hi)); exact ⟨fun i hi => (g i hi).1, fun i hi t ht => (g i hi).2.1 t ht, fun i hi c hc => (g i hi).2.2.1 c hc, fun i j hij hj => (g i (by omega)).2.2.2 j hj hij⟩
theorem sg2 : Sg 2 1 [] 2 1 0 3 B2 id := ⟨fv2, ⟨by decide, by decide, by decide, by decide⟩, by unfold Els Elr; decide, Qa9 (by decide) (by decide)⟩
theorem sg1 : Sg 2 1 [] 2 1 0 3 B1 id := ⟨fv2, ⟨by decide, by decide, by decide, by decide⟩, by unfold Els Elr; decide, Qa9 (by decide) (by decide)⟩
theorem sgU : Sg 2 1 [] 2 1 0 3 U3 id := ⟨fv2, ⟨by decide, by decide, by decide, by decide⟩, by unfold Els Elr; decide, Qa9 (by decide) (by decide)⟩
theorem evs1 : JQ 2 1 0 3 (B2 ++ B1) = U3 := by decide +kernel
theorem evs2 : nul 2 1 0 3 (nul 2 1 0 3 B2 ++ nul 2 1 0 3 B1) = [] := by decide +kernel
theorem evs3 : nul 2 1 0 3 B2 = [[1, 1, 1]] := by decide +kernel
theorem evs4 : rsd 2 1 0 id B2 [1, 1, 0] 2 = [0, 0, 0] := by decide +kernel
theorem evs5 : rsd 2 1 0 id B2 [1, 0, 0] 2 = [0, 0, 1] := by decide +kernel
theorem evs6 : JQ 2 1 0 3 (rdl 2 1 0 id B1 U3) = [[0, 1, 0], [0, 0, 1]] := by decide +kernel
theorem evs7 : spt 2 1 0 3 B2 [1, 2] = [[0, 1, 1]] := by decide +kernel
theorem evs8 : rsd 2 1 0 id U3 [1, 0, 0] 3 = [0, 0, 0] := by decide +kernel
theorem in_U3 : ain 2 1 0 id U3 B1 := fun t ht => by
 have : t = 0 := by simpa [B1] using ht
 subst this; show zr (rsd 2 1 0 id U3 [1, 0, 0] 3); rw [evs8]; unfold zr; decide
theorem rsg_12 : rsg [1, 2] 3 := ⟨by decide, fun i hi => by
 have : i = 0 := by simp at hi; omega
 subst this; decide⟩
theorem Jke {Q : Bool -> Prop} (h : Q true) : Jbq Q := by
 have z1 : zr (rsd 2 1 0 id B2 [1, 1, 0] B2.length) := by show zr (rsd 2 1 0 id B2 [1, 1, 0] 2); rw [evs4]; unfold zr; decide
 have z2 : ¬ zr (rsd 2 1 0 id B2 [1, 0, 0] B2.length) := by show ¬ zr (rsd 2 1 0 id B2 [1, 0, 0] 2); rw [evs5]; unfold zr; decide
 refine w_Sum (a := B2) (b := B1) sg2 sg1 (by decide) ?_; rw [evs1]; refine w_Meet (a := B2) (b := B1) sg2 sg1 (by decide) ?_; rw [evs2]; refine w_Dual (a := B2) sg2 ?_; rw [evs3]; refine ZX (a := B2) sg2 rfl (by unfold Elr; decide) (fun _ => ?_) (fun hh => absurd z1 hh); refine Jhg (a := B2) sg2 rfl (by unfold Elr; decide) ?_; rw [show rsd 2 1 0 id B2 [1, 0, 0] B2.length = [0, 0, 1] from evs5]; refine Jo6 (a := B1) (b := U3) sg1 sgU (fun _ => ?_) (fun hh => absurd in_U3 hh); rw [evs6]; refine Jf9 (a := B2) (s := [1, 2]) sg2 (by decide) (fun _ => ?_) (fun hh => absurd rsg_12 hh); rw [evs7]; refine Jsr (a := B2) sg2 rfl (by unfold Elr; decide) (fun hh => absurd hh z2) (fun _ => ?_); refine Jmh (a := B1) (b := U3) sg1 sgU (fun _ => ?_) (fun hh => absurd in_U3 hh); refine ⟨fun b => b = true, ⟨fun _ => ⟨fun _ => ⟨fun _ => ⟨fun _ => ⟨fun _ => ⟨fun _ => ⟨fun _ => ⟨fun _ => rfl, fun h => absurd rfl h⟩, fun h => absurd rfl h⟩, fun h => absurd rfl h⟩, fun h => absurd rfl h⟩, fun h => absurd rfl h⟩, fun h => absurd rfl h⟩, fun h => absurd rfl h⟩, fun h => absurd rfl h⟩, fun b hb => ⟨hb, _, Qcv (by decide) rfl, YA (by decide) (by decide) (fun _ => rfl) (fun hh => absurd (by decide) hh), rfl, rfl, YA (by decide) (by decide) (fun _ => rfl) (fun hh => absurd rfl hh), Qx (by decide) (fun _ => rfl) (fun hh => absurd (by decide) hh), Qx (by decide) (fun _ => rfl) (fun hh => absurd rfl hh), YA (by decide) (by decide) (fun _ => rfl) (fun hh => absurd rfl hh), YA (by decide) (by decide) (fun _ => rfl) (fun hh => absurd rfl hh), rfl, rfl, _, Zq rfl, ?_⟩⟩; rw [show sck 2 1 [] 3 U3 = 0 from sgU.sck]; exact h
end Go.Proofs.YtngdhnijkgjhcaaGreat
namespace Go.Proofs.YtngdhnijkgjhcaaGreat
variable {P M : Int} {mf : LI} {p m v g w : Nat} {C Ca Cb : Int} {X Y a b : LL}
theorem Jeo (hF : FV P M mf p m v) {u x : Nat -> Nat} (hu : ∀ c, u c < p ^ m) (hx : ∀ c, x c < p ^ m) : dt p m v w u x = dt p m v w x u := Zy w fun c _ => hF.ring.Mc (hu c) (hx c)
theorem Jty {n : Nat} (R : LL) (pv : LI) : ∀ k c, c < k -> ¬ inP pv c = true -> ∃ j, j < (bas p m n R pv k).length /\ row (bas p m n R pv k) j = YX p m n R pv c pv.length
 | 0, c, h, _ => absurd h (Nat.not_lt_zero c)
 | k + 1, c, h, hc => by
  rw [YM]; by_cases e : c = k
  .subst e; rw [if_neg hc]; refine ⟨(bas p m n R pv c).length, by simp, ?_⟩; rw [Jkr, if_neg (by omega), if_pos rfl]
  .obtain ⟨j, h1, h2⟩ := Jty (n := n) R pv k c (by omega) hc; split
   .exact ⟨j, h1, h2⟩
   .exact ⟨j, by rw [List.length_append]; simp; omega, by rw [Jkr, if_pos h1]; exact h2⟩
theorem Jv1 (hs : shp C Y) : ∃ fc : Nat -> Nat, (∀ j, j < (Q3 p m v C Y).length -> fc j < C.toNat) /\ (∀ j, j < (Q3 p m v C Y).length -> ∀ i, i < (Q3 p m v C Y).length -> vo (row (Q3 p m v C Y) i) (fc j) = if i = j then 1 else 0) /\ ∀ c, c < C.toNat -> (∀ i, i < (JG p m v C Y).length -> (vo (JG p m v C Y) i).toNat ≠ c) -> ∃ j, j < (Q3 p m v C Y).length /\ fc j = c := by
  obtain ⟨fc, h1, h2⟩ := Jca (p := p) (m := m) (n := C.toNat) (JQ p m v C Y) (JG p m v C Y) C.toNat
  have hnp : ∀ c, ¬ inP (JG p m v C Y) c = true -> ∀ i, i < (JG p m v C Y).length -> (vo (JG p m v C Y) i).toNat ≠ c := fun c hc i hi e => by
    have h3 := Jig hc i hi
    have h4 := Jag (p := p) (m := m) (v := v) hs hi
    omega
  refine ⟨fc, fun j hj => (h1 j hj).1, fun j hj i hi => ?_, fun c hc hfree => ?_⟩
  . have e := (h1 i hi).2.2
    show vo (row (bas p m C.toNat (JQ p m v C Y) (JG p m v C Y) C.toNat) i) (fc j) = _
    rw [e]
    by_cases hij : i = j
    . subst hij; rw [if_pos rfl]; exact Jmt (h1 i hi).1 _ (hnp _ (h1 i hi).2.1)
    . rw [if_neg hij]
      refine Jby (fun e2 => ?_) _ (hnp _ (h1 j hj).2.1)
      rcases Nat.lt_or_gt_of_ne hij with h | h
      . have := h2 i j h hj; omega
      . have := h2 j i h hi; omega
  . have hfr : ¬ inP (JG p m v C Y) c = true := fun hh => by
      obtain ⟨i, hi, e⟩ := YZ.1 hh
      exact hfree i hi (by rw [e]; simp)
    obtain ⟨j, hj, e⟩ := Jty (p := p) (m := m) (n := C.toNat) (JQ p m v C Y) (JG p m v C Y) C.toNat c hc hfr
    refine ⟨j, hj, ?_⟩
    have e2 := (h1 j hj).2.2
    rw [e] at e2
    have t1 : vo (YX p m C.toNat (JQ p m v C Y) (JG p m v C Y) c (JG p m v C Y).length) c = 1 := Jmt hc _ (hnp c hfr)
    rcases Nat.decEq (fc j) c with hne | heq
    . rw [e2, Jby (fun hh => hne hh.symm) _ (hnp c hfr)] at t1; exact absurd t1 (by decide)
    . exact heq
theorem Jb0 (hF : FV P M mf p m v) : inE (p ^ m) 1 = 1 := Qt (x := 1) (by have := hF.ring.q2; omega)
theorem Jcn (hF : FV P M mf p m v) (hs : shp C Y) (he : Els p m Y) {u : LI} (hu : u.length = C.toNat) (hue : Elr p m u) (h : ∀ t, t < Y.length -> dt p m v C.toNat (en p m u) (en p m (row Y t)) = 0) : Sp p m v C.toNat (Q3 p m v C Y) u := by
  have R := hF.ring
  have hq : 1 < p ^ m := by have := R.q2; omega
  have hp : 0 < p := by have := hF.p2; omega
  obtain ⟨fc, f1, f2, f3⟩ := Jv1 (p := p) (m := m) (v := v) hs
  have hB := QU (p := p) (m := m) (v := v) hs
  intro f L hf
  have hcl := Qz (p := p) (m := m) (v := v) hs
  rw [<- Jed hF L hu hf (Q3 p m v C Y).length (Nat.le_refl _) (Q := fc)]
  have hwe := Jci (v := v) hp fc hue (X := Q3 p m v C Y) (Q3 p m v C Y).length
  have hwl : (rsd p m v fc (Q3 p m v C Y) u (Q3 p m v C Y).length).length = C.toNat := by rw [YB, hu]
  have hz : ∀ j, j < (Q3 p m v C Y).length -> vo (rsd p m v fc (Q3 p m v C Y) u (Q3 p m v C Y).length) (fc j) = 0 := fun j hj => Jz1 hF f1 f2 hu hue hj
  -- orthogonal to the rows
  have ho : ∀ t, t < Y.length -> dt p m v C.toNat (en p m (rsd p m v fc (Q3 p m v C Y) u (Q3 p m v C Y).length)) (en p m (row Y t)) = 0 := fun t ht => by
    rw [Jeo hF (JX hF _) (JX hF _)]
    have Lt := Jf1 (w := C.toNat) hF (JX hF (row Y t))
    have hA : Ann p m (dt p m v C.toNat (en p m (row Y t))) (Q3 p m v C Y) := (Q0 hF hB (QV hF) Lt).1 (Jcb hF hs he ht)
    rw [Jed hF Lt hu hA _ (Nat.le_refl _), Jeo hF (JX hF _) (JX hF _)]
    exact h t ht
  generalize rsd p m v fc (Q3 p m v C Y) u (Q3 p m v C Y).length = W at hwe hwl hz ho ⊢
  have hA2 : Ann p m (dt p m v C.toNat (en p m W)) (JQ p m v C Y) := (Q0 hF hs he (Jf1 hF (JX hF W))).2 ho
  have hfree : ∀ c, c < C.toNat -> (∀ i, i < (JG p m v C Y).length -> (vo (JG p m v C Y) i).toNat ≠ c) -> en p m W c = 0 := fun c hc hfr => by
    obtain ⟨j, hj, e⟩ := f3 c hc hfr
    have := hz j hj
    rw [e] at this
    unfold en; rw [this, ZP hF]
  refine Jnm hF L fun c hc => ?_
  by_cases hpv : ∃ i, i < (JG p m v C Y).length /\ (vo (JG p m v C Y) i).toNat = c
  . obtain ⟨i, hi, rfl⟩ := hpv
    have h1 := hA2 i (by omega)
    have h2 : dt p m v C.toNat (en p m W) (en p m (row (JQ p m v C Y) i)) = Jv p m (dv p v) (en p m W (vo (JG p m v C Y) i).toNat) (en p m (row (JQ p m v C Y) i) (vo (JG p m v C Y) i).toNat) := by
      refine Zw hF (f := fun c => Jv p m (dv p v) (en p m W c) (en p m (row (JQ p m v C Y) i) c)) (R.Ml _ _) C.toNat hc fun c' hc' hne => ?_
      show Jv p m (dv p v) (en p m W c') (en p m (row (JQ p m v C Y) i) c') = 0
      by_cases hpv2 : ∃ i', i' < (JG p m v C Y).length /\ (vo (JG p m v C Y) i').toNat = c'
      . obtain ⟨i', hi', rfl⟩ := hpv2
        have hii : i ≠ i' := fun e => hne (by rw [e])
        have : en p m (row (JQ p m v C Y) i) (vo (JG p m v C Y) i').toNat = 0 := by
          unfold en; rw [YK hF hs he hi' hi, if_neg hii, ZP hF]
        rw [this, R.M0 (JX hF _ _)]
      . rw [hfree c' hc' fun i' hi' e => hpv2 ⟨i', hi', e⟩, R.Mc (by omega) (JX hF _ _), R.M0 (JX hF _ _)]
    rw [h2] at h1
    have h3 : en p m (row (JQ p m v C Y) i) (vo (JG p m v C Y) i).toNat = 1 := by
      unfold en; rw [YK hF hs he hi hi, if_pos rfl, Jb0 hF]
    rw [h3, R.M1 (JX hF _ _)] at h1
    exact h1
  . exact hfree c hc fun i hi e => hpv ⟨i, hi, e⟩
theorem Qef {n : Nat} {a b : LI} (ha : Asc n a) (hb : Asc n b) (hl : a.length = b.length) (h : ∀ t, t < a.length -> ∃ j, j < b.length /\ vo b j = vo a t) : a = b := by
  have hmono : ∀ i j, i < b.length -> j < b.length -> vo b i < vo b j -> i < j := fun i j hi hj hv => by
    rcases Nat.lt_trichotomy i j with h1 | h1 | h1
    . exact h1
    . subst h1; omega
    . have := hb.2 j i h1 hi; omega
  have lo : ∀ t j, t < a.length -> j < b.length -> vo b j = vo a t -> t <= j := by
    intro t
    induction t with
    | zero => intro j _ _ _; exact Nat.zero_le _
    | succ t ih =>
      intro j ht hj e
      obtain ⟨j', hj', e'⟩ := h t (by omega)
      have h1 := ih j' (by omega) hj' e'
      have h2 := ha.2 t (t + 1) (by omega) ht
      have h3 := hmono j' j hj' hj (by omega)
      omega
  have hi : ∀ d t j, t + d + 1 = a.length -> j < b.length -> vo b j = vo a t -> j <= t := by
    intro d
    induction d with
    | zero => intro t j ht hj _; omega
    | succ d ih =>
      intro t j ht hj e
      obtain ⟨j', hj', e'⟩ := h (t + 1) (by omega)
      have h1 := ih (t + 1) j' (by omega) hj' e'
      have h2 := ha.2 t (t + 1) (by omega) (by omega)
      have h3 := hmono j j' hj hj' (by omega)
      omega
  refine QY hl fun t ht => ?_
  obtain ⟨j, hj, e⟩ := h t ht
  have h1 := lo t j ht hj e
  have h2 := hi (a.length - t - 1) t j (by omega) hj e
  rw [<- e, show j = t by omega]
theorem Qec (hF : FV P M mf p m v) (hX : shp C X) (eX : Els p m X) (hY : shp C Y) (eY : Els p m Y) (h : ∀ f, Lin p m v C.toNat f -> Ann p m f Y -> Ann p m f X) (hr : (JG p m v C X).length = (JG p m v C Y).length) : JQ p m v C X = JQ p m v C Y := by
  have R := hF.ring
  have hP : JG p m v C X = JG p m v C Y := Qef (QA C X) (QA C Y) hr (Jpp hF hX eX hY eY h)
  have lX := Qz (p := p) (m := m) (v := v) hX
  have lY := Qz (p := p) (m := m) (v := v) hY
  refine Jto (w := C.toNat) (by omega) (YL hF eX) (YL hF eY) (fun t ht => ⟨Jb8 hX ht, Jb8 hY (by omega)⟩) fun t c ht hc => ?_
  rw [Jgy hF hY eY (a := en p m (row (JQ p m v C X) t)) (JX hF _) (fun f L hf => (Q0 hF hX eX L).2 (h f L ((Q0 hF hY eY L).1 hf)) t ht) hc]
  refine (Zw hF (f := fun i => Jv p m (dv p v) (en p m (row (JQ p m v C X) t) (vo (JG p m v C Y) i).toNat) (en p m (row (JQ p m v C Y) i) c)) (j := t) (R.Ml _ _) _ (by omega) fun i hi hne => ?_).trans ?_
  . show Jv p m (dv p v) (inE (p ^ m) (vo (row (JQ p m v C X) t) (vo (JG p m v C Y) i).toNat)) _ = 0
    rw [<- hP, YK hF hX eX (by omega) (by omega), if_neg (fun e => hne e.symm), ZP hF, R.Mc (by have := R.q2; omega) (JX hF _ _), R.M0 (JX hF _ _)]
  . show Jv p m (dv p v) (inE (p ^ m) (vo (row (JQ p m v C X) t) (vo (JG p m v C Y) t).toNat)) _ = _
    rw [<- hP, YK hF hX eX (by omega) (by omega), if_pos rfl, Jb0 hF, R.Mc (by have := R.q2; omega) (JX hF _ _), R.M1 (JX hF _ _)]
theorem Jtl (hF : FV P M mf p m v) (hs : shp C Y) (he : Els p m Y) : (nul p m v C Y).length + (JG p m v C Y).length = C.toNat := Qbm hF hs he
theorem Jn9 (hF : FV P M mf p m v) (hs : shp C Y) (he : Els p m Y) : (JG p m v C (JQ p m v C Y)).length = (JQ p m v C Y).length := by
 rw [(Jlp hF hs he).2, Qz hs]
theorem dd (hF : FV P M mf p m v) (hs : shp C Y) (he : Els p m Y) : nul p m v C (nul p m v C Y) = JQ p m v C Y := by
  have G1 := Zv (v := v) hF hs
  have hB1 := QU (p := p) (m := m) (v := v) hs
  have hB2 := QU (p := p) (m := m) (v := v) G1.s
  have e1 := Jtl hF hs he
  have e2 := Jtl hF G1.s G1.e
  have e3 : (JG p m v C (nul p m v C Y)).length = (nul p m v C Y).length := Jn9 hF hB1 (QV hF)
  have e4 : (JG p m v C (nul p m v C (nul p m v C Y))).length = (nul p m v C (nul p m v C Y)).length := Jn9 hF hB2 (QV hF)
  have G2 := Zv (v := v) hF G1.s
  have key := Qec hF hs he G2.s G2.e (fun f L hf => ?_) (by omega)
  . rw [key]; exact (Jlp hF hB2 (QV hF)).1.symm
  . have hf2 : Ann p m f (Q3 p m v C (nul p m v C Y)) := (Q0 hF hB2 (QV hF) L).1 hf
    intro t ht
    exact Jcn hF G1.s G1.e (Qe hs ht) (Qb he t) (fun s hs' => by
      have := Jcb hF hs he ht s hs'
      exact this) f L hf2
end Go.Proofs.YtngdhnijkgjhcaaGreat
namespace Go.Proofs.YtngdhnijkgjhcaaGreat
variable {P M : Int} {mf : LI} {p m v g w : Nat} {C Ca Cb : Int} {X Y a b : LL}
end Go.Proofs.YtngdhnijkgjhcaaGreat
namespace Go.Proofs.YtngdhnijkgjhcaaGreat
variable {P M : Int} {mf : LI} {p m v g w : Nat} {C Ca Cb : Int} {X Y a b : LL}
theorem Sg.rows {q : Nat -> Nat} (G : Sg P M mf p m v C X q) : X.length <= 1000000 /\ ∀ r ∈ X, r.length <= 1000000 := ⟨by have := QZ G.s; omega, Jmv G.s⟩
end Go.Proofs.YtngdhnijkgjhcaaGreat
namespace Go.Proofs.YtngdhnijkgjhcaaGreat
variable {P M : Int} {mf : LI} {p m v g w : Nat} {C Ca Cb : Int} {X Y a b : LL}
theorem cmb_sp {q : Nat -> Nat} {x : LI} (G : Sg P M mf p m v C X q) : Sp p m v C.toNat X (cmb p m v x C.toNat X X.length) := fun f L hf => by
 have R := G.f.ring; rw [Jgw G.f L]; refine YH G.f _ fun i hi => ?_; rw [hf i hi, R.M0 (J6 (by have := R.q2; omega) _)]
end Go.Proofs.YtngdhnijkgjhcaaGreat
namespace Go.Proofs.YtngdhnijkgjhcaaGreat
open Go.RowKit
end Go.Proofs.YtngdhnijkgjhcaaGreat
set_option maxRecDepth 4000
set_option maxHeartbeats 4000000
namespace Go.Proofs.YtngdhnijkgjhcaaGreat
open Go.RowKit
end Go.Proofs.YtngdhnijkgjhcaaGreat
namespace Go.Proofs.YtngdhnijkgjhcaaGreat
variable {P M : Int} {mf : LI} {p m v g w : Nat} {C Ca Cb : Int} {X Y a b : LL}
theorem row_drop (X : LL) (i t : Nat) : row (X.drop i) t = row X (t + i) := by
 unfold row; rw [List.getD_eq_getElem?_getD, List.getElem?_drop, List.getD_eq_getElem?_getD, Nat.add_comm]
end Go.Proofs.YtngdhnijkgjhcaaGreat
namespace Go.Proofs.YtngdhnijkgjhcaaGreat
open Go.RowKit
end Go.Proofs.YtngdhnijkgjhcaaGreat
namespace Go.Proofs.YtngdhnijkgjhcaaGreat
variable {P M : Int} {mf : LI} {p m v g w : Nat} {C Ca Cb : Int} {X Y a b : LL}
theorem row_tk {i t : Nat} (h : t < i) : row (X.take i) t = row X t := Zr h
theorem Qc8 (hF : FV P M mf p m v) (hs : shp C X) (he : Els p m X) {u : LI} (h : Sp p m v C.toNat X u) {s : Nat} (hs' : s < (nul p m v C X).length) : dt p m v C.toNat (en p m u) (en p m (row (nul p m v C X) s)) = 0 := by
  rw [Jeo hF (JX hF _) (JX hF _)]
  refine h _ (Jf1 hF (JX hF _)) fun t ht => ?_
  rw [Jeo hF (JX hF _) (JX hF _)]
  exact Jcb hF hs he ht s hs'
end Go.Proofs.YtngdhnijkgjhcaaGreat
namespace Go.Proofs.YtngdhnijkgjhcaaGreat
variable {P M : Int} {mf : LI} {p m v g w : Nat} {C Ca Cb : Int} {X Y a b : LL}
def unt (n : Nat) (o : LI) : LL := o.map fun c => (List.replicate n (0 : Int)).set c.toNat 1
theorem Zh (n : Nat) (o : LI) : (unt n o).length = o.length := by simp [unt]
theorem Jko {n : Nat} {o : LI} {t : Nat} (h : t < o.length) : row (unt n o) t = (List.replicate n (0 : Int)).set (vo o t).toNat 1 := by
 unfold unt row vo; rw [List.getD_eq_getElem?_getD, List.getElem?_map, List.getD_eq_getElem?_getD, List.getElem?_eq_getElem h]; rfl
theorem Jki {o : LI} (hC : 0 <= C /\ C <= 256) (ho : o.length <= 256) : shp C (unt C.toNat o) := Jhv hC (by rw [Zh]; exact ho) fun t ht => by
 rw [Zh] at ht; rw [Jko ht]; simp
theorem Jsw (hF : FV P M mf p m v) (n : Nat) (o : LI) : Els p m (unt n o) := Zz fun t ht => by
 rw [Zh] at ht; rw [Jko ht]; refine Jdu fun i hi => ?_; have := hF.ring.q2; have h1 : (1 : Int) < ((p ^ m : Nat) : Int) := by exact_mod_cast (by omega : 1 < p ^ m)
 rw [J5]; split
 .exact ⟨by decide, h1⟩
 .rw [ZY]; exact ⟨by decide, by omega⟩
theorem Qa7 (hF : FV P M mf p m v) {n : Nat} {o : LI} {t : Nat} {u : LI} (ht : t < o.length) (ho : 0 <= vo o t /\ (vo o t).toNat < n) : dt p m v n (en p m u) (en p m (row (unt n o) t)) = en p m u (vo o t).toNat := by
 have R := hF.ring; rw [Jko ht]; refine (Zw hF (f := fun i => Jv p m (dv p v) (en p m u i) (en p m ((List.replicate n (0 : Int)).set (vo o t).toNat 1) i)) (j := (vo o t).toNat) (R.Ml _ _) n ho.2 fun i hi hne => ?_).trans ?_
 .show Jv p m (dv p v) _ (inE (p ^ m) (vo ((List.replicate n (0 : Int)).set (vo o t).toNat 1) i)) = 0; rw [J5, if_neg (fun hh => hne hh.1.symm), ZY, ZP hF, R.M0 (JX hF _ _)]
 .show Jv p m (dv p v) _ (inE (p ^ m) (vo ((List.replicate n (0 : Int)).set (vo o t).toNat 1) (vo o t).toNat)) = _; rw [J5, if_pos ⟨rfl, by simp; exact ho.2⟩, Jb0 hF, R.M1 (JX hF _ _)]
theorem Jta (s : LI) (n : Nat) {k : Nat} (hk : k < (Yl s n).length) : 0 <= vo (Yl s n) k /\ (vo (Yl s n) k).toNat < n := by
 have := Jm1 s n _ (Jav hk); omega
theorem Jzq {q : Nat -> Nat} (G : Sg P M mf p m v C a q) (hC : C <= 100) (s : LI) : spt p m v C a s = nul p m v C (nul p m v C a ++ unt C.toNat (Yl s C.toNat)) := by
  have hF := G.f
  have R := hF.ring
  have hq0 : 0 < p ^ m := by have := R.q2; omega
  have cc := Jbz G.s
  have hol := Zs s C.toNat
  have hal := QZ G.s
  have N := Zv (v := v) hF G.s
  have nl := N.q.len
  have gl := G.q.len
  have hoo := fun k hk => Jta s C.toNat (k := k) hk
  unfold spt
  generalize Yl s C.toNat = o at hol hoo ⊢
  have hsP := Js6 G.s (s := o) (by omega)
  have heP := Js7 hF G.e o
  have hsT : shp (a.length : Int) (tr o.length (pks a o)) := by
    have := Jzh hsP
    rw [ZL] at this
    exact this
  have heT : Els p m (tr o.length (pks a o)) := Jzi hsP heP
  have D := Zv (v := v) hF hsT
  have hB := QU (p := p) (m := m) (v := v) hsT
  have hD : nul p m v (a.length : Int) (tr o.length (pks a o)) = JQ p m v (a.length : Int) (Q3 p m v (a.length : Int) (tr o.length (pks a o))) := rfl
  have hDorth : ∀ i, i < (nul p m v (a.length : Int) (tr o.length (pks a o))).length -> ∀ k, k < o.length -> dt p m v a.length (en p m (row (tr o.length (pks a o)) k)) (en p m (row (nul p m v (a.length : Int) (tr o.length (pks a o))) i)) = 0 := fun i hi k hk => by
    have := Jcb hF hsT heT (t := k) (by rw [Jkj]; exact hk) i hi
    exact this
  have hnull : ∀ x : LI, x.length = a.length -> Elr p m x -> (∀ k, k < o.length -> dt p m v a.length (en p m x) (en p m (row (tr o.length (pks a o)) k)) = 0) -> Sp p m v a.length (nul p m v (a.length : Int) (tr o.length (pks a o))) x := fun x hx he h f L hf => by
    have key := Jcn hF hsT heT (u := x) hx he (fun t ht => h t (by rw [Jkj] at ht; exact ht))
    exact key f L ((Q0 hF hB (QV hF) L).1 hf)
  have dl := D.q.len
  have dle : (nul p m v (a.length : Int) (tr o.length (pks a o))).length <= 256 := by have := QZ D.s; omega
  generalize nul p m v (a.length : Int) (tr o.length (pks a o)) = E at D hDorth hnull dl dle ⊢
  generalize (fun i => (vo (JG p m v (a.length : Int) (Q3 p m v (a.length : Int) (tr o.length (pks a o)))) i).toNat) = qe at D
  have zs : shp C (mm p m v C.toNat E a) := mm_shp dle G.s
  have ze : Els p m (mm p m v C.toNat E a) := mm_els hF E a
  have zl := Jp3 (p := p) (m := m) (v := v) (w := C.toNat) E a
  -- its entries
  have zen : ∀ t c, t < E.length -> c < C.toNat -> en p m (row (mm p m v C.toNat E a) t) c = fs p m (fun j => Jv p m (dv p v) (en p m (row E t) j) (en p m (row a j) c)) a.length := fun t c ht hc => mm_en hF ht hc
  have zpv : ∀ t l, t < E.length -> l < a.length -> en p m (row (mm p m v C.toNat E a) t) (q l) = en p m (row E t) l := fun t l ht hl => by
    rw [zen t _ ht (G.q.lt l hl)]
    refine (Zw hF (f := fun j => Jv p m (dv p v) (en p m (row E t) j) (en p m (row a j) (q l))) (j := l) (R.Ml _ _) a.length hl fun i hi hne => ?_).trans ?_
    . show Jv p m (dv p v) _ (inE (p ^ m) (vo (row a i) (q l))) = 0
      rw [G.q.one l hl i hi, if_neg hne, ZP hF, R.M0 (JX hF _ _)]
    . show Jv p m (dv p v) _ (inE (p ^ m) (vo (row a l) (q l))) = _
      rw [G.q.one l hl l hl, if_pos rfl, Jb0 hF, R.M1 (JX hF _ _)]
  have hql : ∀ i, i < E.length -> qe i < a.length := fun i hi => by have := D.q.lt i hi; omega
  have hone : inE (p ^ m) 1 = 1 := Jb0 hF
  have zc : Cnl C.toNat (mm p m v C.toNat E a) fun i => q (qe i) := by
    refine ⟨fun i hi => ?_, fun i hi t ht => ?_, fun i hi c hc => ?_, fun i j hij hj => ?_⟩
    . rw [zl] at hi; exact G.q.lt _ (hql i hi)
    . rw [zl] at hi ht
      have h1 := zpv t (qe i) ht (hql i hi)
      have h2 := Z2 (Jem hF (Qb ze t) (q (qe i)))
      unfold en at h1
      rw [h1, D.q.one i hi t ht] at h2
      by_cases e : t = i
      . rw [if_pos e] at h2 ⊢
        rw [<- h2, hone]; rfl
      . rw [if_neg e] at h2 ⊢
        rw [<- h2, ZP hF]; rfl
    . rw [zl] at hi
      have hcC : c < C.toNat := by have := G.q.lt _ (hql i hi); omega
      refine (en_vo hF (Jem hF (Qb ze i) c)).1 ?_
      rw [zen i c hi hcC]
      refine YH hF _ fun j hj => ?_
      rcases Nat.lt_or_ge j (qe i) with h | h
      . have : en p m (row E i) j = 0 := by unfold en; rw [D.q.lf i hi j h, ZP hF]
        rw [this, R.Mc hq0 (JX hF _ _), R.M0 (JX hF _ _)]
      . have hlt : c < q j := by
          rcases Nat.lt_or_ge (qe i) j with h2 | h2
          . have := G.q.asc (qe i) j h2 hj; omega
          . rw [show j = qe i by omega]; exact hc
        have : en p m (row a j) c = 0 := by unfold en; rw [G.q.lf j hj c hlt, ZP hF]
        rw [this, R.M0 (JX hF _ _)]
    . rw [zl] at hj
      exact G.q.asc _ _ (D.q.asc i j hij hj) (hql j hj)
  have Z : Sg P M mf p m v C (mm p m v C.toNat E a) _ := ⟨hF, zs, ze, zc⟩
  have us := Jki (o := o) cc (by omega)
  have ue := Jsw hF C.toNat o
  have sY := Jbh N.s us (by rw [Zh]; omega)
  have eY := Jct N.e ue
  have W := Zv (v := v) hF sY
  have hBY := QU (p := p) (m := m) (v := v) sY
  have key : ∀ f, Lin p m v C.toNat f -> (Ann p m f (mm p m v C.toNat E a) ↔ Ann p m f (nul p m v C (nul p m v C a ++ unt C.toNat o))) := fun f L => ⟨fun hf t ht => ?_, fun hf t ht => ?_⟩
  . have h1 := Jn8 hF zs ze W.s W.e key
    rw [(Jcs hF zs ze zc).1, (Jcs hF W.s W.e W.q).1] at h1
    exact h1.2
  . -- a word of the space that is 0 outside s
    have hwl := Qe W.s ht
    have hwe := Qb W.e t
    have horth : ∀ k, k < (nul p m v C a ++ unt C.toNat o).length -> dt p m v C.toNat (en p m (row (nul p m v C (nul p m v C a ++ unt C.toNat o)) t)) (en p m (row (nul p m v C a ++ unt C.toNat o) k)) = 0 := fun k hk => by
      rw [Jeo hF (JX hF _) (JX hF _)]
      exact Jcb hF sY eY hk t ht
    generalize row (nul p m v C (nul p m v C a ++ unt C.toNat o)) t = u at hwl hwe horth ⊢
    have hspa : Sp p m v C.toNat a u := fun f L hf => by
      have k2 := Jcn hF N.s N.e hwl hwe fun s' hs' => by
        have := horth s' (by rw [List.length_append]; omega)
        rwa [Ja2, if_pos hs'] at this
      have e3 : nul p m v C (nul p m v C a) = a := (dd hF G.s G.e).trans (Jcs hF G.s G.e G.q).1
      have hf2 : Ann p m f (nul p m v C (nul p m v C a)) := by rw [e3]; exact hf
      exact k2 f L ((Q0 hF (QU (p := p) (m := m) (v := v) N.s) (QV hF) L).1 hf2)
    have hzo : ∀ k, k < o.length -> en p m u (vo o k).toNat = 0 := fun k hk => by
      have := horth ((nul p m v C a).length + k) (by rw [List.length_append, Zh]; omega)
      rw [Ja2, if_neg (by omega), Nat.add_sub_cancel_left, Qa7 hF hk (hoo k hk)] at this
      exact this
    have hcomb : ∀ c, c < C.toNat -> en p m u c = fs p m (fun i => Jv p m (dv p v) (en p m u (q i)) (en p m (row a i) c)) a.length := fun c hc => by
      obtain ⟨f1, f2⟩ := Jcs hF G.s G.e G.q
      have := Jgy hF G.s G.e (a := en p m u) (JX hF u) (fun f L h => hspa f L (by rwa [f1] at h)) hc
      rw [f1, f2] at this
      rw [this]
      simp only [List.length_map, List.length_range]
      refine Zy _ fun i hi => ?_
      rw [Jdo hi]; rfl
    -- its coefficients
    have xl : (pkr u (pvl q a.length)).length = a.length := by rw [Ja3, QM]
    have xe : Elr p m (pkr u (pvl q a.length)) := Jdu fun i hi => by rw [xl] at hi; rw [Jbx (by rw [QM]; exact hi)]; exact Jem hF hwe _
    have xen : ∀ i, i < a.length -> en p m (pkr u (pvl q a.length)) i = en p m u (q i) := fun i hi => by
      unfold en
      rw [Jbx (by rw [QM]; exact hi), Jdn hi]; rfl
    have xo : ∀ k, k < o.length -> dt p m v a.length (en p m (pkr u (pvl q a.length))) (en p m (row (tr o.length (pks a o)) k)) = 0 := fun k hk => by
      rw [<- hzo k hk, hcomb _ (hoo k hk).2]
      refine Zy _ fun i hi => ?_
      have e5 : en p m (row (tr o.length (pks a o)) k) i = en p m (row a i) (vo o k).toNat := by
        rw [tr_en hk (by rw [ZL]; exact hi), Jee hi]
        unfold en; rw [Jbx hk]
      rw [e5, xen i hi]
    have hx := hnull _ xl xe xo
    have hg := hx (dt p m v a.length fun j => f (en p m (row a j))) (Jf1 hF fun j => L.lt _) fun i hi => ?_
    . have e6 : f (en p m u) = fs p m (fun i => Jv p m (dv p v) (inE (p ^ m) (vo (pkr u (pvl q a.length)) i)) (f (en p m (row a i)))) a.length := by
        rw [<- Jgw hF L]
        exact L.cg fun c hc => by
          rw [hcomb c hc, Jqh hF hc]
          refine Zy _ fun i hi => ?_
          have := xen i hi
          unfold en at this ⊢
          rw [this]
      rw [e6, <- hg]
      exact Zy _ fun i hi => R.Mc (J6 hq0 _) (L.lt _)
    . have e7 := hf i (by rw [zl]; exact hi)
      rw [Jkq hi, Jgw hF L] at e7
      rw [<- e7]
      exact Zy _ fun j hj => R.Mc (L.lt _) (JX hF _ _)
  . -- a combination with such coefficients
    rw [zl] at ht
    have hwl : (row (mm p m v C.toNat E a) t).length = C.toNat := Qe zs (by rw [zl]; exact ht)
    have hwe := Qb ze t
    have hsp : Sp p m v C.toNat a (row (mm p m v C.toNat E a) t) := by rw [Jkq ht]; exact cmb_sp G
    have k1 := Jcn hF sY eY hwl hwe fun k hk => by
      rw [Ja2]
      split
      . exact Qc8 hF G.s G.e hsp (by assumption)
      . rw [List.length_append, Zh] at hk
        rw [Qa7 hF (by omega) (hoo _ (by omega)), zen t _ ht (hoo _ (by omega)).2]
        have := hDorth t ht (k - (nul p m v C a).length) (by omega)
        rw [<- this]
        refine Zy _ fun i hi => ?_
        have e5 : en p m (row (tr o.length (pks a o)) (k - (nul p m v C a).length)) i = en p m (row a i) (vo o (k - (nul p m v C a).length)).toNat := by
          rw [tr_en (by omega) (by rw [ZL]; exact hi), Jee hi]
          unfold en; rw [Jbx (by omega)]
        rw [e5]
        exact R.Mc (JX hF _ _) (JX hF _ _)
    exact k1 f L ((Q0 hF hBY (QV hF) L).1 hf)
end Go.Proofs.YtngdhnijkgjhcaaGreat
namespace Go.Proofs.YtngdhnijkgjhcaaGreat
variable {P M : Int} {mf : LI} {p m v g w : Nat} {C Ca Cb : Int} {X Y a b : LL}
theorem Jo1 {s : LI} {n : Int} {Q : Bool -> Prop} (hl : s.length <= 1000000) (h1 : rsg s n -> Q true) (h2 : ¬ rsg s n -> Q false) : Jbn s n Q := by
 refine ⟨fun z => ∃ t : Nat, z = t /\ t <= s.length /\ (∀ i, i < t -> 0 <= vo s i /\ vo s i < n) /\ (∀ i, i + 1 < t -> vo s i < vo s (i + 1)), fun z => (s.length - z).toNat, ⟨0, rfl, Nat.zero_le _, fun i hi => absurd hi (Nat.not_lt_zero i), fun i hi => absurd hi (Nat.not_lt_zero _)⟩, ?_⟩; rintro _ ⟨t, rfl, ht, hr, ha⟩; dsimp only; rw [JU]; refine ⟨fun hlt => ?_, fun hge => h1 ?_⟩
 .have htl : t < s.length := by omega
  refine ⟨fun b => (0 <= vo s t /\ vo s t < n) /\ (0 < t -> vo s (t - 1) < vo s t), ⟨fun h => ⟨⟨by omega, by omega⟩, h2 fun hh => ?_⟩, fun h => ⟨fun hn => ⟨⟨by omega, by omega⟩, ⟨by omega, by omega⟩, h2 fun hh => ?_⟩, fun hn => ⟨fun h0 => ?_, fun h0 => ?_⟩⟩⟩, ?_⟩
  .have := hh.1 t htl; omega
  .have := hh.1 t htl; omega
  .rw [show ((t : Nat) : Int) - 1 = ((t - 1 : Nat) : Int) by omega, JU]; refine ⟨⟨by omega, by omega⟩, ⟨by omega, by omega⟩, ⟨by omega, by omega⟩, Jz (by omega) (by omega), ⟨by omega, by omega⟩, fun hle => h2 fun hh => ?_, fun hle => ⟨⟨by omega, by omega⟩, fun _ => by omega⟩⟩; have := hh.2 (t - 1) (by omega); rw [show t - 1 + 1 = t by omega] at this; omega
  .exact ⟨⟨by omega, by omega⟩, ⟨by omega, by omega⟩, ⟨by omega, by omega⟩, fun hh => by omega⟩
  .rintro b ⟨hb, hb2⟩; refine ⟨Jz (by omega) (by omega), ⟨t + 1, by push_cast; rfl, by omega, fun i hi => ?_, fun i hi => ?_⟩, by omega⟩
   .by_cases e : i = t
    .subst e; exact hb
    .exact hr i (by omega)
   .by_cases e : i + 1 = t
    .have := hb2 (by omega); rw [show t - 1 = i by omega] at this; rw [e]; exact this
    .exact ha i (by omega)
 .have e : t = s.length := by omega
  subst e; exact ⟨hr, ha⟩
theorem Jo2 {s : LI} {n : Int} {Q : LI -> Prop} (hl : s.length <= 1000000) (hn : n <= 1000) (h : Q (Yl s n.toNat)) : Jbo s n Q := by
 refine ⟨fun x z => ∃ t : Nat, z = t /\ t <= n.toNat /\ x = Yl s t, fun _ z => (n - z).toNat, ⟨0, rfl, Nat.zero_le _, rfl⟩, ?_⟩; rintro _ _ ⟨t, rfl, ht, rfl⟩; dsimp only; refine ⟨fun hlt => ?_, fun hge => ?_⟩
 case refine_2 =>
  have e : t = n.toNat := by omega
  subst e; exact h
 have hol := Zs s t; refine ⟨fun y _ _ _ _ => y = Yl s (t + 1), ⟨fun b z => ∃ u : Nat, z = u /\ u <= s.length /\ (b = true ↔ ∃ i, i < u /\ vo s i = (t : Int)), fun _ z => (s.length - z).toNat, ⟨0, rfl, Nat.zero_le _, ⟨fun hb => (by cases hb), fun ⟨i, hi, _⟩ => absurd hi (Nat.not_lt_zero i)⟩⟩, ?_⟩, ?_⟩
 .rintro b _ ⟨u, rfl, hu, hb⟩; dsimp only; refine ⟨fun hlt => ?_, fun hge => ?_⟩
  .refine ⟨fun c => (c = true ↔ ∃ i, i < u + 1 /\ vo s i = (t : Int)), ⟨fun hb1 => ⟨fun _ => ?_, fun _ => rfl⟩, fun hb0 => ⟨⟨by omega, by omega⟩, ?_⟩⟩, fun c hc => ⟨Jz (by omega) (by omega), ⟨u + 1, by push_cast; rfl, by omega, hc⟩, by omega⟩⟩
   .obtain ⟨i, hi, e⟩ := hb.1 hb1; exact ⟨i, by omega, e⟩
   .rw [JU]; show decide _ = true ↔ _; rw [decide_eq_true_eq]; refine ⟨fun e => ⟨u, by omega, e⟩, fun ⟨i, hi, e⟩ => ?_⟩; by_cases e2 : i = u
    .rw [<- e2]; exact e
    .rw [hb.2 ⟨i, by omega, e⟩] at hb0; cases hb0
  .have e : u = s.length := by omega
   subst e; refine ⟨fun hb0 => ⟨by omega, ?_⟩, fun hb1 => ?_⟩
   .rw [Z9, if_neg fun hh => ?_]; rw [hb.2 (YZ.1 hh)] at hb0; cases hb0
   .rw [Z9, if_pos (YZ.2 (hb.1 (by simpa using hb1)))]
 .rintro y _ _ _ _ rfl; exact ⟨Jz (by omega) (by omega), ⟨t + 1, by push_cast; rfl, by omega, rfl⟩, by omega⟩
theorem Jzg (n : Nat) {o : LI} {t : Nat} (h : t < o.length) : unt n (o.take (t + 1)) = unt n (o.take t) ++ [(List.replicate n (0 : Int)).set (vo o t).toNat 1] := by
 unfold unt; have e : (vo o t) = o[t] := by unfold vo; rw [List.getD_eq_getElem?_getD, List.getElem?_eq_getElem h]; rfl
 rw [List.take_add_one, List.getElem?_eq_getElem h, List.map_append, e]; rfl
theorem Jo0 {q : Nat -> Nat} {s : LI} {Q : LL -> Prop} (G : Sg P M mf p m v C a q) (hC : C <= 100) (hl : s.length <= 1000000) (h : Q (spt p m v C a s)) : Jbm P M mf a C s Q := by
 rw [Jzq G hC] at h; have cc := Jbz G.s; have N := Zv (v := v) G.f G.s; have nl := N.q.len; refine Jsp G.f G.s G.e (Jo2 hl (by omega) ?_); have hol := Zs s C.toNat; have hoo := fun k hk => Jta s C.toNat (k := k) hk; generalize Yl s C.toNat = o at hol hoo h ⊢; refine ⟨fun x z => ∃ t : Nat, z = t /\ t <= o.length /\ x = nul p m v C a ++ unt C.toNat (o.take t), fun _ z => (o.length - z).toNat, ⟨0, rfl, Nat.zero_le _, (List.append_nil _).symm⟩, ?_⟩; rintro _ _ ⟨t, rfl, ht, rfl⟩; dsimp only; refine ⟨fun hlt => ?_, fun hge => ?_⟩
 .have htl : t < o.length := by omega
  have h5 := hoo t htl; rw [JU]; have es : si (List.replicate C.toNat (0 : Int)) (vo o t) 1 = (List.replicate C.toNat (0 : Int)).set (vo o t).toNat 1 := by
   rw [show vo o t = (((vo o t).toNat : Nat) : Int) by omega, Qk]; rfl
  refine ⟨⟨by omega, by omega, by omega⟩, ⟨by omega, by omega⟩, ⟨by omega, by omega⟩, ?_, Jz (by omega) (by omega), ⟨t + 1, by push_cast; rfl, by omega, ?_⟩, by omega⟩
  .rw [List.length_append, Zh, List.length_take]; omega
  .rw [es, Jzg _ htl, List.append_assoc]
 .have e : t = o.length := by omega
  subst e; rw [List.take_length]; have us := Jki (o := o) cc (by omega); have ue := Jsw G.f C.toNat o; exact Jsp G.f (Jbh N.s us (by rw [Zh]; omega)) (Jct N.e ue) h
theorem Je8 {s : LI} {Q : Int × LL × Int -> Prop} (h0 : sck P M mf C a ≠ 0) (h : Q (0, [], sck P M mf C a)) : Q8 P M mf C a s Q := Je9 ⟨fun _ => h, fun hh => absurd h0 hh⟩
theorem Jdb {q : Nat -> Nat} {s : LI} {Q : Int × LL × Int -> Prop} (G : Sg P M mf p m v C a q) (hC : C <= 100) (hl : s.length <= 1000000) (h1 : rsg s C -> Q (C, spt p m v C a s, 0)) (h2 : ¬ rsg s C -> Q (0, [], 6)) : Q8 P M mf C a s Q := by
 refine Je9 ?_; rw [G.sck]; refine ⟨fun hh => absurd rfl hh, fun _ => Jo1 hl (fun hs => ⟨fun hb => (by cases hb), fun _ => ⟨spt p m v C a s, Jo0 G hC hl rfl, h1 hs⟩⟩) (fun hs => ⟨fun _ => h2 hs, fun hb => by cases hb⟩)⟩
theorem Jms {q : Nat -> Nat} (G : Sg P M mf p m v C a q) (hC : C <= 100) (s : LI) : (spt p m v C a s).length <= 1000000 /\ ∀ r ∈ spt p m v C a s, r.length <= 1000000 := by
 rw [Jzq G hC]; have N := Zv (v := v) G.f G.s; have nl := N.q.len; have cc := Jbz G.s; have hol := Zs s C.toNat; have us := Jki (o := Yl s C.toNat) cc (by omega); have W := Zv (v := v) G.f (Jbh N.s us (by rw [Zh]; omega)); exact W.rows
theorem w_lsup {y : LI} (hC : C <= 100) (hl : y.length <= 1000000) : Yj P M mf C a y (fun q => match q with | (c69, x70, r71) => Q8 P M mf C a y (fun q => match q with | (c80, x81, r82) => ((r71 = r82) -> (Je0 c69 x70 c80 x81 (fun r92 => r92 = true))) /\ (¬ (r71 = r82) -> false = true))) := by
 by_cases h0 : sck P M mf C a = 0
 .obtain ⟨p, m, v, q, G⟩ := Jkn h0; refine Jf9 G hl (fun hs => Jdb G hC hl (fun _ => ?_) fun hh => absurd hs hh) (fun hs => Jdb G hC hl (fun hh => absurd hh hs) fun _ => ?_)
  .exact ⟨fun _ => Jkc (Jms G hC y).1 (Jms G hC y).2 rfl, fun hh => absurd rfl hh⟩
  .exact ⟨fun _ => Jkc (by simp) (by simp) rfl, fun hh => absurd rfl hh⟩
 .refine Jhf h0 (Je8 h0 ?_); exact ⟨fun _ => Jkc (by simp) (by simp) rfl, fun hh => absurd rfl hh⟩
theorem Jif (P M : Int) (mf : LI) (C : Int) (a : LL) (y : LI) : Jiz P M mf C a y (fun r => r = true) := by
 refine Jke ⟨fun hb => (by cases hb), fun _ => w_few (fun hA _ hla _ => ⟨fun hb => (by cases hb), fun _ => ⟨fun _ => Jke rfl, fun hy40 => ?_⟩⟩) ⟨fun _ => Jke rfl, fun hb => (by cases hb)⟩⟩; have hyl : y.length <= 1000000 := by omega
 have S := w_lsup (P := P) (M := M) (mf := mf) (a := a) (y := y) (show C <= 100 by omega) hyl; by_cases h0 : wdk P M mf C a y = 0
 .obtain ⟨p, m, v, q, G, hy, he⟩ := Qcu h0; have hr : (rsd p m v q a y a.length).length <= 1000000 := by rw [YB]; exact hyl
  by_cases hz : zr (rsd p m v q a y a.length)
  .refine Jsr G hy he (fun _ => Jso G hy he (fun _ => ?_) fun hh => absurd hz hh) fun hh => absurd hz hh; refine ⟨fun hh => absurd rfl hh, fun _ => ⟨fun hb => (by cases hb), fun _ => Jhg G hy he (Jhc G hy he ⟨fun hh => absurd rfl hh, fun _ => Qx hr (fun _ => ⟨fun hb => (by cases hb), fun _ => ?_⟩) fun hh => absurd rfl hh⟩)⟩⟩; refine ZX G hy he (fun _ => Jbu G hy he (fun _ => ?_) fun hh => absurd hz hh) fun hh => absurd hz hh; exact ⟨fun hh => absurd rfl hh, fun _ => Qx (by rw [Ja3, QM]; omega) (fun _ => ⟨fun hb => (by cases hb), fun _ => S⟩) fun hh => absurd rfl hh⟩
  .refine Jsr G hy he (fun hh => absurd hh hz) fun _ => Jso G hy he (fun hh => absurd hh hz) fun _ => ?_; refine ⟨fun hh => absurd rfl hh, fun _ => ⟨fun hb => (by cases hb), fun _ => Jhg G hy he (Jhc G hy he ⟨fun hh => absurd rfl hh, fun _ => Qx hr (fun _ => ⟨fun hb => (by cases hb), fun _ => ?_⟩) fun hh => absurd rfl hh⟩)⟩⟩; refine ZX G hy he (fun hh => absurd hh hz) fun _ => Jbu G hy he (fun hh => absurd hh hz) fun _ => ?_; exact ⟨fun hh => absurd rfl hh, fun _ => Qx (by simp) (fun _ => ⟨fun hb => (by cases hb), fun _ => S⟩) fun hh => absurd rfl hh⟩
 .refine Jmi h0 (Jo3 h0 ?_); refine ⟨fun hh => absurd rfl hh, fun _ => ⟨fun hb => (by cases hb), fun _ => Jmg h0 (Ji4 h0 ⟨fun hh => absurd rfl hh, fun _ => Qx (by simp) (fun _ => ⟨fun hb => (by cases hb), fun _ => ?_⟩) fun hh => absurd rfl hh⟩)⟩⟩; refine Jfa h0 (Jdl h0 ?_); exact ⟨fun hh => absurd rfl hh, fun _ => Qx (by simp) (fun _ => ⟨fun hb => (by cases hb), fun _ => S⟩) fun hh => absurd rfl hh⟩
end Go.Proofs.YtngdhnijkgjhcaaGreat
