/- Contracts of functions of the program, and what they lean on: M16, M17, M18, M19, M20, M21, M22, M23, M24, S1, S2, S3, S4, S5, S6, S7, S8, S9, S10, S11, S12, Xm, D20, S14. -/
import Derived.Test.YtngdhnijkgjhcaaGreatSpaceModularG9
set_option linter.unusedVariables false
set_option linter.unusedSimpArgs false
namespace Go.Proofs.YtngdhnijkgjhcaaGreat
section
variable {p m v : Nat} {P M : Int} {mf : List Int} {X Y : List (List Int)} {C : Int} {w : Nat}
theorem Jeg {pv : List Int} {c : Nat} (h : ¬ inP pv c = true) : ∀ i, i < pv.length -> vo pv i ≠ (c : Int) := fun i hi e => h (Jaq.2 ⟨i, hi, e⟩)
theorem Jrb {n : Nat} (R : List (List Int)) {pv : List Int} (hp : Asc n pv) : ∀ k, k <= n -> ∃ c, c <= pv.length /\ (∀ i, i < pv.length -> (vo pv i < (k : Int) ↔ i < c)) /\ (bas p m n R pv k).length + c = k
 | 0, _ => ⟨0, Nat.zero_le _, fun i hi => ⟨fun h => by have := hp.1 i hi; omega, fun h => absurd h (Nat.not_lt_zero _)⟩, rfl⟩
 | k + 1, hk => by
  obtain ⟨c, h1, h2, h3⟩ := Jrb R hp k (by omega); rw [Zs]; by_cases hin : inP pv k = true
  .rw [if_pos hin]; obtain ⟨j, hj, e⟩ := Jaq.1 hin; have hcj : c <= j := by
    rcases Nat.lt_or_ge j c with h | h
    .have := (h2 j hj).2 h; omega
    .exact h
   have hc : c < pv.length := by omega
   have e2 : c = j := by
    rcases Nat.lt_or_ge c j with h | h
    .have h5 := hp.2 c j h hj; have h6 := (h2 c hc).1 (by omega); omega
    .omega
   subst e2; refine ⟨c + 1, by omega, fun i hi => ⟨fun h => ?_, fun h => ?_⟩, by omega⟩
   .rcases Nat.lt_or_ge i (c + 1) with h' | h'
    .exact h'
    .have := hp.2 c i (by omega) hi; omega
   .rcases Nat.lt_or_ge i c with h' | h'
    .have := (h2 i hi).2 h'; omega
    .rw [show i = c by omega]; omega
  .rw [if_neg hin]; refine ⟨c, h1, fun i hi => ?_, by rw [List.length_append, List.length_singleton]; omega⟩; have := Jeg hin i hi; rw [<- h2 i hi]; omega
theorem Jg0 {n : Nat} (R : List (List Int)) {pv : List Int} (hp : Asc n pv) : (bas p m n R pv n).length + pv.length = n := by
 obtain ⟨c, h1, h2, h3⟩ := Jrb (p := p) (m := m) R hp n (Nat.le_refl _); have : c = pv.length := by
  rcases Nat.lt_or_ge c pv.length with h | h
  .have := (h2 c h).1 (hp.1 c h).2; omega
  .omega
 omega
theorem Jiv {Z : List (List Int)} {l : List Int} {t : Nat} : row (Z ++ [l]) t = if t < Z.length then row Z t else if t = Z.length then l else [] := by
 unfold row; rw [List.getD_eq_getElem?_getD, List.getElem?_append]; split
 .rw [<- List.getD_eq_getElem?_getD]
 .rename_i h
  split
  .rename_i e; rw [e, Nat.sub_self]; rfl
  .rw [List.getElem?_eq_none (by simp; omega)]; rfl
theorem Z1 {n : Nat} (R : List (List Int)) (pv : List Int) : ∀ k, ∃ fc : Nat -> Nat, (∀ j, j < (bas p m n R pv k).length -> fc j < k /\ ¬ inP pv (fc j) = true /\ row (bas p m n R pv k) j = YM p m n R pv (fc j) pv.length) /\ ∀ i j, i < j -> j < (bas p m n R pv k).length -> fc i < fc j
 | 0 => ⟨fun _ => 0, fun j hj => absurd hj (Nat.not_lt_zero _), fun i j _ hj => absurd hj (Nat.not_lt_zero _)⟩
 | k + 1 => by
  obtain ⟨fc, h1, h2⟩ := Z1 (n := n) R pv k; rw [Zs]; by_cases hin : inP pv k = true
  .rw [if_pos hin]; exact ⟨fc, fun j hj => ⟨by have := (h1 j hj).1; omega, (h1 j hj).2⟩, h2⟩
  .rw [if_neg hin]; refine ⟨fun j => if j < (bas p m n R pv k).length then fc j else k, fun j hj => ?_, fun i j hij hj => ?_⟩
   .rw [List.length_append, List.length_singleton] at hj; dsimp only; rw [Jiv]; by_cases e : j < (bas p m n R pv k).length
    .rw [if_pos e, if_pos e]; exact ⟨by have := (h1 j e).1; omega, (h1 j e).2⟩
    .rw [if_neg e, if_neg e, if_pos (by omega)]; exact ⟨by omega, hin, rfl⟩
   .rw [List.length_append, List.length_singleton] at hj; dsimp only; rw [if_pos (by omega : i < (bas p m n R pv k).length)]; by_cases e : j < (bas p m n R pv k).length
    .rw [if_pos e]; exact h2 i j hij e
    .rw [if_neg e]; exact (h1 i (by omega)).1
theorem Jhv {n t : Nat} {R : List (List Int)} {pv : List Int} (ht : t < n) : ∀ k, (∀ i, i < k -> (vo pv i).toNat ≠ t) -> vo (YM p m n R pv t k) t = 1
 | 0, _ => by
  show vo ((List.replicate n (0 : Int)).set t 1) t = 1; rw [Qw, if_pos ⟨rfl, by rw [List.length_replicate]; exact ht⟩]
 | k + 1, h => by
  rw [Zk, Qw, if_neg (fun e => h k (by omega) e.1)]; exact Jhv ht k fun i hi => h i (by omega)
theorem Jq1 (hF : FV P M mf p m v) {u : Nat -> Nat} {A : Nat -> Nat -> Nat} {R' : Nat -> Nat} (hu : ∀ j, u j < p ^ m) (hA : ∀ i j, A i j < p ^ m) (hR : ∀ i, R' i < p ^ m) (n : Nat) : ∀ r,
  fs p m (fun j => Ju p m (dv p v) (u j) (fs p m (fun i => Ju p m (dv p v) (A i j) (R' i)) r)) n = fs p m (fun i => Ju p m (dv p v) (R' i) (fs p m (fun j => Ju p m (dv p v) (u j) (A i j)) n)) r
 | 0 => YR hF _ fun j _ => hF.ring.M0 (hu j)
 | r + 1 => by
  have R := hF.ring; show _ = JS p m (fs p m _ r) (Ju p m (dv p v) (R' r) (fs p m _ n)); rw [<- Jq1 hF hu hA hR n r, <- Jeh hF (fun j => R.Ml _ _) (fun j => R.Ml _ _) (hR r)]; refine Jcn _ fun j _ => ?_; show Ju p m (dv p v) (u j) (JS p m _ _) = _; rw [R.Md (hu j) (Zr hF _ _) (R.Ml _ _), R.Mc (hA r j) (hR r), <- R.Ma (hu j) (hR r) (hA r j), R.Mc (hu j) (hR r), R.Ma (hR r) (hu j) (hA r j)]
theorem Jlw (hF : FV P M mf p m v) {B : List (List Int)} (hs : shp C B) (he : Els p m B) (fc : Nat -> Nat) (hf : ∀ j, j < B.length -> fc j < C.toNat) (hu : ∀ i j, i < B.length -> j < B.length -> vo (row B i) (fc j) = if i = j then 1 else 0) : (JB p m v C B).length = B.length := by
  have R := hF.ring
  have q1 : 1 < p ^ m := R.q2
  have hle := Ye (p := p) (m := m) (v := v) hs
  rcases Nat.lt_or_ge (JB p m v C B).length B.length with hlt | h
  . exfalso
    have hB := QN hs
    -- the entries at the pivots, as a matrix of fewer rows than columns
    have hA : ∃ A : List (List Int), A = (List.range (JB p m v C B).length).map fun i => (List.range B.length).map fun j => vo (row B j) (vo (JB p m v C B) i).toNat := ⟨_, rfl⟩
    obtain ⟨A, hA⟩ := hA
    have hAl : A.length = (JB p m v C B).length := by rw [hA]; simp
    have hAr : ∀ i, i < A.length -> row A i = (List.range B.length).map fun j => vo (row B j) (vo (JB p m v C B) i).toNat := fun i hi => by rw [hA]; exact Jae (by omega)
    have hAe : ∀ i, i < A.length -> ∀ j, j < B.length -> vo (row A i) j = vo (row B j) (vo (JB p m v C B) i).toNat := fun i hi j hj => by rw [hAr i hi]; exact Ja9 hj
    have hAs : shp (B.length : Int) A := ⟨by omega, by omega, by omega, fun r hr => by
      obtain ⟨i, hi, rfl⟩ := Jam hr
      rw [hAr i hi]; simp⟩
    have hasc := Qs (p := p) (m := m) (v := v) C B
    have hAE : Els p m A := Jas fun i hi => Jjf fun j hj => by
      rw [hAr i hi, List.length_map, List.length_range] at hj
      rw [hAe i hi j hj]
      have h5 := hasc.1 i (by omega)
      exact JZ he j _ (Ja8 (by rw [JU hs hj]; omega))
    have hal := Ye (p := p) (m := m) (v := v) hAs
    have hascA := Qs (p := p) (m := m) (v := v) (B.length : Int) A
    have e0 : ((B.length : Nat) : Int).toNat = B.length := by omega
    have hbl := Jg0 (p := p) (m := m) (JH p m v (B.length : Int) A) hascA
    obtain ⟨fa, h1, _⟩ := Z1 (p := p) (m := m) (n := ((B.length : Nat) : Int).toNat) (JH p m v (B.length : Int) A) (JB p m v (B.length : Int) A) ((B.length : Nat) : Int).toNat
    obtain ⟨ht, hnp, _⟩ := h1 0 (by omega)
    generalize fa 0 = t at *
    have hnp' : ∀ i, i < (JB p m v (B.length : Int) A).length -> (vo (JB p m v (B.length : Int) A) i).toNat ≠ t := fun i hi => by
      have h5 := Jeg hnp i hi
      have h6 := hascA.1 i hi
      omega
    have hann := Jiq hF hAs hAE ht hnp'
    have hut : en p m (YM p m ((B.length : Nat) : Int).toNat (JH p m v (B.length : Int) A) (JB p m v (B.length : Int) A) t (JB p m v (B.length : Int) A).length) t = 1 := YD hF q1 (Jhv ht _ hnp')
    have hul := JQ hF (YM p m ((B.length : Nat) : Int).toNat (JH p m v (B.length : Int) A) (JB p m v (B.length : Int) A) t (JB p m v (B.length : Int) A).length)
    generalize en p m (YM p m ((B.length : Nat) : Int).toNat (JH p m v (B.length : Int) A) (JB p m v (B.length : Int) A) t (JB p m v (B.length : Int) A).length) = u at *
    rw [e0] at hann ht
    have hl := hf t ht
    -- the sum of the rows by u, at t's own column, in two ways
    have s1 : fs p m (fun j => Ju p m (dv p v) (u j) (en p m (row B j) (fc t))) B.length = 1 := by
      have h5 : ∀ j, j < B.length -> en p m (row B j) (fc t) = if j = t then 1 else 0 := fun j hj => by
        have := hu j t hj ht
        by_cases e : j = t
        . rw [if_pos e] at this ⊢; exact YD hF q1 this
        . rw [if_neg e] at this ⊢; exact YD hF (by omega) this
      rw [Zq hF (f := fun j => Ju p m (dv p v) (u j) (en p m (row B j) (fc t))) (j := t) (R.Ml _ _) _ ht fun j hj hne => by
        show Ju p m (dv p v) _ _ = 0
        rw [h5 j hj, if_neg hne, R.M0 (hul j)]]
      show Ju p m (dv p v) _ _ = 1
      rw [h5 t ht, if_pos rfl, hut, R.M1 q1]
    have s2 : fs p m (fun j => Ju p m (dv p v) (u j) (en p m (row B j) (fc t))) B.length = 0 := by
      rw [Jcn (h := fun j => Ju p m (dv p v) (u j) (fs p m (fun i => Ju p m (dv p v) (en p m (row B j) (vo (JB p m v C B) i).toNat) (en p m (row (JH p m v C B) i) (fc t))) (JB p m v C B).length)) B.length fun j hj => by rw [Jxk hF hs he hj hl]]
      rw [Jq1 hF (A := fun i j => en p m (row B j) (vo (JB p m v C B) i).toNat) (R' := fun i => en p m (row (JH p m v C B) i) (fc t)) hul (fun i j => JQ hF _ _) (fun i => JQ hF _ _)]
      refine YR hF _ fun i hi => ?_
      show Ju p m (dv p v) _ _ = 0
      have h5 : fs p m (fun j => Ju p m (dv p v) (u j) (en p m (row B j) (vo (JB p m v C B) i).toNat)) B.length = 0 := by
        have h6 := hann i (by omega)
        unfold dt at h6
        rw [<- h6]
        refine Jcn _ fun j hj => ?_
        show Ju p m (dv p v) _ _ = Ju p m (dv p v) _ _
        congr 1
        unfold en
        rw [hAe i (by omega) j hj]
      rw [h5, R.M0 (JQ hF _ _)]
    rw [s1] at s2; exact absurd s2 (by decide)
  . omega
theorem Jxr (hF : FV P M mf p m v) (hs : shp C X) (he : Els p m X) : (JH p m v C (QX p m v C X)).length + (JB p m v C X).length = C.toNat := by
  have hasc := Qs (p := p) (m := m) (v := v) C X
  obtain ⟨fc, h1, h2⟩ := Z1 (p := p) (m := m) (n := C.toNat) (JH p m v C X) (JB p m v C X) C.toNat
  have hb := Jg0 (p := p) (m := m) (JH p m v C X) hasc
  have hnp : ∀ j, j < (QX p m v C X).length -> ∀ i, i < (JB p m v C X).length -> (vo (JB p m v C X) i).toNat ≠ fc j := fun j hj i hi => by
    have h5 := Jeg (h1 j hj).2.1 i hi
    have h6 := hasc.1 i hi
    omega
  have h5 := Jlw hF (B := QX p m v C X) (QR hs) (QS hF) fc (fun j hj => (h1 j hj).1) fun i j hi hj => by
    have e : row (QX p m v C X) i = YM p m C.toNat (JH p m v C X) (JB p m v C X) (fc i) (JB p m v C X).length := (h1 i hi).2.2
    rw [e]
    by_cases e2 : i = j
    . subst e2; rw [if_pos rfl]; exact Jhv (h1 i hi).1 _ (hnp i hi)
    . rw [if_neg e2]
      refine Jba ?_ _ (hnp j hj)
      rcases Nat.lt_or_ge i j with h | h
      . have := h2 i j h hj; omega
      . have := h2 j i (by omega) hi; omega
  rw [Qg (QR hs), h5]
  exact hb
theorem Jdo (hF : FV P M mf p m v) (hs : shp C X) (he : Els p m X) {t : Nat} (ht : t < X.length) : Ann p m (dt p m v C.toNat (en p m (row X t))) (JH p m v C (QX p m v C X)) := by
  have R := hF.ring
  have hasc := Qs (p := p) (m := m) (v := v) C X
  refine (Qh hF (QR hs) (QS hF) (ZO hF fun c => JQ hF _ c)).2 fun j hj => ?_
  obtain ⟨fc, h1, h2⟩ := Z1 (p := p) (m := m) (n := C.toNat) (JH p m v C X) (JB p m v C X) C.toNat
  have e : row (QX p m v C X) j = YM p m C.toNat (JH p m v C X) (JB p m v C X) (fc j) (JB p m v C X).length := (h1 j hj).2.2
  rw [e]
  have := Jiq hF hs he (h1 j hj).1 (fun i hi => by
    have h5 := Jeg (h1 j hj).2.1 i hi
    have h6 := hasc.1 i hi
    omega) t ht
  rw [<- this]
  refine Jcn _ fun c _ => ?_
  exact R.Mc (JQ hF _ _) (JQ hF _ _)
end
end Go.Proofs.YtngdhnijkgjhcaaGreat
set_option linter.unusedVariables false
set_option linter.unusedSimpArgs false
namespace Go.Proofs.YtngdhnijkgjhcaaGreat
section
variable {p m v : Nat} {P M : Int} {mf : List Int} {X Y : List (List Int)} {C : Int} {w : Nat}
end
end Go.Proofs.YtngdhnijkgjhcaaGreat
set_option linter.unusedVariables false
set_option linter.unusedSimpArgs false
namespace Go.Proofs.YtngdhnijkgjhcaaGreat
section
variable {p m v : Nat} {P M : Int} {mf : List Int} {X Y : List (List Int)} {C : Int} {w wy : Nat}
def e2 (p m w : Nat) (a b : List Int) : Nat -> Nat := fun c => if c < w then en p m a c else en p m b (c - w)
end
end Go.Proofs.YtngdhnijkgjhcaaGreat
set_option linter.unusedVariables false
set_option linter.unusedSimpArgs false
namespace Go.Proofs.YtngdhnijkgjhcaaGreat
section
variable {p m v : Nat} {P M : Int} {mf : List Int} {X Y : List (List Int)} {C : Int} {w wy : Nat}
def u1 (p m w : Nat) (u : Nat -> Nat) : Nat -> Nat := fun c => if c < w then u c else QB p m 1
end
end Go.Proofs.YtngdhnijkgjhcaaGreat
set_option linter.unusedVariables false
set_option linter.unusedSimpArgs false
namespace Go.Proofs.YtngdhnijkgjhcaaGreat
end Go.Proofs.YtngdhnijkgjhcaaGreat
set_option linter.unusedVariables false
set_option linter.unusedSimpArgs false
namespace Go.Proofs.YtngdhnijkgjhcaaGreat
section
variable {p m v : Nat} {P M : Int} {mf : List Int} {X Y : List (List Int)} {C D : Int} {w wy : Nat}
theorem Jlb (hF : FV P M mf p m v) {f : (Nat -> Nat) -> Nat} (L : Lin p m v w f) {a : Nat -> Nat} (ha : ∀ c, c < w -> a c = 0) : f a = 0 := by
  have hq : 0 < p ^ m := by have := hF.ring.q2; omega
  have h := L.ml (a := fun _ => 0) (x := 0) (fun _ => hq) hq
  have e : f (fun _ => Ju p m (dv p v) 0 0) = f a := L.cg fun c hc => by rw [ha c hc, hF.ring.M0 hq]
  rw [<- e, h, hF.ring.Mc hq (L.lt _), hF.ring.M0 (L.lt _)]
def mm (p m v w : Nat) (A B : List (List Int)) : List (List Int) := (List.range A.length).map fun t => cmb p m v (row A t) w B B.length
theorem mm_len (A B : List (List Int)) : (mm p m v w A B).length = A.length := by simp [mm]
theorem row_mm {A B : List (List Int)} {t : Nat} (h : t < A.length) : row (mm p m v w A B) t = cmb p m v (row A t) w B B.length := Jae h
theorem Jqv {A B : List (List Int)} (hl : A.length = B.length) (ha : Els p m A) (hb : Els p m B) (hw : ∀ t, t < A.length -> (row A t).length = w /\ (row B t).length = w) (h : ∀ t c, t < A.length -> c < w -> en p m (row A t) c = en p m (row B t) c) : A = B :=
  Q8 hl fun t ht => Yb (by rw [(hw t ht).1, (hw t ht).2]) fun c hc => by
    rw [(hw t ht).1] at hc
    have e := h t c ht hc
    have e1 := Jbf (Jau (JZ ha t) (t := c) (by rw [(hw t ht).1]; exact hc))
    have e2 := Jbf (Jau (JZ hb t) (t := c) (by rw [(hw t ht).2]; exact hc))
    unfold en at e
    rw [<- e1, <- e2, e]
def tr (n : Nat) (A : List (List Int)) : List (List Int) := (List.range n).map fun c => (List.range A.length).map fun t => vo (row A t) c
theorem Jvt (n : Nat) (A : List (List Int)) : (tr n A).length = n := by simp [tr]
theorem Jwa {n c : Nat} {A : List (List Int)} (h : c < n) : row (tr n A) c = (List.range A.length).map fun t => vo (row A t) c := Jae h
theorem Jmv {n c : Nat} {A : List (List Int)} (h : c < n) : (row (tr n A) c).length = A.length := by rw [Jwa h]; simp
theorem tr_at {n c t : Nat} {A : List (List Int)} (h : c < n) (ht : t < A.length) : vo (row (tr n A) c) t = vo (row A t) c := by rw [Jwa h]; exact Ja9 ht
theorem tr_shp (hs : shp C X) : shp (X.length : Int) (tr C.toNat X) := by
 obtain ⟨h1, h2, h3⟩ := Yw hs; refine ⟨by omega, by omega, by rw [Jvt]; exact h2, fun r hr => ?_⟩; obtain ⟨c, _, rfl⟩ := List.mem_map.1 hr; simp
theorem tr_els (hs : shp C X) (he : Els p m X) : Els p m (tr C.toNat X) := fun r hr => by
 obtain ⟨c, hc, rfl⟩ := List.mem_map.1 hr; have hc := List.mem_range.1 hc; intro x hx; obtain ⟨t, ht, rfl⟩ := List.mem_map.1 hx; have ht := List.mem_range.1 ht; exact Jau (JZ he t) (by rw [JU hs ht]; exact hc)
theorem Jwg (hF : FV P M mf p m v) {u : Nat -> Nat} (hu : ∀ c, u c < p ^ m) {q : Nat -> Nat} {r : Nat} (hq : ∀ k, k < r -> q k < w) : Lin p m v w (fun a => dt p m v r u (fun k => a (q k))) where
  lt a := (ZO (w := r) hF hu).lt _
  cg h := (ZO (w := r) hF hu).cg fun k hk => h _ (hq k hk)
  ad ha hb hx := (ZO (w := r) hF hu).ad (fun k => ha _) (fun k => hb _) hx
  ml ha hx := (ZO (w := r) hF hu).ml (fun k => ha _) hx
theorem Jiw (hF : FV P M mf p m v) {A B : List (List Int)} (hA : shp C A) (hB : shp C B) (eA : Els p m A) (eB : Els p m B) (h : ∀ f, Lin p m v C.toNat f -> Ann p m f B -> Ann p m f A) : (JB p m v C A).length <= (JB p m v C B).length := by
 rcases Nat.lt_or_ge (JB p m v C B).length (JB p m v C A).length with hlt | hge
 .exfalso; have R := hF.ring; have q1 : 1 < p ^ m := R.q2; have hq : 0 < p ^ m := by omega
  have pA := Qs (p := p) (m := m) (v := v) C A; have lA := Qg (p := p) (m := m) (v := v) hA; have lB := Qg (p := p) (m := m) (v := v) hB; have nA := Ye (p := p) (m := m) (v := v) hA; have lA2 := QN hA; have eRB : Els p m (JH p m v C B) := QC hF eB; have sRB := Q2 (p := p) (m := m) (v := v) hB; generalize hrA : (JB p m v C A).length = r at *
  let q : Nat -> Nat := fun k => (vo (JB p m v C A) k).toNat
  have hqw : ∀ k, k < r -> q k < C.toNat := fun k hk => by have := pA.1 k (by omega); show (vo (JB p m v C A) k).toNat < _; omega
  -- the canonical rows of B at the pivots of A
  let N : List (List Int) := (List.range (JH p m v C B).length).map fun i => (List.range r).map fun k => vo (row (JH p m v C B) i) (q k)
  have hNl : N.length = (JH p m v C B).length := by simp [N]
  have hNrow : ∀ i, i < (JH p m v C B).length -> row N i = (List.range r).map fun k => vo (row (JH p m v C B) i) (q k) := fun i hi => Jae hi; have hNs : shp (r : Int) N := by
   refine ⟨by omega, by omega, by rw [hNl]; have := QN sRB; omega, fun z hz => ?_⟩; obtain ⟨i, _, rfl⟩ := List.mem_map.1 hz; simp
  have hNe : Els p m N := fun z hz => by
   obtain ⟨i, hi, rfl⟩ := List.mem_map.1 hz; have hi := List.mem_range.1 hi; intro y hy; obtain ⟨k, hk, rfl⟩ := List.mem_map.1 hy; have hk := List.mem_range.1 hk; exact Jau (JZ eRB i) (by rw [JU sRB hi]; exact hqw k hk)
  have hNp := Ye (p := p) (m := m) (v := v) hNs; have hNa := Qs (p := p) (m := m) (v := v) (r : Int) N; have hbf := Jg0 (p := p) (m := m) (JH p m v (r : Int) N) hNa; obtain ⟨fc, hfc, _⟩ := Z1 (p := p) (m := m) (n := ((r : Int)).toNat) (JH p m v (r : Int) N) (JB p m v (r : Int) N) ((r : Int)).toNat; have h0 := hfc 0 (by omega); generalize fc 0 = t at h0; obtain ⟨ht, hnp, _⟩ := h0; rw [Int.toNat_natCast] at ht; have hfree : ∀ i, i < (JB p m v (r : Int) N).length -> (vo (JB p m v (r : Int) N) i).toNat ≠ t := fun i hi e => by
   have h1 := Jeg hnp i hi; have h2 := hNa.1 i hi; omega
  have hu := Jiq hF hNs hNe (t := t) (by omega) hfree; have hut := Jhv (p := p) (m := m) (n := ((r : Int)).toNat) (R := JH p m v (r : Int) N) (pv := JB p m v (r : Int) N) (t := t) (by omega) (JB p m v (r : Int) N).length hfree; rw [Int.toNat_natCast] at hu hut; generalize YM p m r (JH p m v (r : Int) N) (JB p m v (r : Int) N) t (JB p m v (r : Int) N).length = s at *
  have hL := Jwg (w := C.toNat) hF (u := en p m s) (fun c => JQ hF _ c) (q := q) (r := r) hqw; have hB0 : Ann p m (fun a => dt p m v r (en p m s) (fun k => a (q k))) (JH p m v C B) := fun i hi => by
   have h1 := hu i (by omega); rw [<- h1]; refine Jcn _ fun k hk => ?_; show Ju p m (dv p v) (en p m s k) (inE (p ^ m) (vo (row (JH p m v C B) i) (q k))) = Ju p m (dv p v) (en p m s k) (inE (p ^ m) (vo (row N i) k)); rw [hNrow i hi, Ja9 hk]
  have hA0 := (Qh hF hA eA hL).2 (h _ hL ((Qh hF hB eB hL).1 hB0)); have h1 := hA0 t (by omega); have h2 : dt p m v r (en p m s) (fun k => en p m (row (JH p m v C A) t) (q k)) = Ju p m (dv p v) (en p m s t) (en p m (row (JH p m v C A) t) (q t)) := Zq hF (f := fun k => Ju p m (dv p v) (en p m s k) (en p m (row (JH p m v C A) t) (q k))) (R.Ml _ _) r ht fun k hk hne => by
   have h3 := Q1 hF hA eA (i := k) (t := t) (by omega) (by omega); rw [if_neg (fun e => hne e.symm)] at h3; show Ju p m (dv p v) (en p m s k) (en p m (row (JH p m v C A) t) (q k)) = 0; rw [show en p m (row (JH p m v C A) t) (q k) = 0 from YD hF (z := 0) hq h3, R.M0 (JQ hF _ _)]
  have h3 := Q1 hF hA eA (i := t) (t := t) (by omega) (by omega); rw [if_pos rfl] at h3; have h4 : en p m (row (JH p m v C A) t) (q t) = 1 := YD hF (z := 1) q1 h3; have h5 : en p m s t = 1 := YD hF (z := 1) q1 hut; rw [h4, h5, R.M1 q1] at h2; have h6 : dt p m v r (en p m s) (fun k => en p m (row (JH p m v C A) t) (q k)) = 0 := h1; omega
 .exact hge
end
end Go.Proofs.YtngdhnijkgjhcaaGreat
set_option linter.unusedVariables false
set_option linter.unusedSimpArgs false
namespace Go.Proofs.YtngdhnijkgjhcaaGreat
section
variable {P M : Int} {mf : List Int} {X : List (List Int)} {C : Int}
theorem w_mMul {Ca Cb : Int} {A B : List (List Int)} {Q : Int × List (List Int) × Int -> Prop} (hb : ∀ e, e ≠ 0 -> (mck P M mf Ca A ≠ 0 ∨ mck P M mf Cb B ≠ 0 ∨ Ca ≠ (B.length : Int)) -> Q (0, [], e))
    (h : ∀ p m v, FV P M mf p m v -> shp Ca A -> Els p m A -> shp Cb B -> Els p m B -> Ca = (B.length : Int) -> Q (Cb, mm p m v Cb.toNat A B, 0)) : Jju P M mf Ca A Cb B Q := by
  refine Jvc (ms := [(Ca, A), (Cb, B)]) (by simp) (fun hn _ => hb 1 (by decide) (.inl (by rw [Jgi hn]; decide))) (fun F p m v g K hF h0 => ?_) (fun hV hne _ => hb _ hne ?_)
  . rw [Jku] at h0
    have hA : mck P M mf Ca A = 0 := by
      by_cases e : mck P M mf Ca A = 0
      . exact e
      . rw [if_neg e] at h0; exact h0
    rw [if_pos hA] at h0
    obtain ⟨_, sA, eA⟩ := Jdf hA
    obtain ⟨_, sB, eB⟩ := Jdf h0
    have eA := (QK hF).1 eA
    have eB := (QK hF).1 eB
    obtain ⟨a1, a2, a3⟩ := Yw sA
    refine ⟨fun hne => hb 10 (by decide) (.inr (.inr hne)), fun he => ?_⟩
    have hC : Ca = (B.length : Int) := Classical.not_not.1 he
    refine ⟨⟨by omega, by omega, by omega⟩, fun x z => ∃ t : Nat, z = t /\ t <= A.length /\ x.length = A.length /\ ∀ s, s < t -> row x s = row (mm p m v Cb.toNat A B) s, fun _ z => (A.length - z).toNat, ⟨0, rfl, Nat.zero_le _, by simp, fun s hs => absurd hs (Nat.not_lt_zero _)⟩, ?_⟩
    rintro x _ ⟨t, rfl, ht, hx, hv⟩
    dsimp only
    refine ⟨fun hlt => ⟨⟨by omega, by omega⟩, _, Jr0 K sB (by show (row A t).length = _; rw [JU sA (by omega)]; omega) rfl, ⟨by omega, by omega⟩, JE (by omega) (by omega), ⟨t + 1, by push_cast; rfl, by omega, by rw [Zv]; exact hx, fun s hs => ?_⟩, by omega⟩, fun hge => ?_⟩
    . show row (x.set t _) s = _
      rw [Qn]
      by_cases e : t = s
      . subst e; rw [if_pos ⟨rfl, by omega⟩, row_mm (by omega)]; rfl
      . rw [if_neg (fun q => e q.1)]; exact hv s (by omega)
    . rw [show x = mm p m v Cb.toNat A B from Q8 (by rw [mm_len]; exact hx) fun i hi => hv i (by omega)]
      exact h p m v hF sA eA sB eB hC
  . rw [Jku] at hne
    by_cases e : mck P M mf Ca A = 0
    . rw [if_pos e] at hne; exact .inr (.inl hne)
    . exact .inl e
theorem Jj8 {Q : Int × List (List Int) × Int -> Prop} (hb : mck P M mf C X ≠ 0 -> Q (0, [], mck P M mf C X))
  (h : ∀ p m v, FV P M mf p m v -> shp C X -> Els p m X -> mck P M mf C X = 0 -> Q ((X.length : Int), tr C.toNat X, 0)) : ZK P M mf C X Q := by
 refine Jc6 (fun h0 _ => hb h0) fun F p m v g K hF hs he h0 => ?_; have hfin := h p m v hF hs he h0; obtain ⟨a1, a2, a3⟩ := Yw hs; generalize hn : C.toNat = n at *
 refine ⟨⟨by omega, by omega, by omega⟩, fun x z => ∃ c : Nat, z = c /\ c <= n /\ x.length = n /\ ∀ d, d < c -> row x d = row (tr n X) d, fun _ z => (n - z).toNat, ⟨0, rfl, Nat.zero_le _, by simp, fun d hd => absurd hd (Nat.not_lt_zero _)⟩, ?_⟩; rintro x _ ⟨c, rfl, hc, hx, hv⟩; dsimp only; refine ⟨fun hlt => ?_, fun hge => ?_⟩
 .have hcn : c < n := by omega
  refine ⟨⟨by omega, by omega, by omega⟩, ⟨by omega, by omega⟩, fun y z => ∃ t : Nat, z = t /\ t <= X.length /\ y.length = n /\ (∀ d, d < c -> row y d = row (tr n X) d) /\ (row y c).length = X.length /\ ∀ s, s < t -> vo (row y c) s = vo (row X s) c, fun _ z => (X.length - z).toNat, ⟨0, rfl, Nat.zero_le _, by rw [Zv]; exact hx, fun d hd => ?_, ?_, fun s hs => absurd hs (Nat.not_lt_zero _)⟩, ?_⟩
  .show row (x.set c _) d = _; rw [Qn, if_neg (fun q => by omega)]; exact hv d hd
  .show (row (x.set c _) c).length = _; rw [Qn, if_pos ⟨rfl, by omega⟩]; simp
  rintro y _ ⟨t, rfl, ht, hy, h1, h2, h3⟩; dsimp only; refine ⟨fun hlt2 => ?_, fun hge2 => ⟨JE (by omega) (by omega), ⟨c + 1, by push_cast; rfl, by omega, hy, fun d hd => ?_⟩, by omega⟩⟩
  .have htx : t < X.length := by omega
   have hrl : (row X t).length = n := by rw [JU hs htx]; exact hn
   refine ⟨⟨by omega, by omega⟩, ⟨by omega, by omega⟩, ⟨by omega, by show (c : Int) < ((row X t).length : Int); omega⟩, ⟨by omega, by show (t : Int) < ((row y c).length : Int); omega⟩, JE (by omega) (by omega), ⟨t + 1, by push_cast; rfl, by omega, by rw [Zv]; exact hy, fun d hd => ?_, ?_, fun s hs' => ?_⟩, by omega⟩
   .show row (y.set c _) d = _; rw [Qn, if_neg (fun q => by omega)]; exact h1 d hd
   .show (row (y.set c ((row y c).set t (vo (row X t) c))) c).length = _; rw [Qn, if_pos ⟨rfl, by omega⟩, List.length_set]; exact h2
   .show vo (row (y.set c ((row y c).set t (vo (row X t) c))) c) s = _; rw [Qn, if_pos ⟨rfl, by omega⟩, Qw]; by_cases e : t = s
    .subst e; rw [if_pos ⟨rfl, by omega⟩]
    .rw [if_neg (fun q => e q.1)]; exact h3 s (by omega)
  .by_cases e : d = c
   .subst e; exact Yb (by rw [h2, Jmv hcn]) fun s hs' => by rw [h3 s (by omega), tr_at hcn (by omega)]
   .exact h1 d (by omega)
 .rw [show x = tr n X from Q8 (by rw [Jvt]; exact hx) fun i hi => hv i (by omega)]; exact hfin
end
end Go.Proofs.YtngdhnijkgjhcaaGreat
set_option linter.unusedVariables false
set_option linter.unusedSimpArgs false
namespace Go.Proofs.YtngdhnijkgjhcaaGreat
section
variable {p m v : Nat} {P M : Int} {mf : List Int} {X Y : List (List Int)} {C D : Int} {w wy : Nat}
theorem Jxv {n k : Nat} {a b : List Int} (ha : Asc n a) (hb : Asc n b) (h1 : ∀ i, i < a.length -> ∃ j, j < b.length /\ vo b j = vo a i) (h2 : ∀ j, j < b.length -> ∃ i, i < a.length /\ vo a i = vo b j) : ∀ k, k < a.length -> k < b.length /\ vo a k = vo b k := by
  intro k
  induction k using Nat.strongRecOn with
  | ind k ih =>
    intro hk
    obtain ⟨j, hj, e⟩ := h1 k hk
    have hjk : k <= j := by
      rcases Nat.lt_or_ge j k with h | h
      . have h3 := (ih j h (by omega)).2
        have h4 := ha.2 j k h hk
        omega
      . exact h
    have hkb : k < b.length := by omega
    refine ⟨hkb, ?_⟩
    obtain ⟨i, hi, e2⟩ := h2 k hkb
    rcases Nat.lt_trichotomy i k with h | h | h
    . have h3 := (ih i h hi).2
      have h4 := hb.2 i k h hkb
      omega
    . rw [<- e2, h]
    . have h3 := ha.2 k i h hi
      rcases Nat.lt_or_ge k j with h5 | h5
      . have := hb.2 k j h5 hj; omega
      . rw [show k = j by omega] at e2 ⊢; omega
theorem Jxu {n : Nat} {a b : List Int} (ha : Asc n a) (hb : Asc n b) (h1 : ∀ i, i < a.length -> ∃ j, j < b.length /\ vo b j = vo a i) (h2 : ∀ j, j < b.length -> ∃ i, i < a.length /\ vo a i = vo b j) : a = b := by
 have k1 := Jxv (k := 0) ha hb h1 h2; have k2 := Jxv (k := 0) hb ha h2 h1; refine Yb ?_ fun i hi => (k1 i hi).2; rcases Nat.lt_trichotomy a.length b.length with h | h | h
 .have := (k2 a.length h).1; omega
 .exact h
 .have := (k1 b.length h).1; omega
theorem Je9 (hF : FV P M mf p m v) (hs : shp C X) (he : Els p m X) {a : Nat -> Nat} (ha : ∀ c, a c < p ^ m) (hA : ∀ f, Lin p m v C.toNat f -> Ann p m f (JH p m v C X) -> f a = 0) {c : Nat} (hc : c < C.toNat) :
    a c = fs p m (fun i => Ju p m (dv p v) (a (vo (JB p m v C X) i).toNat) (en p m (row (JH p m v C X) i) c)) (JB p m v C X).length := by
  have R := hF.ring
  have q1 : 1 < p ^ m := R.q2
  have hp : 0 < p := by have := hF.p2; omega
  have hasc := Qs (p := p) (m := m) (v := v) C X
  have hcl := Qg (p := p) (m := m) (v := v) hs
  have hneg : ∀ y, y < p ^ m -> QB p m y < p ^ m := fun y _ => QY hp y
  have L := Jq6 (w := C.toNat) hF (c := c) (r := (JB p m v C X).length) (pv := fun i => (vo (JB p m v C X) i).toNat) (nR := fun i => QB p m (en p m (row (JH p m v C X) i) c)) hc (fun i hi => by have := hasc.1 i hi; show (vo (JB p m v C X) i).toNat < _; omega) (fun i => hneg _ (JQ hF _ _))
  have hann := hA _ L (fun s hsl => by
    show cof _ _ _ _ _ _ _ (en p m (row (JH p m v C X) s)) = 0
    unfold cof
    have hsr : s < (JB p m v C X).length := by omega
    have hd : ∀ i, i < (JB p m v C X).length -> en p m (row (JH p m v C X) s) (vo (JB p m v C X) i).toNat = if s = i then 1 else 0 := fun i hi => by
      have := Q1 hF hs he hi hsr
      by_cases e : s = i
      . rw [if_pos e] at this ⊢; exact YD hF q1 this
      . rw [if_neg e] at this ⊢; exact YD hF (by omega) this
    have h9 := Zq hF (f := fun i => Ju p m (dv p v) (QB p m (en p m (row (JH p m v C X) i) c)) (en p m (row (JH p m v C X) s) (vo (JB p m v C X) i).toNat)) (j := s) (R.Ml _ _) _ hsr fun i hi hne => by
      show Ju p m (dv p v) _ _ = 0
      rw [hd i hi, if_neg (fun e => hne e.symm), R.M0 (hneg _ (JQ hF _ _))]
    show JS p m _ (fs p m (fun i => Ju p m (dv p v) (QB p m (en p m (row (JH p m v C X) i) c)) (en p m (row (JH p m v C X) s) (vo (JB p m v C X) i).toNat)) (JB p m v C X).length) = 0
    rw [h9]
    show JS p m _ (Ju p m (dv p v) _ _) = 0
    rw [hd s hsr, if_pos rfl, R.M1 (hneg _ (JQ hF _ _))]
    exact QQ hp (JQ hF _ _))
  unfold cof at hann
  have hG := Zr hF (fun i => Ju p m (dv p v) (a (vo (JB p m v C X) i).toNat) (en p m (row (JH p m v C X) i) c)) (JB p m v C X).length
  have hN := Zr hF (fun i => Ju p m (dv p v) (QB p m (en p m (row (JH p m v C X) i) c)) (a (vo (JB p m v C X) i).toNat)) (JB p m v C X).length
  have hGN : JS p m (fs p m (fun i => Ju p m (dv p v) (a (vo (JB p m v C X) i).toNat) (en p m (row (JH p m v C X) i) c)) (JB p m v C X).length) (fs p m (fun i => Ju p m (dv p v) (QB p m (en p m (row (JH p m v C X) i) c)) (a (vo (JB p m v C X) i).toNat)) (JB p m v C X).length) = 0 := by
    have h1 := Jeh hF (f := fun i => Ju p m (dv p v) (a (vo (JB p m v C X) i).toNat) (en p m (row (JH p m v C X) i) c)) (h := fun i => Ju p m (dv p v) (QB p m (en p m (row (JH p m v C X) i) c)) (a (vo (JB p m v C X) i).toNat)) (x := 1) (fun i => R.Ml _ _) (fun i => R.Ml _ _) q1 (JB p m v C X).length
    rw [R.Mc q1 hN, R.M1 hN] at h1
    rw [<- h1]
    refine YR hF _ fun i hi => ?_
    show JS p m (Ju p m (dv p v) _ _) (Ju p m (dv p v) 1 (Ju p m (dv p v) _ _)) = 0
    have ha' := ha (vo (JB p m v C X) i).toNat
    have hb := JQ hF (row (JH p m v C X) i) c
    rw [R.Mc q1 (R.Ml _ _), R.M1 (R.Ml _ _), R.Mc (hneg _ hb) ha', <- R.Md ha' hb (hneg _ hb), QQ hp hb, R.M0 ha']
  have hx := ha c
  generalize fs p m (fun i => Ju p m (dv p v) (a (vo (JB p m v C X) i).toNat) (en p m (row (JH p m v C X) i) c)) (JB p m v C X).length = G1 at *
  generalize fs p m (fun i => Ju p m (dv p v) (QB p m (en p m (row (JH p m v C X) i) c)) (a (vo (JB p m v C X) i).toNat)) (JB p m v C X).length = N1 at *
  generalize a c = b at *
  calc b = JS p m b (JS p m G1 N1) := by rw [hGN, R.Az hx]
    _ = JS p m G1 (JS p m b N1) := by rw [<- R.Aa hx hG hN, R.Ac b G1, R.Aa hG hx hN]
    _ = G1 := by rw [hann, R.Az hG]
theorem Jm6 (hF : FV P M mf p m v) (hX : shp C X) (eX : Els p m X) (hY : shp C Y) (eY : Els p m Y) (h : ∀ f, Lin p m v C.toNat f -> Ann p m f Y -> Ann p m f X) : ∀ t, t < (JB p m v C X).length -> ∃ j, j < (JB p m v C Y).length /\ vo (JB p m v C Y) j = vo (JB p m v C X) t := by
  intro t ht
  have R := hF.ring
  have q1 : 1 < p ^ m := R.q2
  have hq : 0 < p ^ m := by omega
  have pX := Qs (p := p) (m := m) (v := v) C X
  have pY := Qs (p := p) (m := m) (v := v) C Y
  have lX := Qg (p := p) (m := m) (v := v) hX
  have hk := fun f (L : Lin p m v C.toNat f) (h1 : Ann p m f (JH p m v C Y)) => (Qh hF hX eX L).2 (h f L ((Qh hF hY eY L).1 h1)) t (by omega)
  have ht' := pX.1 t ht
  have hc := Je9 hF hY eY (a := en p m (row (JH p m v C X) t)) (fun c => JQ hF _ c) hk (c := (vo (JB p m v C X) t).toNat) (by omega)
  have hu := Q1 hF hX eX (i := t) (t := t) ht ht
  rw [if_pos rfl] at hu
  rw [YD hF (z := 1) q1 hu] at hc
  refine Classical.byContradiction fun hno => ?_
  rw [YR hF _ fun i hi => ?_] at hc
  . omega
  show Ju p m (dv p v) (en p m (row (JH p m v C X) t) (vo (JB p m v C Y) i).toNat) (en p m (row (JH p m v C Y) i) (vo (JB p m v C X) t).toNat) = 0
  have hi' := pY.1 i hi
  rcases Int.lt_trichotomy (vo (JB p m v C Y) i) (vo (JB p m v C X) t) with h1 | h1 | h1
  . rw [YD hF (z := 0) hq (Jgx hF hX eX ht (c := (vo (JB p m v C Y) i).toNat) (by omega)), R.Mc hq (JQ hF _ _), R.M0 (JQ hF _ _)]
  . exact absurd ⟨i, hi, h1⟩ hno
  . rw [YD hF (z := 0) hq (Jgx hF hY eY hi (c := (vo (JB p m v C X) t).toNat) (by omega)), R.M0 (JQ hF _ _)]
theorem Jgv (hF : FV P M mf p m v) (hX : shp C X) (eX : Els p m X) (hY : shp C Y) (eY : Els p m Y) (h : ∀ f, Lin p m v C.toNat f -> (Ann p m f X ↔ Ann p m f Y)) : JB p m v C X = JB p m v C Y /\ JH p m v C X = JH p m v C Y := by
 have R := hF.ring; have q1 : 1 < p ^ m := R.q2; have hq : 0 < p ^ m := by omega
 have pX := Qs (p := p) (m := m) (v := v) C X; have pY := Qs (p := p) (m := m) (v := v) C Y; have lX := Qg (p := p) (m := m) (v := v) hX; have lY := Qg (p := p) (m := m) (v := v) hY; have sX := Q2 (p := p) (m := m) (v := v) hX; have sY := Q2 (p := p) (m := m) (v := v) hY; have e : JB p m v C X = JB p m v C Y := Jxu pX pY (Jm6 hF hX eX hY eY fun f L => (h f L).2) (Jm6 hF hY eY hX eX fun f L => (h f L).1); refine ⟨e, Jqv (w := C.toNat) (by rw [lX, lY, e]) (QC hF eX) (QC hF eY) (fun t ht => ⟨JU sX ht, JU sY (by rw [lY, <- e, <- lX]; exact ht)⟩) fun t c ht hc => ?_⟩; have ht' : t < (JB p m v C Y).length := by rw [<- e, <- lX]; exact ht
 have hk := fun f (L : Lin p m v C.toNat f) (h1 : Ann p m f (JH p m v C Y)) => (Qh hF hX eX L).2 ((h f L).2 ((Qh hF hY eY L).1 h1)) t ht; have hc' := Je9 hF hY eY (a := en p m (row (JH p m v C X) t)) (fun c => JQ hF _ c) hk (c := c) hc; rw [hc']; have hd : ∀ i, i < (JB p m v C Y).length -> en p m (row (JH p m v C X) t) (vo (JB p m v C Y) i).toNat = if t = i then 1 else 0 := fun i hi => by
  have := Q1 hF hX eX (i := i) (t := t) (by rw [e]; exact hi) (by rw [e]; exact ht'); rw [e] at this; by_cases e' : t = i
  .rw [if_pos e'] at this ⊢; exact YD hF q1 this
  .rw [if_neg e'] at this ⊢; exact YD hF hq this
 rw [Zq hF (f := fun i => Ju p m (dv p v) (en p m (row (JH p m v C X) t) (vo (JB p m v C Y) i).toNat) (en p m (row (JH p m v C Y) i) c)) (j := t) (R.Ml _ _) _ ht' fun i hi hne => by
  show Ju p m (dv p v) _ _ = 0; rw [hd i hi, if_neg (fun q => hne q.symm), R.Mc hq (JQ hF _ _), R.M0 (JQ hF _ _)]]
 show Ju p m (dv p v) _ _ = _; rw [hd t ht', if_pos rfl, R.Mc q1 (JQ hF _ _), R.M1 (JQ hF _ _)]
end
end Go.Proofs.YtngdhnijkgjhcaaGreat
set_option linter.unusedVariables false
set_option linter.unusedSimpArgs false
namespace Go.Proofs.YtngdhnijkgjhcaaGreat
section
variable {p m v : Nat} {P M : Int} {mf : List Int} {X Y : List (List Int)} {C D : Int} {w wy : Nat}
end
end Go.Proofs.YtngdhnijkgjhcaaGreat
set_option linter.unusedVariables false
set_option linter.unusedSimpArgs false
namespace Go.Proofs.YtngdhnijkgjhcaaGreat
variable {P M : Int} {mf : List Int} {p m v : Nat} {C : Int} {X Y : List (List Int)}
structure Cnl (C : Nat) (X : List (List Int)) (q : Nat -> Nat) : Prop where
  lt : ∀ i, i < X.length -> q i < C
  one : ∀ i, i < X.length -> ∀ t, t < X.length -> vo (row X t) (q i) = if t = i then 1 else 0
  lf : ∀ i, i < X.length -> ∀ c, c < q i -> vo (row X i) c = 0
  asc : ∀ i j, i < j -> j < X.length -> q i < q j
def IsCn (C : Int) (X : List (List Int)) : Prop := ∃ q, Cnl C.toNat X q
theorem Jlz (a o : List Int) : adx p m v a 0 o = a := by unfold adx; rw [if_pos rfl]
theorem ng_0 (hF : FV P M mf p m v) : Ng p m 0 = 0 := (Jqs hF ⟨by omega, by
 have := hF.ring.q2; have h : (0 : Int) < ((p ^ m : Nat) : Int) := by exact_mod_cast (by omega : 0 < p ^ m)
 exact h⟩).2 rfl
theorem Jz8 (hF : FV P M mf p m v) {S : ES} {k : Nat} (he : Els p m S.X) (hj : S.pv.length < S.X.length) (h1 : ∀ t, t < S.X.length -> vo (row S.X t) k = if t = S.pv.length then 1 else 0) : (es1 p m v k S.pv.length S.pv.length S).X = S.X := by
 rw [Jdi]; have e1 : swq S.X S.pv.length S.pv.length = S.X := by unfold swq; rw [if_pos rfl]
 rw [e1]; have e2 : scq p m v S.X S.pv.length (vo (row S.X S.pv.length) k) = S.X := by
  unfold scq; rw [h1 _ hj, if_pos rfl, iv_one hF, sc_one hF (JZ he _)]; refine Q8 (by simp) fun i hi => ?_; rw [Qn]; split
  .rename_i h; rw [h.1]
  .rfl
 rw [e2]; refine Q8 (by rw [Zg]) fun i hi => ?_; rw [Zg] at hi; rw [Zz hi]; split
 .rfl
 .rename_i hne
  rw [h1 i hi, if_neg hne, ng_0 hF, Jlz]
theorem Jlf (hF : FV P M mf p m v) {q : Nat -> Nat} {w wy : Nat} {Y : List (List Int)} {d : Int} (hq : Cnl w X q) (he : Els p m X) : ∀ k, k <= w -> (elim p m v k ⟨X, Y, [], d⟩).X = X /\ ∃ j, j <= X.length /\ (∀ i, i < j -> q i < k) /\ (∀ i, j <= i -> i < X.length -> k <= q i) /\ (elim p m v k ⟨X, Y, [], d⟩).pv = (List.range j).map fun i => ((q i : Nat) : Int)
 | 0, _ => ⟨rfl, 0, Nat.zero_le _, fun i h => absurd h (Nat.not_lt_zero i), fun i _ _ => Nat.zero_le _, rfl⟩
 | k + 1, hk => by
  obtain ⟨h1, j, hj, h2, h3, h4⟩ := Jlf hF (Y := Y) (d := d) (wy := wy) hq he k (by omega); rw [Q9]; generalize elim p m v k ⟨X, Y, [], d⟩ = S at h1 h4 ⊢; have hl : S.pv.length = j := by rw [h4]; simp
  unfold YL; rw [hl, h1]; by_cases hjn : j < X.length
  .by_cases hqk : q j = k
   .have hn : nz X k j = j := (Jww (Nat.le_refl _) hj (fun t a b => by omega) (fun hh => by
     have := hq.one j hh j hh; rw [hqk, if_pos rfl] at this; rw [this]; decide)).symm
    rw [hn, if_pos ⟨hjn, hjn⟩]; have e := Jz8 (k := k) hF (S := S) (by rw [h1]; exact he) (by rw [hl, h1]; exact hjn) (fun t ht => by
     rw [h1] at ht ⊢; rw [hl, <- hqk]; exact hq.one j hjn t ht)
    rw [hl] at e; refine ⟨e.trans h1, j + 1, hjn, fun i hi => ?_, fun i a b => ?_, ?_⟩
    .rcases Nat.lt_or_ge i j with h | h
     .have := h2 i h; omega
     .have : i = j := by omega
      subst this; omega
    .have := hq.asc j i (by omega) b; omega
    .show S.pv ++ [(k : Int)] = _; rw [h4, List.range_succ, List.map_append, List.map_cons, List.map_nil, hqk]
   .have hlt : k < q j := by have := h3 j (Nat.le_refl _) hjn; omega
    have hz : ∀ t, j <= t -> t < X.length -> vo (row X t) k = 0 := fun t a b => hq.lf t b k (by
     rcases Nat.lt_or_ge j t with h | h
     .have := hq.asc j t h b; omega
     .have : t = j := by omega
      subst this; exact hlt)
    have hn : ¬ nz X k j < X.length := fun hh => (Jbs X k j hj).2.2 hh (hz _ (Jwv X k j) hh); rw [if_neg (fun hh => hn hh.2)]; refine ⟨h1, j, hj, fun i hi => by have := h2 i hi; omega, fun i a b => ?_, h4⟩; rcases Nat.lt_or_ge j i with h | h
    .have := hq.asc j i h b; omega
    .have : i = j := by omega
     subst this; omega
  .rw [if_neg (fun hh => hjn hh.1)]; exact ⟨h1, j, hj, fun i hi => by have := h2 i hi; omega, fun i a b => by omega, h4⟩
theorem ZH (hF : FV P M mf p m v) (hs : shp C X) (he : Els p m X) {q : Nat -> Nat} (hq : Cnl C.toNat X q) : JH p m v C X = X /\ JB p m v C X = (List.range X.length).map fun i => ((q i : Nat) : Int) := by
 obtain ⟨h1, j, hj, h2, h3, h4⟩ := Jlf (wy := 0) (Y := List.replicate X.length []) (d := 1) hF hq he C.toNat (Nat.le_refl _); have e : j = X.length := by
  rcases Nat.lt_or_ge j X.length with h | h
  .have := h3 j (Nat.le_refl _) h; have := hq.lt j h; omega
  .omega
 subst e; have hP : JB p m v C X = (List.range X.length).map fun i => ((q i : Nat) : Int) := h4; refine ⟨?_, hP⟩; show (elim p m v C.toNat ⟨X, List.replicate X.length [], [], 1⟩).X.take (elim p m v C.toNat ⟨X, List.replicate X.length [], [], 1⟩).pv.length = X; rw [h1, h4, List.length_map, List.length_range, List.take_length]
theorem ZZ (hs : shp C X) {i : Nat} (hi : i < (JB p m v C X).length) : (((vo (JB p m v C X) i).toNat : Nat) : Int) = vo (JB p m v C X) i /\ (vo (JB p m v C X) i).toNat < C.toNat := by
 have h := (Qs (p := p) (m := m) (v := v) C X).1 i hi; omega
theorem Jgy (hF : FV P M mf p m v) (hs : shp C X) (he : Els p m X) : Cnl C.toNat (JH p m v C X) fun i => (vo (JB p m v C X) i).toNat := by
 have hl := Qg (p := p) (m := m) (v := v) hs; refine ⟨fun i hi => (ZZ hs (by omega)).2, fun i hi t ht => Q1 hF hs he (by omega) (by omega), fun i hi c hc => ?_, fun i j hij hj => ?_⟩
 .exact Jgx hF hs he (by omega) (by have := (ZZ (p := p) (m := m) (v := v) hs (i := i) (by omega)).1; omega)
 .have h := (Qs (p := p) (m := m) (v := v) C X).2 i j hij (by omega); have h1 := (ZZ (p := p) (m := m) (v := v) hs (i := i) (by omega)).1; have h2 := (ZZ (p := p) (m := m) (v := v) hs (i := j) (by omega)).1; omega
theorem Jjm (hF : FV P M mf p m v) (hs : shp C X) (he : Els p m X) : JH p m v C (JH p m v C X) = JH p m v C X /\ JB p m v C (JH p m v C X) = JB p m v C X := by
 have h := ZH hF (Q2 hs) (QC hF he) (Jgy hF hs he); refine ⟨h.1, h.2.trans ?_⟩; have hl := Qg (p := p) (m := m) (v := v) hs; refine List.ext_getElem (by simp [hl]) fun i h1 h2 => ?_; simp only [List.getElem_map, List.getElem_range]; rw [(ZZ hs h2).1]; unfold vo; rw [List.getD_eq_getElem?_getD, List.getElem?_eq_getElem h2]; rfl
theorem Cnl.len {w : Nat} {q : Nat -> Nat} (h : Cnl w X q) : X.length <= w := by
  have : ∀ k, k <= X.length -> k = 0 ∨ k <= q (k - 1) + 1 := by
    intro k
    induction k with
    | zero => intro _; exact .inl rfl
    | succ k ih =>
      intro hk
      refine .inr ?_
      rcases ih (by omega) with h0 | h1
      . subst h0; omega
      . rcases Nat.eq_zero_or_pos k with h0 | h0
        . subst h0; omega
        . have := h.asc (k - 1) k (by omega) (by omega)
          rw [Nat.add_sub_cancel]; omega
  rcases this X.length (Nat.le_refl _) with h0 | h1
  . omega
  . rcases Nat.eq_zero_or_pos X.length with h0 | h0
    . omega
    . have := h.lt (X.length - 1) (by omega); omega
end Go.Proofs.YtngdhnijkgjhcaaGreat
set_option linter.unusedVariables false
set_option linter.unusedSimpArgs false
namespace Go.Proofs.YtngdhnijkgjhcaaGreat
variable {P M : Int} {mf : List Int} {p m v : Nat} {C : Int} {X Y : List (List Int)} {w : Nat}
def Sb (p m : Nat) (x y : Int) : Int := ((JS p m (inE (p ^ m) x) (QB p m (inE (p ^ m) y)) : Nat) : Int)
def sbx (p m v : Nat) (a : List Int) (x : Int) (o : List Int) : List Int := if x = 0 then a else (List.range a.length).map fun i => if i < o.length then Sb p m (vo a i) (Ml p m v x (vo o i)) else vo a i
theorem ml_z (hF : FV P M mf p m v) {x z : Int} (hz : inE (p ^ m) z = 0 ∨ inE (p ^ m) x = 0) : Ml p m v x z = 0 := by
 have hq : 0 < p ^ m := by have := hF.ring.q2; omega
 unfold Ml; rcases hz with h | h
 .rw [h, hF.ring.M0 (Qe hq _)]; rfl
 .rw [h, hF.ring.Mc hq (Qe hq _), hF.ring.M0 (Qe hq _)]; rfl
theorem Jgl (hF : FV P M mf p m v) : inE (p ^ m) 0 = 0 := Qp (x := 0) (by have := hF.ring.q2; omega)
theorem neg_ml (hF : FV P M mf p m v) {x y : Nat} (hx : x < p ^ m) (hy : y < p ^ m) : QB p m (Ju p m (dv p v) x y) = Ju p m (dv p v) (QB p m x) y := by
 have R := hF.ring; have hp : 0 < p := by have := hF.p2; omega
 have hn := QY (m := m) hp x; have h1 : JS p m (Ju p m (dv p v) x y) (Ju p m (dv p v) (QB p m x) y) = 0 := by
  rw [R.Mc hx hy, R.Mc hn hy, <- R.Md hy hx hn, QQ hp hx, R.M0 hy]
 have h2 := QQ (m := m) hp (R.Ml x y); have h3 := R.Ml (QB p m x) y; have h4 := QY (m := m) hp (Ju p m (dv p v) x y); have h5 : JS p m (JS p m (Ju p m (dv p v) (QB p m x) y) (Ju p m (dv p v) x y)) (QB p m (Ju p m (dv p v) x y)) = Ju p m (dv p v) (QB p m x) y := by
  rw [R.Aa h3 (R.Ml x y) h4, h2, R.Az h3]
 rw [R.Ac (Ju p m (dv p v) (QB p m x) y), h1, R.Ac, R.Az h4] at h5; exact h5
theorem Jqz (hF : FV P M mf p m v) {x : Nat} (h : x < p ^ m) : inE (p ^ m) ((x : Nat) : Int) = x := Qp h
theorem Jzc (hF : FV P M mf p m v) {a o : List Int} {x : Int} (ha : Elr p m a) (hx : El p m x) : sbx p m v a x o = adx p m v a (Ng p m x) o := by
 have R := hF.ring; have hp : 0 < p := by have := hF.p2; omega
 have hq : 0 < p ^ m := by have := R.q2; omega
 unfold sbx; by_cases h : x = 0
 .subst h; rw [if_pos rfl, ng_0 hF, Jlz]
 .rw [if_neg h]; have hn : Ng p m x ≠ 0 := fun e => h ((Jqs hF hx).1 e); unfold adx; rw [if_neg hn]; refine List.ext_getElem (by simp [adm]) fun i h1 h2 => ?_; simp only [List.length_map, List.length_range] at h1; simp only [adm, List.getElem_map, List.getElem_range]; have hai : El p m (vo a i) := Jau ha h1; by_cases ho : vo o i = 0
  .rw [if_pos ho, ho]; split
   .unfold Sb; rw [ml_z hF (.inl (Jgl hF)), Jgl hF]; have : QB p m 0 = 0 := by
     have h0 := QQ (m := m) hp hq; rw [R.Ac, R.Az (QY hp 0)] at h0; exact h0
    rw [this, R.Az (Qe hq _), Jbf hai]
   .rfl
  .have hi : i < o.length := by
    rcases Nat.lt_or_ge i o.length with hh | hh
    .exact hh
    .exact absurd (Jch hh) ho
   rw [if_pos hi, if_neg ho]; unfold Sb Ad Ml Ng; rw [Jqz hF (R.Ml _ _), Jqz hF (R.Ml _ _), Jqz hF (QY hp _), neg_ml hF (Qe hq _) (Qe hq _)]
def rsd (p m v : Nat) (Q : Nat -> Nat) (X : List (List Int)) (u : List Int) : Nat -> List Int
  | 0 => u
  | k + 1 => adx p m v (rsd p m v Q X u k) (Ng p m (vo u (Q k))) (row X k)
theorem Zx (Q : Nat -> Nat) (u : List Int) : ∀ k, (rsd p m v Q X u k).length = u.length
 | 0 => rfl
 | k + 1 => by rw [rsd, Jdq, Zx Q u k]
theorem Zy (hp : 0 < p) (Q : Nat -> Nat) {u : List Int} (hu : Elr p m u) : ∀ k, Elr p m (rsd p m v Q X u k)
 | 0 => hu
 | k + 1 => Jrd hp (Zy hp Q hu k)
theorem Jv9 (hF : FV P M mf p m v) {Q : Nat -> Nat} {u : List Int} {c : Nat} (hc : c < u.length) : ∀ k, en p m (rsd p m v Q X u k) c = JS p m (en p m u c) (fs p m (fun i => Ju p m (dv p v) (inE (p ^ m) (Ng p m (vo u (Q i)))) (en p m (row X i) c)) k)
 | 0 => by
  have R := hF.ring; show en p m u c = JS p m (en p m u c) 0; rw [R.Az (JQ hF u c)]
 | k + 1 => by
  have R := hF.ring; rw [rsd, Jnv hF (by rw [Zx]; exact hc), Jv9 hF hc k, R.Aa (JQ hF u c) (Zr hF _ k) (R.Ml _ _)]; rfl
theorem Jac (hF : FV P M mf p m v) {f : (Nat -> Nat) -> Nat} (L : Lin p m v w f) {Q : Nat -> Nat} {u : List Int} (hu : u.length = w) (hX : Ann p m f X) : ∀ k, k <= X.length -> f (en p m (rsd p m v Q X u k)) = f (en p m u)
 | 0, _ => rfl
 | k + 1, hk => by
  have R := hF.ring; rw [rsd, L.adx hF (by rw [Zx]; exact hu), hX k (by omega), R.M0 (Qe (by have := R.q2; omega) _), R.Az (L.lt _), Jac hF L hu hX k (by omega)]
theorem Jh7 (hF : FV P M mf p m v) {l : List Int} {c : Nat} (h : El p m (vo l c)) : en p m l c = 0 ↔ vo l c = 0 := by
 unfold en; constructor
 .intro h0; have := Jbf h; rw [h0] at this; exact this.symm
 .intro h0; rw [h0, Jgl hF]
theorem Jat (hF : FV P M mf p m v) {l : List Int} (h : Elr p m l) (c : Nat) : El p m (vo l c) := by
 rcases Nat.lt_or_ge c l.length with hc | hc
 .exact Jau h hc
 .rw [Jch hc]; have := hF.ring.q2; exact ⟨by omega, by exact_mod_cast (by omega : 0 < p ^ m)⟩
theorem Jko (hF : FV P M mf p m v) {Q : Nat -> Nat} (hlt : ∀ j, j < X.length -> Q j < w) (hone : ∀ j, j < X.length -> ∀ t, t < X.length -> vo (row X t) (Q j) = if t = j then 1 else 0) {u : List Int} (hu : u.length = w) (he : Elr p m u) {j : Nat} (hj : j < X.length) : vo (rsd p m v Q X u X.length) (Q j) = 0 := by
  have R := hF.ring
  have hp : 0 < p := by have := hF.p2; omega
  have hq1 : 1 < p ^ m := by have := R.q2; omega
  refine (Jh7 hF (Jat hF (Zy hp Q he _) _)).1 ?_
  rw [Jv9 hF (by rw [hu]; exact hlt j hj)]
  have e1 : inE (p ^ m) 1 = 1 := Qp (x := 1) hq1
  have hs : fs p m (fun i => Ju p m (dv p v) (inE (p ^ m) (Ng p m (vo u (Q i)))) (en p m (row X i) (Q j))) X.length = inE (p ^ m) (Ng p m (vo u (Q j))) := by
    refine (Zq hF (f := fun i => Ju p m (dv p v) (inE (p ^ m) (Ng p m (vo u (Q i)))) (en p m (row X i) (Q j))) (j := j) (R.Ml _ _) X.length hj (fun i hi hne => ?_)).trans ?_
    . show Ju p m (dv p v) _ (inE (p ^ m) (vo (row X i) (Q j))) = 0
      rw [hone j hj i hi, if_neg hne, Jgl hF, R.M0 (Qe (by omega) _)]
    . show Ju p m (dv p v) _ (inE (p ^ m) (vo (row X j) (Q j))) = _
      rw [hone j hj j hj, if_pos rfl, e1, R.M1 (Qe (by omega) _)]
  rw [hs]
  unfold Ng en
  rw [Jqz hF (QY hp _), QQ hp (Qe (by omega) _)]
theorem Jir (hF : FV P M mf p m v) {Q : Nat -> Nat} (hq : Cnl w X Q) {u : List Int} (hu : u.length = w) (he : Elr p m u) {j : Nat} (hj : j < X.length) : vo (rsd p m v Q X u X.length) (Q j) = 0 := Jko hF hq.lt hq.one hu he hj
def Sp (p m v w : Nat) (X : List (List Int)) (u : List Int) : Prop := ∀ f, Lin p m v w f -> Ann p m f X -> f (en p m u) = 0
theorem sp_rsd (hF : FV P M mf p m v) (hs : shp C X) (he : Els p m X) {Q : Nat -> Nat} (hq : Cnl C.toNat X Q) {u : List Int} (hu : u.length = C.toNat) (hue : Elr p m u) : Sp p m v C.toNat X u ↔ ∀ c, c < C.toNat -> vo (rsd p m v Q X u X.length) c = 0 := by
 have R := hF.ring; have hp : 0 < p := by have := hF.p2; omega
 obtain ⟨hX, hP⟩ := ZH hF hs he hq; constructor
 .intro h c hc; refine (Jh7 hF (Jat hF (Zy hp Q hue _) _)).1 ?_; rw [Je9 hF hs he (a := en p m (rsd p m v Q X u X.length)) (JQ hF _) (fun f L hf => by
   rw [hX] at hf; rw [Jac hF L hu hf X.length (Nat.le_refl _)]; exact h f L hf) hc]
  refine YR hF _ fun i hi => ?_; have hi' : i < X.length := by rw [hP] at hi; simpa using hi
  have e : (vo (JB p m v C X) i).toNat = Q i := by rw [hP, Ja9 hi']; simp
  rw [e, hX]; have : en p m (rsd p m v Q X u X.length) (Q i) = 0 := (Jh7 hF (Jat hF (Zy hp Q hue _) _)).2 (Jir hF hq hu hue hi'); rw [this, R.Mc (by have := R.q2; omega) (JQ hF _ _), R.M0 (JQ hF _ _)]
 .intro h f L hf; rw [<- Jac hF L hu hf X.length (Nat.le_refl _) (Q := Q)]; exact Jlb hF L fun c hc => (Jh7 hF (Jat hF (Zy hp Q hue _) _)).2 (h c hc)
end Go.Proofs.YtngdhnijkgjhcaaGreat
set_option linter.unusedVariables false
set_option linter.unusedSimpArgs false
namespace Go.Proofs.YtngdhnijkgjhcaaGreat
variable {P M : Int} {mf : List Int} {p m v g : Nat} {C : Int} {X Y : List (List Int)} {F : GFv}
theorem Jy1 {l : List Int} {pf : Int -> (Bool -> Prop) -> Prop} {f : Int -> Bool} {Q : Int -> Prop} (hl : l.length <= 1000000) (hp : ∀ x (R : Bool -> Prop), R (f x) -> pf x R)
  (h1 : ∀ k : Nat, k < l.length -> f (vo l k) = true -> (∀ j, j < k -> f (vo l j) = false) -> Q (k : Int)) (h2 : (∀ j, j < l.length -> f (vo l j) = false) -> Q (-1)) : Zh l pf Q := by
 refine ⟨fun z => ∃ k : Nat, z = k /\ k <= l.length /\ ∀ j, j < k -> f (vo l j) = false, fun z => (l.length - z).toNat, ⟨0, rfl, Nat.zero_le _, fun j hj => by omega⟩, ?_⟩; rintro _ ⟨k, rfl, hk, hv⟩; dsimp only; refine ⟨fun hlt => ⟨⟨by omega, by omega⟩, hp _ _ ⟨fun hb => h1 k (by omega) hb hv, fun hb => ⟨JE (by omega) (by omega), ⟨k + 1, by push_cast; rfl, by omega, fun j hj => ?_⟩, by omega⟩⟩⟩, fun hge => h2 fun j hj => hv j (by omega)⟩; rcases Nat.lt_or_ge j k with h | h
 .exact hv j h
 .have : j = k := by omega
  subst this; exact hb
theorem Jmn {l : List Int} {Q : Int -> Prop} (hl : l.length <= 1000000)
  (h1 : ∀ k : Nat, k < l.length -> vo l k ≠ 0 -> (∀ j, j < k -> vo l j = 0) -> Q (k : Int)) (h2 : (∀ j, j < l.length -> vo l j = 0) -> Q (-1)) : Zh l (fun xc Qc => Yq xc Qc) Q :=
 Jy1 (f := fun x => decide (x ≠ 0)) hl (fun x R hR => hR) (fun k hk hb hv => h1 k hk (of_decide_eq_true hb) fun j hj => Classical.not_not.1 (of_decide_eq_false (hv j hj))) (fun hv => h2 fun j hj => Classical.not_not.1 (of_decide_eq_false (hv j hj)))
theorem Cnl.lead {w : Nat} {q : Nat -> Nat} (h : Cnl w X q) {t k : Nat} (ht : t < X.length) (hk : vo (row X t) k ≠ 0) (hz : ∀ j, j < k -> vo (row X t) j = 0) : q t = k := by
  rcases Nat.lt_trichotomy (q t) k with h1 | h1 | h1
  . have := hz _ h1
    rw [h.one t ht t ht, if_pos rfl] at this; exact absurd this (by decide)
  . exact h1
  . exact absurd (h.lf t ht k h1) hk
theorem Jhc {Q : Bool -> Prop} (hs : shp C X) (h1 : IsCn C X -> Q true) (h2 : ¬ IsCn C X -> Q false) : YU C X Q := by
 obtain ⟨hX, hC, hCe⟩ := Yw hs; have hw : ∀ t, t < X.length -> (row X t).length = C.toNat := fun t ht => JU hs ht; refine ⟨fun last z => ∃ t : Nat, z = t /\ t <= X.length /\ ∃ q : Nat -> Nat, (∀ i, i < t -> q i < C.toNat /\ (∀ s, s < X.length -> vo (row X s) (q i) = if s = i then 1 else 0) /\ ∀ c, c < q i -> vo (row X i) c = 0) /\ (∀ i j, i < j -> j < t -> q i < q j) /\ (t = 0 -> last = -1) /\ ∀ u, t = u + 1 -> last = (q u : Int), fun _ z => (X.length - z).toNat, ⟨0, rfl, Nat.zero_le _, fun _ => 0, fun i hi => absurd hi (Nat.not_lt_zero i), fun i j _ hj => absurd hj (Nat.not_lt_zero j), fun _ => rfl, fun u hu => by omega⟩, ?_⟩; rintro last _ ⟨t, rfl, ht, q, hq1, hq2, hl0, hl1⟩; dsimp only; refine ⟨fun hlt => ?_, fun hge => ?_⟩
 .have htl : t < X.length := by omega
  have hwt := hw t htl; refine ⟨⟨by omega, by omega⟩, ?_⟩; show Zh (row X t) _ _; have hlast : ∀ q', Cnl C.toNat X q' -> ∀ u, t = u + 1 -> last = (q' u : Int) := fun q' hq' u hu => by
   have hul : u < X.length := by omega
   have := hq'.lead (t := u) (k := q u) hul (by rw [(hq1 u (by omega)).2.1 u hul, if_pos rfl]; decide) (hq1 u (by omega)).2.2; rw [this]; exact hl1 u hu
  refine Jmn (by omega) (fun k hk hne hz => ?_) (fun hz => ?_)
  .have hkq : ∀ q', Cnl C.toNat X q' -> q' t = k := fun q' hq' => hq'.lead htl hne hz; refine ⟨fun hle => h2 ?_, fun hgt => ?_⟩
   .rintro ⟨q', hq'⟩; rcases Nat.eq_zero_or_pos t with h0 | h0
    .have := hl0 h0; omega
    .have e1 := hlast q' hq' (t - 1) (by omega); have e2 := hq'.asc (t - 1) t (by omega) htl; have e3 := hkq q' hq'; omega
   .refine ⟨⟨by omega, by show (k : Int) < ((row X t).length : Nat); omega⟩, fun hn1 => h2 ?_, fun h1' => ?_⟩
    .rintro ⟨q', hq'⟩; have := hq'.one t htl t htl; rw [hkq q' hq', if_pos rfl] at this; exact hn1 this
    .have hone : vo (row X t) k = 1 := Classical.not_not.1 h1'; refine ⟨fun z => ∃ u : Nat, z = u /\ u <= X.length /\ ∀ j, j < u -> j ≠ t -> vo (row X j) k = 0, fun z => (X.length - z).toNat, ⟨0, rfl, Nat.zero_le _, fun j hj => absurd hj (Nat.not_lt_zero j)⟩, ?_⟩; rintro _ ⟨u, rfl, hu, hju⟩; dsimp only; refine ⟨fun hlt2 => ?_, fun hge2 => ?_⟩
     .have hul : u < X.length := by omega
      have hwu := hw u hul; refine ⟨fun _ => u = t ∨ vo (row X u) k = 0, ⟨⟨by omega, by omega⟩, fun hne2 => ⟨⟨by omega, by show (k : Int) < ((row X u).length : Nat); omega⟩, fun hnz => h2 ?_, fun hz2 => .inr (Classical.not_not.1 hz2)⟩, fun he => .inl (by have := Classical.not_not.1 he; omega)⟩, ?_⟩
      .rintro ⟨q', hq'⟩; have := hq'.one t htl u hul; rw [hkq q' hq', if_neg (by omega)] at this; exact hnz this
      .intro b hb; refine ⟨JE (by omega) (by omega), ⟨u + 1, by push_cast; rfl, by omega, fun j hj hne2 => ?_⟩, by omega⟩; rcases Nat.lt_or_ge j u with h | h
       .exact hju j h hne2
       .have : j = u := by omega
        subst this; exact hb.resolve_left hne2
     .obtain ⟨q2, e1, e2⟩ : ∃ q2 : Nat -> Nat, q2 t = k /\ ∀ i, i ≠ t -> q2 i = q i := ⟨fun i => if i = t then k else q i, if_pos rfl, fun i h => if_neg h⟩
      refine ⟨JE (by omega) (by omega), ⟨t + 1, by push_cast; rfl, by omega, q2, fun i hi => ?_, fun i j hij hj => ?_, fun h0 => by omega, fun u hu => ?_⟩, by omega⟩
      .by_cases hit : i = t
       .subst hit; rw [e1]; refine ⟨by omega, fun s hs' => ?_, fun c hc => hz c hc⟩; by_cases hsi : s = i
        .subst hsi; rw [if_pos rfl]; exact hone
        .rw [if_neg hsi]; exact hju s (by omega) hsi
       .rw [e2 i hit]; exact hq1 i (by omega)
      .have hit : i ≠ t := by omega
       rw [e2 i hit]; by_cases hjt : j = t
       .subst hjt; rw [e1]; have hlu := hl1 (j - 1) (by omega); have : q i <= q (j - 1) := by
         rcases Nat.lt_or_ge i (j - 1) with h | h
         .exact Nat.le_of_lt (hq2 i (j - 1) h (by omega))
         .have : i = j - 1 := by omega
          rw [this]; exact Nat.le_refl _
        omega
       .rw [e2 j hjt]; exact hq2 i j hij (by omega)
      .have : u = t := by omega
       subst this; rw [e1]
  .have hge : (-1 : Int) <= last := by
    rcases Nat.eq_zero_or_pos t with h0 | h0
    .rw [hl0 h0]; exact Int.le_refl _
    .have := hl1 (t - 1) (by omega); omega
   refine ⟨fun _ => h2 ?_, fun hgt => absurd hge hgt⟩; rintro ⟨q', hq'⟩; have := hq'.one t htl t htl; rw [hz (q' t) (by have := hq'.lt t htl; omega), if_pos rfl] at this; exact absurd this (by decide)
 .have : t = X.length := by omega
  subst this; exact h1 ⟨q, fun i hi => (hq1 i hi).1, fun i hi t ht => (hq1 i hi).2.1 t ht, fun i hi => (hq1 i hi).2.2, hq2⟩
open Classical in
noncomputable def sck (P M : Int) (mf : List Int) (C : Int) (X : List (List Int)) : Int := if mck P M mf C X ≠ 0 then mck P M mf C X else if IsCn C X then 0 else 5
theorem sck_no (h : mck P M mf C X ≠ 0) : sck P M mf C X = mck P M mf C X := if_pos h
theorem sck_nc (h : mck P M mf C X = 0) (h2 : ¬ IsCn C X) : sck P M mf C X = 5 := by unfold sck; rw [if_neg (fun hh => hh h), if_neg h2]
theorem Jv3 (h : mck P M mf C X = 0) (h2 : IsCn C X) : sck P M mf C X = 0 := by unfold sck; rw [if_neg (fun hh => hh h), if_pos h2]
theorem ZS {Q : Int -> Prop} (h : Q (sck P M mf C X)) : YE P M mf C X Q := by
 refine Jj6 ⟨fun hne => by rw [sck_no hne] at h; exact h, fun he => ?_⟩; have h0 : mck P M mf C X = 0 := Classical.not_not.1 he; obtain ⟨hV, hs, hE⟩ := Jdf h0; refine Jhc hs (fun hc => ?_) (fun hc => ?_)
 .rw [Jv3 h0 hc] at h; exact ⟨fun hb => (by cases hb), fun _ => h⟩
 .rw [sck_nc h0 hc] at h; exact ⟨fun _ => h, fun hb => by cases hb⟩
theorem Zb {a b : List Int} {Q : Bool -> Prop} (ha : a.length <= 1000000) (h1 : a = b -> Q true) (h2 : a ≠ b -> Q false) : Q6 a b Q := by
 refine ⟨fun hne => h2 fun e => hne (by rw [e]), fun he => ?_⟩; have hl : a.length = b.length := by have := Classical.not_not.1 he; omega
 refine ⟨fun z => ∃ t : Nat, z = t /\ t <= a.length /\ ∀ j, j < t -> vo a j = vo b j, fun z => (a.length - z).toNat, ⟨0, rfl, Nat.zero_le _, fun j hj => absurd hj (Nat.not_lt_zero j)⟩, ?_⟩; rintro _ ⟨t, rfl, ht, hj⟩; dsimp only; refine ⟨fun hlt => ⟨⟨by omega, by omega⟩, ⟨by omega, by omega⟩, fun hne => h2 fun e => hne (by rw [e]), fun heq => ⟨JE (by omega) (by omega), ⟨t + 1, by push_cast; rfl, by omega, fun j hj' => ?_⟩, by omega⟩⟩, fun hge => h1 ?_⟩
 .rcases Nat.lt_or_ge j t with h | h
  .exact hj j h
  .have : j = t := by omega
   subst this; exact Classical.not_not.1 heq
 .refine List.ext_getElem hl fun i i1 i2 => ?_; have := hj i (by omega); unfold vo at this
  rwa [List.getD_eq_getElem?_getD, List.getElem?_eq_getElem i1, List.getD_eq_getElem?_getD, List.getElem?_eq_getElem i2] at this
theorem Za {X Y : List (List Int)} {Q : Bool -> Prop} (hX : X.length <= 1000000) (hr : ∀ t, t < X.length -> (row X t).length <= 1000000) (h1 : X = Y -> Q true) (h2 : X ≠ Y -> Q false) : QD X Y Q := by
 refine ⟨fun hne => h2 fun e => hne (by rw [e]), fun he => ?_⟩; have hl : X.length = Y.length := by have := Classical.not_not.1 he; omega
 refine ⟨fun z => ∃ t : Nat, z = t /\ t <= X.length /\ ∀ j, j < t -> row X j = row Y j, fun z => (X.length - z).toNat, ⟨0, rfl, Nat.zero_le _, fun j hj => absurd hj (Nat.not_lt_zero j)⟩, ?_⟩; rintro _ ⟨t, rfl, ht, hj⟩; dsimp only; refine ⟨fun hlt => ⟨⟨by omega, by omega⟩, ⟨by omega, by omega⟩, ?_⟩, fun hge => h1 (Q8 hl fun i hi => hj i (by omega))⟩; have htl : t < X.length := by omega
 by_cases e : row X t = row Y t
 .refine ⟨true, Zb (hr t htl) (fun _ => rfl) (fun hne => absurd e hne), fun hb => (by cases hb), fun _ => ⟨JE (by omega) (by omega), ⟨t + 1, by push_cast; rfl, by omega, fun j hj' => ?_⟩, by omega⟩⟩; rcases Nat.lt_or_ge j t with h | h
  .exact hj j h
  .have : j = t := by omega
   subst this; exact e
 .exact ⟨false, Zb (hr t htl) (fun e' => absurd e' e) (fun _ => rfl), fun _ => h2 fun e' => e (by rw [e']), fun hb => (by cases hb)⟩
end Go.Proofs.YtngdhnijkgjhcaaGreat
set_option linter.unusedVariables false
set_option linter.unusedSimpArgs false
namespace Go.Proofs.YtngdhnijkgjhcaaGreat
variable {P M : Int} {mf : List Int} {p m v g : Nat} {C : Int} {X Y : List (List Int)} {F : GFv}
def pvl (q : Nat -> Nat) (n : Nat) : List Int := (List.range n).map fun i => ((q i : Nat) : Int)
theorem Zd (q : Nat -> Nat) (n : Nat) : (pvl q n).length = n := by simp [pvl]
theorem Jij {q : Nat -> Nat} {n i : Nat} (h : i < n) : vo (pvl q n) i = (q i : Int) := Ja9 h
theorem Jj5 {q : Nat -> Nat} {Q : List Int -> Prop} (hs : shp C X) (hq : Cnl C.toNat X q) (h : Q (pvl q X.length)) : Z2 C X Q := by
 obtain ⟨hX, hC, hCe⟩ := Yw hs; refine ⟨⟨by omega, by omega, by omega⟩, fun x z => ∃ t : Nat, z = t /\ t <= X.length /\ x.length = X.length /\ ∀ j, j < t -> vo x j = (q j : Int), fun _ z => (X.length - z).toNat, ⟨0, rfl, Nat.zero_le _, by simp, fun j hj => absurd hj (Nat.not_lt_zero j)⟩, ?_⟩; rintro x _ ⟨t, rfl, ht, hx, hj⟩; dsimp only; refine ⟨fun hlt => ?_, fun hge => ?_⟩
 .have htl : t < X.length := by omega
  refine ⟨⟨by omega, by omega⟩, ?_⟩; show Zh (row X t) _ _; refine Jmn (by have := JU hs htl; omega) (fun k hk hne hz => ?_) (fun hz => ?_)
  .have e := hq.lead htl hne hz; refine ⟨⟨by omega, by omega⟩, JE (by omega) (by omega), ⟨t + 1, by push_cast; rfl, by omega, by rw [QM, List.length_set]; exact hx, fun j hj' => ?_⟩, by omega⟩; rw [QM, Qw]; by_cases e2 : t = j
   .subst e2; rw [if_pos ⟨rfl, by omega⟩, e]
   .rw [if_neg (fun hh => e2 hh.1)]; exact hj j (by omega)
  .have h1 := hq.one t htl t htl; rw [hz (q t) (by have := hq.lt t htl; have := JU hs htl; omega), if_pos rfl] at h1; exact absurd h1 (by decide)
 .have : x = pvl q X.length := Yb (by rw [hx, Zd]) fun i hi => by rw [hj i (by omega), Jij (by omega)]
  rw [this]; exact h
theorem w_Sub {x y : Int} {Q : Int -> Prop} (K : GFk F p m v g) (h : Q (Sb p m x y)) : Jrw F x y Q := by
 refine Jp7 K (v_Add K ?_); rw [Qp (QY (by have := K.fv.p2; omega) _)]; exact h
theorem Jvj {a o : List Int} {x : Int} {k : Nat} (h0 : x ≠ 0) (hk : k < a.length) : vo (sbx p m v a x o) k = if k < o.length then Sb p m (vo a k) (Ml p m v x (vo o k)) else vo a k := by
 unfold sbx; rw [if_neg h0, Ja9 hk]
theorem Jzb (a o : List Int) (x : Int) : (sbx p m v a x o).length = a.length := by
 unfold sbx; split
 .rfl
 .simp
theorem Jmk {a o : List Int} {x : Int} {Q : List Int -> Prop} (K : GFk F p m v g) (hl : o.length <= a.length) (ha : a.length <= 1000000) (h : Q (sbx p m v a x o)) : Jay F a x o Q := by
 refine ⟨fun h0 => by unfold sbx at h; rwa [if_pos h0] at h, fun h0 => ?_⟩; refine ⟨fun y z => ∃ t : Nat, z = t /\ t <= o.length /\ y.length = a.length /\ ∀ k, k < a.length -> vo y k = if k < t then vo (sbx p m v a x o) k else vo a k, fun y z => (o.length - z).toNat, ⟨0, rfl, Nat.zero_le _, rfl, fun k hk => by simp⟩, ?_⟩; rintro y _ ⟨t, rfl, ht, hy, hk⟩; dsimp only; rw [J3, J3]; refine ⟨fun hlt => ⟨⟨by omega, by omega⟩, ⟨by omega, by omega⟩, _, Jkc K rfl, _, w_Sub K rfl, ⟨by omega, by omega⟩, JE (by omega) (by omega), ⟨t + 1, by push_cast; rfl, by omega, by rw [QM, List.length_set]; exact hy, fun k hk' => ?_⟩, by omega⟩, fun hge => ?_⟩
 .rw [QM, Qw]; by_cases e : t = k
  .subst e; rw [if_pos ⟨rfl, by omega⟩, if_pos (by omega), Jvj h0 hk', if_pos (by omega), hk t hk', if_neg (by omega)]; rfl
  .rw [if_neg (fun h => e h.1), hk k hk']; by_cases hkt : k < t
   .rw [if_pos hkt, if_pos (by omega)]
   .rw [if_neg hkt, if_neg (by omega)]
 .have : y = sbx p m v a x o := Yb (by rw [hy, Jzb]) fun k hk' => by
   rw [hk k (by omega)]; split
   .rfl
   .rw [Jvj h0 (by omega), if_neg (by omega)]
  rw [this]; exact h
theorem Jc5 {l : List (List Int)} {q : Nat -> Nat} {Q : List (List Int) -> Prop} (hF : FV P M mf p m v) (hs : shp C X) (hq : Cnl C.toNat X q) (hl : l.length <= 1000) (hw : ∀ t, t < l.length -> (row l t).length = C.toNat) (hE : Els p m l)
  (h : Q (l.map fun u => rsd p m v q X u X.length)) : YF P M mf C X l Q := by
 obtain ⟨hX, hC, hCe⟩ := Yw hs; refine v_New (fun hV => absurd ⟨p, m, v, hF⟩ hV) fun F p' m' v' g' K e1 e2 e3 => ?_; have hF' : FV P M mf p' m' v' := by rw [<- e1, <- e2, <- e3]; exact K.fv
 obtain ⟨rfl, rfl, rfl⟩ := hF.uniq3 hF'; have hp : 0 < p := by have := hF.p2; omega
 refine Jj5 hs hq ?_; refine ⟨⟨by omega, by omega, by omega⟩, fun x z => ∃ t : Nat, z = t /\ t <= l.length /\ x.length = l.length /\ ∀ j, j < t -> row x j = rsd p m v q X (row l j) X.length, fun _ z => (l.length - z).toNat, ⟨0, rfl, Nat.zero_le _, by simp, fun j hj => absurd hj (Nat.not_lt_zero j)⟩, ?_⟩; rintro x _ ⟨t, rfl, ht, hx, hj⟩; dsimp only; refine ⟨fun hlt => ?_, fun hge => ?_⟩
 .have htl : t < l.length := by omega
  have hwt := hw t htl; have hgl : gl l (t : Int) = row l t := rfl; rw [hgl]; refine ⟨⟨by omega, by omega⟩, Jc8 (by omega) ⟨⟨by omega, by omega⟩, ?_⟩⟩; refine ⟨fun y z => ∃ s : Nat, z = s /\ s <= X.length /\ y.length = l.length /\ row y t = rsd p m v q X (row l t) s /\ ∀ j, j < t -> row y j = row x j, fun _ z => (X.length - z).toNat, ⟨0, rfl, Nat.zero_le _, by rw [Zv]; exact hx, ?_, fun j hj' => ?_⟩, ?_⟩
  .show row (x.set t (row l t)) t = _; rw [Qn, if_pos ⟨rfl, by omega⟩]; rfl
  .show row (x.set t (row l t)) j = _; rw [Qn, if_neg (fun hh => by omega)]
  rintro y _ ⟨s, rfl, hsx, hy, hyt, hyj⟩; dsimp only; refine ⟨fun hlt2 => ?_, fun hge2 => ?_⟩
  .have hsl : s < X.length := by rw [Zd] at hlt2; omega
   have e : gi (pvl q X.length) (s : Int) = (q s : Int) := Jij hsl; have hqs := hq.lt s hsl; rw [e]; refine ⟨⟨by omega, by rw [Zd]; omega⟩, ⟨by omega, by omega⟩, ⟨by omega, by omega⟩, ⟨by omega, by omega⟩, ?_⟩; have e4 : gi (row l t) (q s : Int) = vo (row l t) (q s) := rfl; have e5 : gl X (s : Int) = row X s := rfl; have e6 : gl y (t : Int) = row y t := rfl; rw [e4, e5, e6]; have hrow : (row X s).length = C.toNat := JU hs hsl; have hyl : (row y t).length = C.toNat := by rw [hyt, Zx]; exact hwt
   have hyE : Elr p m (row y t) := by rw [hyt]; exact Zy hp q (JZ hE t) s
   refine Jmk K (by omega) (by omega) ?_; have hx1 : El p m (vo (row l t) (q s)) := Jau (JZ hE t) (by omega); rw [Jzc hF hyE hx1, hyt]; refine ⟨JE (by omega) (by omega), ⟨s + 1, by push_cast; rfl, by omega, by rw [Zv]; exact hy, ?_, fun j hj' => ?_⟩, by rw [Zd] at hlt2; omega⟩
   .show row (y.set t _) t = _; rw [Qn, if_pos ⟨rfl, by omega⟩]; rfl
   .show row (y.set t _) j = _; rw [Qn, if_neg (fun hh => by omega)]; exact hyj j hj'
  .rw [Zd] at hge2; have hsx' : s = X.length := by omega
   subst hsx'; refine ⟨JE (by omega) (by omega), ⟨t + 1, by push_cast; rfl, by omega, hy, fun j hj' => ?_⟩, by omega⟩; by_cases e : j = t
   .subst e; exact hyt
   .rw [hyj j (by omega)]; exact hj j (by omega)
 .have : x = l.map fun u => rsd p m v q X u X.length := Q8 (by simp [hx]) fun i hi => by
   rw [hj i (by omega)]; unfold row; rw [List.getD_eq_getElem?_getD, List.getD_eq_getElem?_getD, List.getElem?_map, List.getElem?_eq_getElem (by omega : i < l.length)]; rfl
  rw [this]; exact h
def zr (u : List Int) : Prop := ∀ c, c < u.length -> vo u c = 0
theorem Jhp {l : List (List Int)} {Q : Bool -> Prop} (hl : l.length <= 1000000) (hw : ∀ t, t < l.length -> (row l t).length <= 1000000) (h1 : (∀ t, t < l.length -> zr (row l t)) -> Q true) (h2 : (¬ ∀ t, t < l.length -> zr (row l t)) -> Q false) : Z7 l Q := by
 refine ⟨fun z => ∃ t : Nat, z = t /\ t <= l.length /\ ∀ j, j < t -> zr (row l j), fun z => (l.length - z).toNat, ⟨0, rfl, Nat.zero_le _, fun j hj => absurd hj (Nat.not_lt_zero j)⟩, ?_⟩; rintro _ ⟨t, rfl, ht, hj⟩; dsimp only; refine ⟨fun hlt => ⟨⟨by omega, by omega⟩, ?_⟩, fun hge => h1 fun j hj' => hj j (by omega)⟩; have htl : t < l.length := by omega
 show Q7 (row l t) _ _; refine Jmn (hw t htl) (fun k hk hne _ => ⟨fun _ => h2 fun hz => hne (hz t htl k hk), fun hb => ?_⟩) (fun hz => ⟨fun hb => absurd (of_decide_eq_true hb) (by decide), fun _ => ⟨JE (by omega) (by omega), ⟨t + 1, by push_cast; rfl, by omega, fun j hj' => ?_⟩, by omega⟩⟩)
 .have := of_decide_eq_false hb; omega
 .rcases Nat.lt_or_ge j t with h | h
  .exact hj j h
  .rw [show j = t by omega]; exact hz
end Go.Proofs.YtngdhnijkgjhcaaGreat
set_option linter.unusedVariables false
set_option linter.unusedSimpArgs false
namespace Go.Proofs.YtngdhnijkgjhcaaGreat
variable {P M : Int} {mf : List Int} {p m v g : Nat} {C Ca Cb : Int} {X Y a b : List (List Int)} {F : GFv}
noncomputable def prk (P M : Int) (mf : List Int) (Ca : Int) (a : List (List Int)) (Cb : Int) (b : List (List Int)) : Int := if sck P M mf Ca a ≠ 0 then sck P M mf Ca a else if sck P M mf Cb b ≠ 0 then sck P M mf Cb b else if Ca ≠ Cb then 10 else 0
theorem Ja6 {Q : Int -> Prop} (h : Q (prk P M mf Ca a Cb b)) : Yr P M mf Ca a Cb b Q := by
 unfold prk at h; refine ZS ⟨fun h1 => by rwa [if_pos h1] at h, fun h1 => ZS ⟨fun h2 => by rwa [if_neg h1, if_pos h2] at h, fun h2 => ⟨fun h3 => by rwa [if_neg h1, if_neg h2, if_pos h3] at h, fun h3 => by rwa [if_neg h1, if_neg h2, if_neg h3] at h⟩⟩⟩
structure Sg (P M : Int) (mf : List Int) (p m v : Nat) (C : Int) (X : List (List Int)) (q : Nat -> Nat) : Prop where
  f : FV P M mf p m v
  s : shp C X
  e : Els p m X
  q : Cnl C.toNat X q
theorem Sg.mk0 {q : Nat -> Nat} (G : Sg P M mf p m v C X q) : mck P M mf C X = 0 := Jct ⟨p, m, v, G.f⟩ G.s ((QK G.f).2 G.e)
theorem Sg.sck {q : Nat -> Nat} (G : Sg P M mf p m v C X q) : sck P M mf C X = 0 := Jv3 G.mk0 ⟨q, G.q⟩
def rdl (p m v : Nat) (q : Nat -> Nat) (X l : List (List Int)) : List (List Int) := l.map fun u => rsd p m v q X u X.length
theorem Jaf (q : Nat -> Nat) (X l : List (List Int)) : (rdl p m v q X l).length = l.length := by simp [rdl]
theorem Zc {q : Nat -> Nat} {X l : List (List Int)} {t : Nat} (h : t < l.length) : row (rdl p m v q X l) t = rsd p m v q X (row l t) X.length := by
 unfold rdl row; rw [List.getD_eq_getElem?_getD, List.getD_eq_getElem?_getD, List.getElem?_map, List.getElem?_eq_getElem h]; rfl
theorem Jf1 {l : List (List Int)} (hC : 0 <= C /\ C <= 256) (hl : l.length <= 256) (hw : ∀ t, t < l.length -> (row l t).length = C.toNat) : shp C l := by
 unfold shp; refine ⟨hC.1, hC.2, by omega, fun r hr => ?_⟩; obtain ⟨t, ht, rfl⟩ := Jam hr; have := hw t ht; omega
theorem Zw (hs : shp C X) : 0 <= C /\ C <= 256 := by have := Yw hs; omega
theorem ZB {q : Nat -> Nat} {l : List (List Int)} (hs : shp C l) : shp C (rdl p m v q X l) :=
 Jf1 (Zw hs) (by rw [Jaf]; exact QN hs) fun t ht => by rw [Jaf] at ht; rw [Zc ht, Zx]; exact JU hs ht
theorem Jag (hF : FV P M mf p m v) {q : Nat -> Nat} {l : List (List Int)} (he : Els p m l) : Els p m (rdl p m v q X l) := Jas fun t ht => by
 rw [Jaf] at ht; rw [Zc ht]; exact Zy (by have := hF.p2; omega) q (JZ he t) _
def ain (p m v : Nat) (q : Nat -> Nat) (X l : List (List Int)) : Prop := ∀ t, t < l.length -> zr (rsd p m v q X (row l t) X.length)
theorem Jrc {q : Nat -> Nat} {X l : List (List Int)} : (∀ t, t < (rdl p m v q X l).length -> zr (row (rdl p m v q X l) t)) ↔ ain p m v q X l := by
 unfold ain; rw [Jaf]; exact ⟨fun h t ht => by have := h t ht; rwa [Zc ht] at this, fun h t ht => by rw [Zc ht]; exact h t ht⟩
theorem Jm5 {q r : Nat -> Nat} (G : Sg P M mf p m v Ca a q) (H : Sg P M mf p m v Cb b r) (e : Ca = Cb) : prk P M mf Ca a Cb b = 0 := by
 unfold prk; rw [if_neg (fun hh => hh G.sck), if_neg (fun hh => hh H.sck), if_neg (fun hh => hh e)]
theorem Jfo {q r : Nat -> Nat} {Q : Bool × Int -> Prop} (G : Sg P M mf p m v C a q) (H : Sg P M mf p m v C b r) (h1 : ain p m v r b a -> Q (true, 0)) (h2 : ¬ ain p m v r b a -> Q (false, 0)) : Z8 P M mf C a C b Q := by
 refine Ja6 ?_; rw [Jm5 G H rfl]; refine ⟨fun hh => absurd rfl hh, fun _ => Jc5 H.f H.s H.q (by have := QN G.s; omega) (fun t ht => JU G.s ht) G.e ?_⟩; have hsh := ZB (p := p) (m := m) (v := v) (q := r) (X := b) G.s; exact Jhp (l := rdl p m v r b a) (by have := QN hsh; omega) (fun t ht => by have := JU hsh ht; have := Yw hsh; omega) (fun hz => h1 (Jrc.1 hz)) (fun hz => h2 fun hh => hz (Jrc.2 hh))
theorem Jml {l : List (List Int)} {Q : Int × List (List Int) × Int -> Prop} (hF : FV P M mf p m v) (hs : shp C l) (he : Els p m l) (h : Q (C, JH p m v C l, 0)) : Jem P M mf C l Q := by
 have h0 : mck P M mf C l = 0 := Jct ⟨p, m, v, hF⟩ hs ((QK hF).2 he); refine Jeq (fun hh => absurd h0 hh) fun p' m' v' hF' _ _ _ => ?_; obtain ⟨rfl, rfl, rfl⟩ := hF.uniq3 hF'; exact h
theorem Jmp {q r : Nat -> Nat} {Q : Int × List (List Int) × Int -> Prop} (G : Sg P M mf p m v C a q) (H : Sg P M mf p m v C b r) (h1 : ain p m v r b a -> Q (C, JH p m v C (rdl p m v q a b), 0)) (h2 : ¬ ain p m v r b a -> Q (0, [], 11)) : Ja3 P M mf C a C b Q := by
 refine Jfo G H (fun hin => ⟨fun hh => absurd rfl hh, fun _ => ⟨fun hb => (by cases hb), fun _ => ?_⟩⟩) (fun hin => ⟨fun hh => absurd rfl hh, fun _ => ⟨fun _ => h2 hin, fun hb => by cases hb⟩⟩); exact ⟨rdl p m v q a b, Jc5 G.f G.s G.q (by have := QN H.s; omega) (fun t ht => JU H.s ht) H.e rfl, _, _, _, Jml G.f (ZB H.s) (Jag G.f H.e) rfl, h1 hin⟩
theorem w_few {Q : Bool -> Prop} (h1 : Ca <= 20 -> Cb <= 20 -> a.length <= 150 -> b.length <= 150 -> Q true) (h2 : Q false) : Jrv Ca a Cb b Q := by
 refine ⟨fun hA => ⟨fun hB => Jvb (by omega) (fun _ ha _ => ⟨fun _ => Jvb (by omega) (fun _ hb _ => h1 hA hB (by omega) (by omega)) h2, fun hb => (by cases hb)⟩) ⟨fun hb => (by cases hb), fun _ => h2⟩, fun _ => h2⟩, fun _ => h2⟩
end Go.Proofs.YtngdhnijkgjhcaaGreat
set_option linter.unusedVariables false
set_option linter.unusedSimpArgs false
namespace Go.Proofs.YtngdhnijkgjhcaaGreat
variable {P M : Int} {mf : List Int} {p m v g w : Nat} {C Ca Cb : Int} {X Y a b : List (List Int)}
theorem ZA (A B : List (List Int)) (t : Nat) : row (A ++ B) t = if t < A.length then row A t else row B (t - A.length) := by
 unfold row; rw [List.getD_eq_getElem?_getD, List.getElem?_append]; split <;> rw [List.getD_eq_getElem?_getD]
theorem QO {f : (Nat -> Nat) -> Nat} {A B : List (List Int)} : Ann p m f (A ++ B) ↔ Ann p m f A /\ Ann p m f B := by
 unfold Ann; rw [List.length_append]; refine ⟨fun h => ⟨fun t ht => ?_, fun t ht => ?_⟩, fun h t ht => ?_⟩
 .have := h t (by omega); rwa [ZA, if_pos ht] at this
 .have := h (A.length + t) (by omega); rwa [ZA, if_neg (by omega), Nat.add_sub_cancel_left] at this
 .rw [ZA]; split
  .rename_i hh; exact h.1 t hh
  .exact h.2 _ (by omega)
theorem Qm {A B : List (List Int)} (hA : shp C A) (hB : shp C B) (h : A.length + B.length <= 256) : shp C (A ++ B) :=
 Jf1 (Zw hA) (by rw [List.length_append]; exact h) fun t ht => by
  rw [List.length_append] at ht; rw [ZA]; split
  .exact JU hA (by assumption)
  .exact JU hB (by omega)
theorem Qq {A B : List (List Int)} (hA : Els p m A) (hB : Els p m B) : Els p m (A ++ B) := fun r hr => by
 rcases List.mem_append.1 hr with h | h
 .exact hA r h
 .exact hB r h
theorem Jdp (hF : FV P M mf p m v) {f : (Nat -> Nat) -> Nat} (L : Lin p m v w f) {q : Nat -> Nat} {l : List (List Int)} (hw : ∀ t, t < l.length -> (row l t).length = w) (hX : Ann p m f X) : Ann p m f (rdl p m v q X l) ↔ Ann p m f l := by
 unfold Ann; rw [Jaf]; refine ⟨fun h t ht => ?_, fun h t ht => ?_⟩
 .have := h t ht; rwa [Zc ht, Jac hF L (hw t ht) hX X.length (Nat.le_refl _)] at this
 .rw [Zc ht, Jac hF L (hw t ht) hX X.length (Nat.le_refl _)]; exact h t ht
theorem Jjl (hF : FV P M mf p m v) (hs : shp C X) (he : Els p m X) : (JH p m v C X).length <= C.toNat := (Jgy hF hs he).len
theorem sum_eq (hF : FV P M mf p m v) {q : Nat -> Nat} (ha : shp C a) (ea : Els p m a) (hb : shp C b) (eb : Els p m b) (hl : a.length + C.toNat <= 256) (hl2 : a.length + b.length <= 256) :
  JH p m v C (a ++ JH p m v C (rdl p m v q a b)) = JH p m v C (a ++ b) := by
 have h1 := ZB (p := p) (m := m) (v := v) (q := q) (X := a) hb; have h2 := Jag (X := a) (q := q) hF eb; have h3 := Jjl hF h1 h2; refine (Jgv hF (Qm ha (Q2 h1) (by omega)) (Qq ea (QC hF h2)) (Qm ha hb hl2) (Qq ea eb) fun f L => ?_).2; rw [QO, QO, Qh hF h1 h2 L]; exact ⟨fun ⟨u1, u2⟩ => ⟨u1, (Jdp hF L (fun t ht => JU hb ht) u1).1 u2⟩, fun ⟨u1, u2⟩ => ⟨u1, (Jdp hF L (fun t ht => JU hb ht) u1).2 u2⟩⟩
theorem w_sum {q : Nat -> Nat} {Q : Int × List (List Int) × Int -> Prop} (G : Sg P M mf p m v C a q) (hb : shp C b) (eb : Els p m b) (hl : a.length + C.toNat <= 256) (hl2 : a.length + b.length <= 256) (h : Q (C, JH p m v C (a ++ b), 0)) : Jl8 P M mf C a C b Q := by
 have h1 := ZB (p := p) (m := m) (v := v) (q := q) (X := a) hb; have h2 := Jag (X := a) (q := q) G.f eb; have h3 := Jjl G.f h1 h2; refine ⟨fun c x e => c = C /\ x = JH p m v C (rdl p m v q a b) /\ e = 0, ⟨rdl p m v q a b, Jc5 G.f G.s G.q (by have := QN hb; omega) (fun t ht => JU hb ht) eb rfl, _, _, _, Jml G.f h1 h2 rfl, rfl, rfl, rfl⟩, ?_⟩; rintro c x e ⟨rfl, rfl, rfl⟩; refine ⟨fun hh => absurd rfl hh, fun _ => ⟨a ++ JH p m v c (rdl p m v q a b), ⟨?_, ?_, ?_⟩, _, _, _, Jml G.f (Qm G.s (Q2 h1) (by omega)) (Qq G.e (QC G.f h2)) rfl, ?_⟩⟩
 .simp; omega
 .simp
 .simp
 .rw [sum_eq G.f G.s G.e hb eb hl hl2]; exact h
theorem Jve {q r : Nat -> Nat} {Q : Int × List (List Int) × Int -> Prop} (G : Sg P M mf p m v C a q) (H : Sg P M mf p m v C b r) (hC : C <= 100) (h : Q (C, JH p m v C (a ++ b), 0)) : Jig P M mf C a C b Q := by
 have h1 := G.q.len; have h2 := H.q.len; have h3 := Zw G.s; refine Ja6 ?_; rw [Jm5 G H rfl]; exact ⟨fun hh => absurd rfl hh, fun _ => w_sum G H.s H.e (by omega) (by omega) h⟩
def nul (p m v : Nat) (C : Int) (X : List (List Int)) : List (List Int) := JH p m v C (QX p m v C X)
theorem Jzu (hF : FV P M mf p m v) (hs : shp C X) (he : Els p m X) : nul p m v C (JH p m v C X) = nul p m v C X := by
 obtain ⟨h1, h2⟩ := Jjm hF hs he; unfold nul QX; rw [h1, h2]
theorem Qt (hF : FV P M mf p m v) (hs : shp C X) : Sg P M mf p m v C (nul p m v C X) fun i => (vo (JB p m v C (QX p m v C X)) i).toNat :=
 ⟨hF, Q2 (QR hs), QC hF (QS hF), Jgy hF (QR hs) (QS hF)⟩
theorem Jfn {Q : Int × List (List Int) × Int -> Prop} (hF : FV P M mf p m v) (hs : shp C X) (he : Els p m X) (h : Q (C, nul p m v C X, 0)) : YJ P M mf C X Q := by
 have h0 : mck P M mf C X = 0 := Jct ⟨p, m, v, hF⟩ hs ((QK hF).2 he); refine Jvg (fun hh => absurd h0 hh) fun p' m' v' hF' _ _ _ => ?_; obtain ⟨rfl, rfl, rfl⟩ := hF.uniq3 hF'; exact h
theorem w_Dual {q : Nat -> Nat} {Q : Int × List (List Int) × Int -> Prop} (G : Sg P M mf p m v C a q) (h : Q (C, nul p m v C a, 0)) : Jjv P M mf C a Q := by
 refine ZS ?_; rw [G.sck]; exact ⟨fun hh => absurd rfl hh, fun _ => Jfn G.f G.s G.e h⟩
theorem Jmq {q r : Nat -> Nat} {Q : Int × List (List Int) × Int -> Prop} (G : Sg P M mf p m v C a q) (H : Sg P M mf p m v C b r) (hC : C <= 100) (h : Q (C, nul p m v C (nul p m v C a ++ nul p m v C b), 0)) : Jen P M mf C a C b Q := by
 have G' := Qt (v := v) G.f G.s; have H' := Qt (v := v) H.f H.s; have h1 := G'.q.len; have h2 := H'.q.len; have h3 := Zw G.s; have hs := Qm G'.s H'.s (by omega); have he := Qq G'.e H'.e; refine Ja6 ?_; rw [Jm5 G H rfl]; refine ⟨fun hh => absurd rfl hh, fun _ => Jfn G.f G.s G.e ⟨fun hh => absurd rfl hh, fun _ => Jfn H.f H.s H.e ⟨fun hh => absurd rfl hh, fun _ => w_sum G' H'.s H'.e (by omega) (by omega) ⟨fun hh => absurd rfl hh, fun _ => Jfn G.f (Q2 hs) (QC G.f he) ?_⟩⟩⟩⟩; rw [Jzu G.f hs he]; exact h
noncomputable def wdk (P M : Int) (mf : List Int) (C : Int) (a : List (List Int)) (y : List Int) : Int := if sck P M mf C a ≠ 0 then sck P M mf C a else if (y.length : Int) ≠ C then 3 else mck P M mf C [y]
theorem Jep {y : List Int} {Q : Int -> Prop} (h : Q (wdk P M mf C a y)) : Y5 P M mf C a y Q := by
 unfold wdk at h; refine ZS ⟨fun h1 => by rwa [if_pos h1] at h, fun h1 => ⟨fun h2 => by rwa [if_neg h1, if_pos h2] at h, fun h2 => Jj6 (by rwa [if_neg h1, if_neg h2] at h)⟩⟩
theorem Jzn {y : List Int} (hC : 0 <= C /\ C <= 256) (hy : (y.length : Int) = C) : shp C [y] := Jf1 hC (by simp) fun t ht => by
 have : t = 0 := by simpa using ht
 subst this; show y.length = _; omega
theorem Jiz {y : List Int} : Els p m [y] ↔ Elr p m y := by unfold Els; simp
theorem Jyx {q : Nat -> Nat} {y : List Int} (G : Sg P M mf p m v C a q) : wdk P M mf C a y = vce p m y C.toNat := by
 have hC := Zw G.s; unfold wdk vce; rw [if_neg (fun hh => hh G.sck)]; by_cases h : (y.length : Int) = C
 .have hs := Jzn (y := y) hC h; rw [if_neg (fun hh => hh h), if_neg (fun hh => hh (by omega))]; by_cases he : Elr p m y
  .rw [if_neg (fun hh => hh he)]; exact Jct ⟨p, m, v, G.f⟩ hs ((QK G.f).2 (Jiz.2 he))
  .rw [if_pos he]; exact Je7 ⟨p, m, v, G.f⟩ hs fun hh => he (Jiz.1 ((QK G.f).1 hh))
 .rw [if_pos h, if_pos (by omega)]
theorem Ju9 {q : Nat -> Nat} {y : List Int} (G : Sg P M mf p m v C a q) (hy : y.length = C.toNat) (he : Elr p m y) : wdk P M mf C a y = 0 := by
 rw [Jyx G]; exact vce_ok hy he
theorem Jva {q : Nat -> Nat} {y : List Int} {Q : List (List Int) -> Prop} (G : Sg P M mf p m v C a q) (hy : y.length = C.toNat) (he : Elr p m y) (h : Q [rsd p m v q a y a.length]) : YF P M mf C a [y] Q :=
 Jc5 G.f G.s G.q (by simp) (fun t ht => by
  have : t = 0 := by simpa using ht
  subst this; exact hy) (Jiz.2 he) h
theorem w_Has {q : Nat -> Nat} {y : List Int} {Q : Bool × Int -> Prop} (G : Sg P M mf p m v C a q) (hy : y.length = C.toNat) (he : Elr p m y) (h1 : zr (rsd p m v q a y a.length) -> Q (true, 0)) (h2 : ¬ zr (rsd p m v q a y a.length) -> Q (false, 0)) : Jma P M mf C a y Q := by
 refine Jep ?_; rw [Ju9 G hy he]; have hC := Zw G.s; refine ⟨fun hh => absurd rfl hh, fun _ => Jva G hy he (Jhp (by simp) (fun t ht => ?_) (fun hz => h1 (hz 0 (by simp))) (fun hz => h2 fun hh => hz fun t ht => ?_))⟩
 .have : t = 0 := by simpa using ht
  subst this; show (rsd p m v q a y a.length).length <= _; rw [Zx]; omega
 .have : t = 0 := by simpa using ht
  subst this; exact hh
theorem Jvf {q : Nat -> Nat} {y : List Int} {Q : List Int × Int -> Prop} (G : Sg P M mf p m v C a q) (hy : y.length = C.toNat) (he : Elr p m y) (h : Q (rsd p m v q a y a.length, 0)) : Jdy P M mf C a y Q := by
 refine Jep ?_; rw [Ju9 G hy he]; exact ⟨fun hh => absurd rfl hh, fun _ => Jva G hy he ⟨⟨by omega, by simp⟩, h⟩⟩
theorem Jhe {q : Nat -> Nat} {y : List Int} {Q : List Int × Int -> Prop} (G : Sg P M mf p m v C a q) (hy : y.length = C.toNat) (he : Elr p m y) (h1 : zr (rsd p m v q a y a.length) -> Q (pkr y (pvl q a.length), 0)) (h2 : ¬ zr (rsd p m v q a y a.length) -> Q ([], 11)) : YW P M mf C a y Q := by
 have hl := QN G.s; refine w_Has G hy he (fun hz => ⟨fun hh => absurd rfl hh, fun _ => ⟨fun hb => (by cases hb), fun _ => Jj5 G.s G.q ?_⟩⟩) (fun hz => ⟨fun hh => absurd rfl hh, fun _ => ⟨fun _ => h2 hz, fun hb => by cases hb⟩⟩); refine ⟨fun x z => ∃ t : Nat, z = t /\ t <= a.length /\ x.length = a.length /\ ∀ j, j < a.length -> vo x j = if j < t then vo y (q j) else (q j : Int), fun _ z => (a.length - z).toNat, ⟨0, rfl, Nat.zero_le _, Zd _ _, fun j hj => by rw [if_neg (by omega), Jij hj]⟩, ?_⟩; rintro x _ ⟨t, rfl, ht, hx, hj⟩; dsimp only; rw [Zd, J3]; refine ⟨fun hlt => ?_, fun hge => ?_⟩
 .have htl : t < a.length := by omega
  have hq := G.q.lt t htl; rw [hj t htl, if_neg (by omega), J3]; refine ⟨⟨by omega, by omega⟩, ⟨by omega, by omega⟩, ⟨by omega, by omega⟩, JE (by omega) (by omega), ⟨t + 1, by push_cast; rfl, by omega, by rw [QM, List.length_set]; exact hx, fun j hj' => ?_⟩, by omega⟩; rw [QM, Qw]; by_cases e : t = j
  .subst e; rw [if_pos ⟨rfl, by omega⟩, if_pos (by omega)]
  .rw [if_neg (fun hh => e hh.1), hj j hj']; by_cases e2 : j < t
   .rw [if_pos e2, if_pos (by omega)]
   .rw [if_neg e2, if_neg (by omega)]
 .have : x = pkr y (pvl q a.length) := Yb (by rw [hx, Je5, Zd]) fun i hi => by
   rw [hj i (by omega), if_pos (by omega), Jms (by rw [Zd]; omega), Jij (by omega)]; rfl
  rw [this]; exact h1 hz
end Go.Proofs.YtngdhnijkgjhcaaGreat
set_option linter.unusedVariables false
set_option linter.unusedSimpArgs false
namespace Go.Proofs.YtngdhnijkgjhcaaGreat
variable {P M : Int} {mf : List Int} {p m v g w : Nat} {C Ca Cb : Int} {X Y a b : List (List Int)}
def rsg (s : List Int) (n : Int) : Prop := (∀ i, i < s.length -> 0 <= vo s i /\ vo s i < n) /\ ∀ i, i + 1 < s.length -> vo s i < vo s (i + 1)
theorem Jqf {s : List Int} {n : Int} (h : rsg s n) : ∀ d i, i + d + 1 < s.length -> vo s i < vo s (i + d + 1)
 | 0, i, hi => h.2 i hi
 | d + 1, i, hi => by
  have h1 := Jqf h d i (by omega); have h2 := h.2 (i + d + 1) (by omega); rw [show i + (d + 1) + 1 = i + d + 1 + 1 by omega]; omega
theorem Jzd {s : List Int} {n : Int} (h : rsg s n) : Asc n.toNat s := ⟨fun i hi => by have := h.1 i hi; omega, fun i j hij hj => by
 have := Jqf h (j - i - 1) i (by omega)
 rwa [show i + (j - i - 1) + 1 = j by omega] at this⟩
theorem Jy0 {s : List Int} {n : Int} {Q : Bool -> Prop} (hl : s.length <= 1000000) (h1 : rsg s n -> Q true) (h2 : ¬ rsg s n -> Q false) : Jfi s n Q := by
 refine ⟨fun last z => ∃ t : Nat, z = t /\ t <= s.length /\ (∀ i, i < t -> 0 <= vo s i /\ vo s i < n) /\ (∀ i, i + 1 < t -> vo s i < vo s (i + 1)) /\ (t = 0 -> last = -1) /\ ∀ u, t = u + 1 -> last = vo s u, fun _ z => (s.length - z).toNat, ⟨0, rfl, Nat.zero_le _, fun i hi => absurd hi (Nat.not_lt_zero i), fun i hi => absurd hi (Nat.not_lt_zero _), fun _ => rfl, fun u hu => by omega⟩, ?_⟩; rintro last _ ⟨t, rfl, ht, hr, ha, hl0, hl1⟩; dsimp only; rw [J3]; refine ⟨fun hlt => ⟨⟨by omega, by omega⟩, fun hle => h2 ?_, fun hgt => ⟨fun hn => h2 fun hh => ?_, fun hn => ⟨JE (by omega) (by omega), ⟨t + 1, by push_cast; rfl, by omega, fun i hi => ?_, fun i hi => ?_, fun h0 => by omega, fun u hu => ?_⟩, by omega⟩⟩⟩, fun hge => h1 ?_⟩
 .intro hh; rcases Nat.eq_zero_or_pos t with h0 | h0
  .have := hl0 h0; have := hh.1 t (by omega); omega
  .have e := hl1 (t - 1) (by omega); have := hh.2 (t - 1) (by omega); rw [show t - 1 + 1 = t by omega] at this; omega
 .have := hh.1 t (by omega); omega
 .by_cases e : i = t
  .subst e; refine ⟨?_, by omega⟩; rcases Nat.eq_zero_or_pos i with h0 | h0
   .have := hl0 h0; omega
   .have e := hl1 (i - 1) (by omega); have := hr (i - 1) (by omega); omega
  .exact hr i (by omega)
 .by_cases e : i + 1 = t
  .have e2 := hl1 i (by omega); rw [e]; omega
  .exact ha i (by omega)
 .rw [show u = t by omega]
 .have e : t = s.length := by omega
  subst e; exact ⟨hr, ha⟩
def Ze (s : List Int) (n : Nat) : List Int := ((List.range n).filter fun i => !(inP s i)).map fun i => ((i : Nat) : Int)
theorem Jd7 (s : List Int) (k : Nat) : Ze s (k + 1) = if inP s k then Ze s k else Ze s k ++ [(k : Int)] := by
 unfold Ze; rw [List.range_succ, List.filter_append, List.map_append]; cases h : inP s k <;> simp [h]
theorem Jf6 (s : List Int) : ∀ n, (Ze s n).length <= n
 | 0 => Nat.le_refl _
 | n + 1 => by
  rw [Jd7]; have := Jf6 s n; split
  .omega
  .rw [List.length_append]; simp; omega
theorem Jwi (s : List Int) : ∀ n, ∀ x ∈ Ze s n, 0 <= x /\ x < (n : Int) := fun n x hx => by
 obtain ⟨i, hi, rfl⟩ := List.mem_map.1 hx; have := List.mem_range.1 (List.mem_filter.1 hi).1; omega
theorem Jrz {s : List Int} {n : Int} {Q : List Int -> Prop} (hl : s.length <= 1000000) (hs : rsg s n) (hn : n <= 1000) (h : Q (Ze s n.toNat)) : Jb6 s n Q := by
 refine ⟨fun x z => ∃ t : Nat, z = t /\ t <= n.toNat /\ x = Ze s t, fun _ z => (n - z).toNat, ⟨0, rfl, Nat.zero_le _, rfl⟩, ?_⟩; rintro _ _ ⟨t, rfl, ht, rfl⟩; dsimp only; refine ⟨fun hlt => ?_, fun hge => ?_⟩
 case refine_2 =>
  have e : t = n.toNat := by omega
  subst e; exact h
 have hol := Jf6 s t; refine ⟨fun y _ _ => y = Ze s (t + 1), Jj2 hl (Jzd hs) (fun i hex => ⟨fun hb => (by cases hb), fun _ => ?_⟩) (fun i hex => ⟨fun _ => ⟨by omega, ?_⟩, fun hb => by cases hb⟩), ?_⟩
 .rw [Jd7, if_pos (Jaq.2 hex)]
 .rw [Jd7, if_neg (fun hh => hex (Jaq.1 hh))]
 .rintro y _ _ rfl; exact ⟨JE (by omega) (by omega), ⟨t + 1, by push_cast; rfl, by omega, rfl⟩, by omega⟩
theorem Jxs (s : List Int) (hC : 0 <= C) : bad C (Ze s C.toNat) = false := by
 unfold bad; rw [List.any_eq_false]; intro x hx; have := Jwi s C.toNat x hx; rw [if_neg (by omega), decide_eq_true_eq]; omega
theorem Jzk (hs : shp C X) {s : List Int} (hl : s.length <= 256) : shp (s.length : Int) (pks X s) :=
 Jf1 (by omega) (by rw [Jda]; exact QN hs) fun t ht => by rw [Jda] at ht; rw [Jiu ht, Je5]; omega
theorem Jzl (hF : FV P M mf p m v) (he : Els p m X) (s : List Int) : Els p m (pks X s) := Jas fun t ht => by
 rw [Jda] at ht; rw [Jiu ht]; exact Jjf fun i hi => by rw [Je5] at hi; rw [Jms hi]; exact Jat hF (JZ he t) _
def spt (p m v : Nat) (C : Int) (a : List (List Int)) (s : List Int) : List (List Int) := mm p m v C.toNat (nul p m v (a.length : Int) (tr (Ze s C.toNat).length (pks a (Ze s C.toNat)))) a
theorem Jj9 {q : Nat -> Nat} {s : List Int} {Q : Int × List (List Int) × Int -> Prop} (G : Sg P M mf p m v C a q) (hl : s.length <= 1000000) (h1 : rsg s C -> Q (C, spt p m v C a s, 0)) (h2 : ¬ rsg s C -> Q (0, [], 6)) : ZL P M mf C a s Q := by
 have hC := Zw G.s; have hol := Jf6 s C.toNat; have hal := QN G.s; refine ZS ?_; rw [G.sck]; refine ⟨fun hh => absurd rfl hh, fun _ => Jy0 hl (fun hs => ⟨fun hb => (by cases hb), fun _ => ?_⟩) (fun hs => ⟨fun _ => h2 hs, fun hb => by cases hb⟩)⟩; have hsP := Jzk G.s (s := Ze s C.toNat) (by omega); have heP := Jzl G.f G.e (Ze s C.toNat); have e0 : colR P M mf C a (Ze s C.toNat) = ((((Ze s C.toNat).length : Nat) : Int), pks a (Ze s C.toNat), (0 : Int)) := by
  unfold colR; rw [if_neg (fun hh => hh G.mk0), if_neg (by omega), if_neg (by rw [Jxs s hC.1]; decide)]
 refine ⟨fun c x e => c = ((Ze s C.toNat).length : Int) /\ x = pks a (Ze s C.toNat) /\ e = 0, ⟨Ze s C.toNat, Jrz hl hs (by omega) rfl, (((Ze s C.toNat).length : Nat) : Int), pks a (Ze s C.toNat), 0, Jr1 (fun c Z e he => by rw [<- he, e0]), rfl, rfl, rfl⟩, ?_⟩; rintro c x e ⟨rfl, rfl, rfl⟩; refine ⟨fun hh => absurd rfl hh, fun _ => ?_⟩; have hm : mck P M mf ((Ze s C.toNat).length : Int) (pks a (Ze s C.toNat)) = 0 := Jct ⟨p, m, v, G.f⟩ hsP ((QK G.f).2 heP); refine Jj8 (fun hh => absurd hm hh) fun p' m' v' hF' _ _ _ => ?_; obtain ⟨rfl, rfl, rfl⟩ := G.f.uniq3 hF'; have hsT := tr_shp hsP; have heT := tr_els hsP heP; rw [Jda] at hsT ⊢; refine ⟨fun hh => absurd rfl hh, fun _ => Jfn G.f hsT heT ⟨fun hh => absurd rfl hh, fun _ => ?_⟩⟩; have GN := Qt (v := v) G.f hsT; refine w_mMul (fun e hne hor => ?_) fun p' m' v' hF' _ _ _ _ _ => ?_
 .rcases hor with h | h | h
  .exact absurd GN.mk0 h
  .exact absurd G.mk0 h
  .exact absurd rfl h
 .obtain ⟨rfl, rfl, rfl⟩ := G.f.uniq3 hF'; exact h1 hs
end Go.Proofs.YtngdhnijkgjhcaaGreat
set_option linter.unusedVariables false
set_option linter.unusedSimpArgs false
namespace Go.Proofs.YtngdhnijkgjhcaaGreat
variable {P M : Int} {mf : List Int} {p m v g w : Nat} {C Ca Cb : Int} {X Y a b : List (List Int)}
def B2 : List (List Int) := [[1, 0, 1], [0, 1, 1]]
def B1 : List (List Int) := [[1, 0, 0]]
def U3 : List (List Int) := [[1, 0, 0], [0, 1, 0], [0, 0, 1]]
theorem Jxh {q : Nat -> Nat} (h : (X.all fun r => decide (r.length = w)) = true) (h1 : ((List.range X.length).all fun i => decide (q i < w /\ (∀ t, t < X.length -> vo (row X t) (q i) = if t = i then 1 else 0) /\ (∀ c, c < q i -> vo (row X i) c = 0) /\ ∀ j, j < X.length -> i < j -> q i < q j)) = true) : Cnl w X q := by
 have g := fun i (hi : i < X.length) => of_decide_eq_true (List.all_eq_true.1 h1 i (List.mem_range.2 hi)); exact ⟨fun i hi => (g i hi).1, fun i hi t ht => (g i hi).2.1 t ht, fun i hi c hc => (g i hi).2.2.1 c hc, fun i j hij hj => (g i (by omega)).2.2.2 j hj hij⟩
theorem sg2 : Sg 2 1 [] 2 1 0 3 B2 id := ⟨fv2, ⟨by decide, by decide, by decide, by decide⟩, by unfold Els Elr; decide, Jxh (by decide) (by decide)⟩
theorem sg1 : Sg 2 1 [] 2 1 0 3 B1 id := ⟨fv2, ⟨by decide, by decide, by decide, by decide⟩, by unfold Els Elr; decide, Jxh (by decide) (by decide)⟩
theorem sgU : Sg 2 1 [] 2 1 0 3 U3 id := ⟨fv2, ⟨by decide, by decide, by decide, by decide⟩, by unfold Els Elr; decide, Jxh (by decide) (by decide)⟩
theorem evs1 : JH 2 1 0 3 (B2 ++ B1) = U3 := by decide +kernel
theorem evs2 : nul 2 1 0 3 (nul 2 1 0 3 B2 ++ nul 2 1 0 3 B1) = [] := by decide +kernel
theorem evs3 : nul 2 1 0 3 B2 = [[1, 1, 1]] := by decide +kernel
theorem evs4 : rsd 2 1 0 id B2 [1, 1, 0] 2 = [0, 0, 0] := by decide +kernel
theorem evs5 : rsd 2 1 0 id B2 [1, 0, 0] 2 = [0, 0, 1] := by decide +kernel
theorem evs6 : JH 2 1 0 3 (rdl 2 1 0 id B1 U3) = [[0, 1, 0], [0, 0, 1]] := by decide +kernel
theorem evs7 : spt 2 1 0 3 B2 [1, 2] = [[0, 1, 1]] := by decide +kernel
theorem evs8 : rsd 2 1 0 id U3 [1, 0, 0] 3 = [0, 0, 0] := by decide +kernel
theorem in_U3 : ain 2 1 0 id U3 B1 := fun t ht => by
 have : t = 0 := by simpa [B1] using ht
 subst this; show zr (rsd 2 1 0 id U3 [1, 0, 0] 3); rw [evs8]; unfold zr; decide
theorem rsg_12 : rsg [1, 2] 3 := ⟨by decide, fun i hi => by
 have : i = 0 := by simp at hi; omega
 subst this; decide⟩
theorem Jp0 {Q : Bool -> Prop} (h : Q true) : Jb9 Q := by
 have z1 : zr (rsd 2 1 0 id B2 [1, 1, 0] B2.length) := by show zr (rsd 2 1 0 id B2 [1, 1, 0] 2); rw [evs4]; unfold zr; decide
 have z2 : ¬ zr (rsd 2 1 0 id B2 [1, 0, 0] B2.length) := by show ¬ zr (rsd 2 1 0 id B2 [1, 0, 0] 2); rw [evs5]; unfold zr; decide
 refine Jve (a := B2) (b := B1) sg2 sg1 (by decide) ?_; rw [evs1]; refine Jmq (a := B2) (b := B1) sg2 sg1 (by decide) ?_; rw [evs2]; refine w_Dual (a := B2) sg2 ?_; rw [evs3]; refine Jhe (a := B2) sg2 rfl (by unfold Elr; decide) (fun _ => ?_) (fun hh => absurd z1 hh); refine Jvf (a := B2) sg2 rfl (by unfold Elr; decide) ?_; rw [show rsd 2 1 0 id B2 [1, 0, 0] B2.length = [0, 0, 1] from evs5]; refine Jmp (a := B1) (b := U3) sg1 sgU (fun _ => ?_) (fun hh => absurd in_U3 hh); rw [evs6]; refine Jj9 (a := B2) (s := [1, 2]) sg2 (by decide) (fun _ => ?_) (fun hh => absurd rsg_12 hh); rw [evs7]; refine w_Has (a := B2) sg2 rfl (by unfold Elr; decide) (fun hh => absurd hh z2) (fun _ => ?_); refine Jfo (a := B1) (b := U3) sg1 sgU (fun _ => ?_) (fun hh => absurd in_U3 hh); refine ⟨fun b => b = true, ⟨fun _ => ⟨fun _ => ⟨fun _ => ⟨fun _ => ⟨fun _ => ⟨fun _ => ⟨fun _ => ⟨fun _ => rfl, fun h => absurd rfl h⟩, fun h => absurd rfl h⟩, fun h => absurd rfl h⟩, fun h => absurd rfl h⟩, fun h => absurd rfl h⟩, fun h => absurd rfl h⟩, fun h => absurd rfl h⟩, fun h => absurd rfl h⟩, fun b hb => ⟨hb, _, Jyy (by decide) rfl, Za (by decide) (by decide) (fun _ => rfl) (fun hh => absurd (by decide) hh), rfl, rfl, Za (by decide) (by decide) (fun _ => rfl) (fun hh => absurd rfl hh), Zb (by decide) (fun _ => rfl) (fun hh => absurd (by decide) hh), Zb (by decide) (fun _ => rfl) (fun hh => absurd rfl hh), Za (by decide) (by decide) (fun _ => rfl) (fun hh => absurd rfl hh), Za (by decide) (by decide) (fun _ => rfl) (fun hh => absurd rfl hh), rfl, rfl, _, ZS rfl, ?_⟩⟩; rw [show sck 2 1 [] 3 U3 = 0 from sgU.sck]; exact h
end Go.Proofs.YtngdhnijkgjhcaaGreat
set_option linter.unusedVariables false
set_option linter.unusedSimpArgs false
namespace Go.Proofs.YtngdhnijkgjhcaaGreat
variable {P M : Int} {mf : List Int} {p m v g w : Nat} {C Ca Cb : Int} {X Y a b : List (List Int)}
theorem Jbz (hF : FV P M mf p m v) {u x : Nat -> Nat} (hu : ∀ c, u c < p ^ m) (hx : ∀ c, x c < p ^ m) : dt p m v w u x = dt p m v w x u := Jcn w fun c _ => hF.ring.Mc (hu c) (hx c)
theorem Jra {n : Nat} (R : List (List Int)) (pv : List Int) : ∀ k c, c < k -> ¬ inP pv c = true -> ∃ j, j < (bas p m n R pv k).length /\ row (bas p m n R pv k) j = YM p m n R pv c pv.length
 | 0, c, h, _ => absurd h (Nat.not_lt_zero c)
 | k + 1, c, h, hc => by
  rw [Zs]; by_cases e : c = k
  .subst e; rw [if_neg hc]; refine ⟨(bas p m n R pv c).length, by simp, ?_⟩; rw [Jiv, if_neg (by omega), if_pos rfl]
  .obtain ⟨j, h1, h2⟩ := Jra (n := n) R pv k c (by omega) hc; split
   .exact ⟨j, h1, h2⟩
   .exact ⟨j, by rw [List.length_append]; simp; omega, by rw [Jiv, if_pos h1]; exact h2⟩
theorem Js7 (hs : shp C Y) : ∃ fc : Nat -> Nat, (∀ j, j < (QX p m v C Y).length -> fc j < C.toNat) /\ (∀ j, j < (QX p m v C Y).length -> ∀ i, i < (QX p m v C Y).length -> vo (row (QX p m v C Y) i) (fc j) = if i = j then 1 else 0) /\ ∀ c, c < C.toNat -> (∀ i, i < (JB p m v C Y).length -> (vo (JB p m v C Y) i).toNat ≠ c) -> ∃ j, j < (QX p m v C Y).length /\ fc j = c := by
  obtain ⟨fc, h1, h2⟩ := Z1 (p := p) (m := m) (n := C.toNat) (JH p m v C Y) (JB p m v C Y) C.toNat
  have hnp : ∀ c, ¬ inP (JB p m v C Y) c = true -> ∀ i, i < (JB p m v C Y).length -> (vo (JB p m v C Y) i).toNat ≠ c := fun c hc i hi e => by
    have h3 := Jeg hc i hi
    have h4 := ZZ (p := p) (m := m) (v := v) hs hi
    omega
  refine ⟨fc, fun j hj => (h1 j hj).1, fun j hj i hi => ?_, fun c hc hfree => ?_⟩
  . have e := (h1 i hi).2.2
    show vo (row (bas p m C.toNat (JH p m v C Y) (JB p m v C Y) C.toNat) i) (fc j) = _
    rw [e]
    by_cases hij : i = j
    . subst hij; rw [if_pos rfl]; exact Jhv (h1 i hi).1 _ (hnp _ (h1 i hi).2.1)
    . rw [if_neg hij]
      refine Jba (fun e2 => ?_) _ (hnp _ (h1 j hj).2.1)
      rcases Nat.lt_or_gt_of_ne hij with h | h
      . have := h2 i j h hj; omega
      . have := h2 j i h hi; omega
  . have hfr : ¬ inP (JB p m v C Y) c = true := fun hh => by
      obtain ⟨i, hi, e⟩ := Jaq.1 hh
      exact hfree i hi (by rw [e]; simp)
    obtain ⟨j, hj, e⟩ := Jra (p := p) (m := m) (n := C.toNat) (JH p m v C Y) (JB p m v C Y) C.toNat c hc hfr
    refine ⟨j, hj, ?_⟩
    have e2 := (h1 j hj).2.2
    rw [e] at e2
    have t1 : vo (YM p m C.toNat (JH p m v C Y) (JB p m v C Y) c (JB p m v C Y).length) c = 1 := Jhv hc _ (hnp c hfr)
    rcases Nat.decEq (fc j) c with hne | heq
    . rw [e2, Jba (fun hh => hne hh.symm) _ (hnp c hfr)] at t1; exact absurd t1 (by decide)
    . exact heq
theorem Jkv (hF : FV P M mf p m v) : inE (p ^ m) 1 = 1 := Qp (x := 1) (by have := hF.ring.q2; omega)
theorem Jbt (hF : FV P M mf p m v) (hs : shp C Y) (he : Els p m Y) {u : List Int} (hu : u.length = C.toNat) (hue : Elr p m u) (h : ∀ t, t < Y.length -> dt p m v C.toNat (en p m u) (en p m (row Y t)) = 0) : Sp p m v C.toNat (QX p m v C Y) u := by
  have R := hF.ring
  have hq : 1 < p ^ m := by have := R.q2; omega
  have hp : 0 < p := by have := hF.p2; omega
  obtain ⟨fc, f1, f2, f3⟩ := Js7 (p := p) (m := m) (v := v) hs
  have hB := QR (p := p) (m := m) (v := v) hs
  intro f L hf
  have hcl := Qg (p := p) (m := m) (v := v) hs
  rw [<- Jac hF L hu hf (QX p m v C Y).length (Nat.le_refl _) (Q := fc)]
  have hwe := Zy (v := v) hp fc hue (X := QX p m v C Y) (QX p m v C Y).length
  have hwl : (rsd p m v fc (QX p m v C Y) u (QX p m v C Y).length).length = C.toNat := by rw [Zx, hu]
  have hz : ∀ j, j < (QX p m v C Y).length -> vo (rsd p m v fc (QX p m v C Y) u (QX p m v C Y).length) (fc j) = 0 := fun j hj => Jko hF f1 f2 hu hue hj
  -- orthogonal to the rows
  have ho : ∀ t, t < Y.length -> dt p m v C.toNat (en p m (rsd p m v fc (QX p m v C Y) u (QX p m v C Y).length)) (en p m (row Y t)) = 0 := fun t ht => by
    rw [Jbz hF (JQ hF _) (JQ hF _)]
    have Lt := ZO (w := C.toNat) hF (JQ hF (row Y t))
    have hA : Ann p m (dt p m v C.toNat (en p m (row Y t))) (QX p m v C Y) := (Qh hF hB (QS hF) Lt).1 (Jdo hF hs he ht)
    rw [Jac hF Lt hu hA _ (Nat.le_refl _), Jbz hF (JQ hF _) (JQ hF _)]
    exact h t ht
  generalize rsd p m v fc (QX p m v C Y) u (QX p m v C Y).length = W at hwe hwl hz ho ⊢
  have hA2 : Ann p m (dt p m v C.toNat (en p m W)) (JH p m v C Y) := (Qh hF hs he (ZO hF (JQ hF W))).2 ho
  have hfree : ∀ c, c < C.toNat -> (∀ i, i < (JB p m v C Y).length -> (vo (JB p m v C Y) i).toNat ≠ c) -> en p m W c = 0 := fun c hc hfr => by
    obtain ⟨j, hj, e⟩ := f3 c hc hfr
    have := hz j hj
    rw [e] at this
    unfold en; rw [this, Jgl hF]
  refine Jlb hF L fun c hc => ?_
  by_cases hpv : ∃ i, i < (JB p m v C Y).length /\ (vo (JB p m v C Y) i).toNat = c
  . obtain ⟨i, hi, rfl⟩ := hpv
    have h1 := hA2 i (by omega)
    have h2 : dt p m v C.toNat (en p m W) (en p m (row (JH p m v C Y) i)) = Ju p m (dv p v) (en p m W (vo (JB p m v C Y) i).toNat) (en p m (row (JH p m v C Y) i) (vo (JB p m v C Y) i).toNat) := by
      refine Zq hF (f := fun c => Ju p m (dv p v) (en p m W c) (en p m (row (JH p m v C Y) i) c)) (R.Ml _ _) C.toNat hc fun c' hc' hne => ?_
      show Ju p m (dv p v) (en p m W c') (en p m (row (JH p m v C Y) i) c') = 0
      by_cases hpv2 : ∃ i', i' < (JB p m v C Y).length /\ (vo (JB p m v C Y) i').toNat = c'
      . obtain ⟨i', hi', rfl⟩ := hpv2
        have hii : i ≠ i' := fun e => hne (by rw [e])
        have : en p m (row (JH p m v C Y) i) (vo (JB p m v C Y) i').toNat = 0 := by
          unfold en; rw [Q1 hF hs he hi' hi, if_neg hii, Jgl hF]
        rw [this, R.M0 (JQ hF _ _)]
      . rw [hfree c' hc' fun i' hi' e => hpv2 ⟨i', hi', e⟩, R.Mc (by omega) (JQ hF _ _), R.M0 (JQ hF _ _)]
    rw [h2] at h1
    have h3 : en p m (row (JH p m v C Y) i) (vo (JB p m v C Y) i).toNat = 1 := by
      unfold en; rw [Q1 hF hs he hi hi, if_pos rfl, Jkv hF]
    rw [h3, R.M1 (JQ hF _ _)] at h1
    exact h1
  . exact hfree c hc fun i hi e => hpv ⟨i, hi, e⟩
theorem Qae {n : Nat} {a b : List Int} (ha : Asc n a) (hb : Asc n b) (hl : a.length = b.length) (h : ∀ t, t < a.length -> ∃ j, j < b.length /\ vo b j = vo a t) : a = b := by
  have hmono : ∀ i j, i < b.length -> j < b.length -> vo b i < vo b j -> i < j := fun i j hi hj hv => by
    rcases Nat.lt_trichotomy i j with h1 | h1 | h1
    . exact h1
    . subst h1; omega
    . have := hb.2 j i h1 hi; omega
  have lo : ∀ t j, t < a.length -> j < b.length -> vo b j = vo a t -> t <= j := by
    intro t
    induction t with
    | zero => intro j _ _ _; exact Nat.zero_le _
    | succ t ih =>
      intro j ht hj e
      obtain ⟨j', hj', e'⟩ := h t (by omega)
      have h1 := ih j' (by omega) hj' e'
      have h2 := ha.2 t (t + 1) (by omega) ht
      have h3 := hmono j' j hj' hj (by omega)
      omega
  have hi : ∀ d t j, t + d + 1 = a.length -> j < b.length -> vo b j = vo a t -> j <= t := by
    intro d
    induction d with
    | zero => intro t j ht hj _; omega
    | succ d ih =>
      intro t j ht hj e
      obtain ⟨j', hj', e'⟩ := h (t + 1) (by omega)
      have h1 := ih (t + 1) j' (by omega) hj' e'
      have h2 := ha.2 t (t + 1) (by omega) (by omega)
      have h3 := hmono j j' hj hj' (by omega)
      omega
  refine Yb hl fun t ht => ?_
  obtain ⟨j, hj, e⟩ := h t ht
  have h1 := lo t j ht hj e
  have h2 := hi (a.length - t - 1) t j (by omega) hj e
  rw [<- e, show j = t by omega]
theorem Jq9 (hF : FV P M mf p m v) (hX : shp C X) (eX : Els p m X) (hY : shp C Y) (eY : Els p m Y) (h : ∀ f, Lin p m v C.toNat f -> Ann p m f Y -> Ann p m f X) (hr : (JB p m v C X).length = (JB p m v C Y).length) : JH p m v C X = JH p m v C Y := by
  have R := hF.ring
  have hP : JB p m v C X = JB p m v C Y := Qae (Qs C X) (Qs C Y) hr (Jm6 hF hX eX hY eY h)
  have lX := Qg (p := p) (m := m) (v := v) hX
  have lY := Qg (p := p) (m := m) (v := v) hY
  refine Jqv (w := C.toNat) (by omega) (QC hF eX) (QC hF eY) (fun t ht => ⟨Jdn hX ht, Jdn hY (by omega)⟩) fun t c ht hc => ?_
  rw [Je9 hF hY eY (a := en p m (row (JH p m v C X) t)) (JQ hF _) (fun f L hf => (Qh hF hX eX L).2 (h f L ((Qh hF hY eY L).1 hf)) t ht) hc]
  refine (Zq hF (f := fun i => Ju p m (dv p v) (en p m (row (JH p m v C X) t) (vo (JB p m v C Y) i).toNat) (en p m (row (JH p m v C Y) i) c)) (j := t) (R.Ml _ _) _ (by omega) fun i hi hne => ?_).trans ?_
  . show Ju p m (dv p v) (inE (p ^ m) (vo (row (JH p m v C X) t) (vo (JB p m v C Y) i).toNat)) _ = 0
    rw [<- hP, Q1 hF hX eX (by omega) (by omega), if_neg (fun e => hne e.symm), Jgl hF, R.Mc (by have := R.q2; omega) (JQ hF _ _), R.M0 (JQ hF _ _)]
  . show Ju p m (dv p v) (inE (p ^ m) (vo (row (JH p m v C X) t) (vo (JB p m v C Y) t).toNat)) _ = _
    rw [<- hP, Q1 hF hX eX (by omega) (by omega), if_pos rfl, Jkv hF, R.Mc (by have := R.q2; omega) (JQ hF _ _), R.M1 (JQ hF _ _)]
theorem Jbu (hF : FV P M mf p m v) (hs : shp C Y) (he : Els p m Y) : (nul p m v C Y).length + (JB p m v C Y).length = C.toNat := Jxr hF hs he
theorem Jlx (hF : FV P M mf p m v) (hs : shp C Y) (he : Els p m Y) : (JB p m v C (JH p m v C Y)).length = (JH p m v C Y).length := by
 rw [(Jjm hF hs he).2, Qg hs]
theorem dd (hF : FV P M mf p m v) (hs : shp C Y) (he : Els p m Y) : nul p m v C (nul p m v C Y) = JH p m v C Y := by
  have G1 := Qt (v := v) hF hs
  have hB1 := QR (p := p) (m := m) (v := v) hs
  have hB2 := QR (p := p) (m := m) (v := v) G1.s
  have e1 := Jbu hF hs he
  have e2 := Jbu hF G1.s G1.e
  have e3 : (JB p m v C (nul p m v C Y)).length = (nul p m v C Y).length := Jlx hF hB1 (QS hF)
  have e4 : (JB p m v C (nul p m v C (nul p m v C Y))).length = (nul p m v C (nul p m v C Y)).length := Jlx hF hB2 (QS hF)
  have G2 := Qt (v := v) hF G1.s
  have key := Jq9 hF hs he G2.s G2.e (fun f L hf => ?_) (by omega)
  . rw [key]; exact (Jjm hF hB2 (QS hF)).1.symm
  . have hf2 : Ann p m f (QX p m v C (nul p m v C Y)) := (Qh hF hB2 (QS hF) L).1 hf
    intro t ht
    exact Jbt hF G1.s G1.e (JU hs ht) (JZ he t) (fun s hs' => by
      have := Jdo hF hs he ht s hs'
      exact this) f L hf2
end Go.Proofs.YtngdhnijkgjhcaaGreat
set_option linter.unusedVariables false
set_option linter.unusedSimpArgs false
namespace Go.Proofs.YtngdhnijkgjhcaaGreat
variable {P M : Int} {mf : List Int} {p m v g w : Nat} {C Ca Cb : Int} {X Y a b : List (List Int)}
theorem Jdm (hF : FV P M mf p m v) {q : Nat -> Nat} (hs : shp C X) (he : Els p m X) (hq : Cnl C.toNat X q) : (JB p m v C X).length = X.length := by
 rw [(ZH hF hs he hq).2]; simp
theorem at_lin (hF : FV P M mf p m v) (c : Nat) : Lin p m v w (dt p m v w fun i => if i = c then 1 else 0) := ZO hF fun i => by
  have := hF.ring.q2
  split <;> omega
theorem at_eq (hF : FV P M mf p m v) {c : Nat} (hc : c < w) (l : List Int) : dt p m v w (fun i => if i = c then 1 else 0) (en p m l) = en p m l c := by
 have R := hF.ring; have hq : 1 < p ^ m := by have := R.q2; omega
 refine (Zq hF (f := fun i => Ju p m (dv p v) (if i = c then 1 else 0) (en p m l i)) (j := c) (R.Ml _ _) w hc fun i hi hne => ?_).trans ?_
 .show Ju p m (dv p v) (if i = c then 1 else 0) _ = 0; rw [if_neg hne, R.Mc (by omega) (JQ hF _ _), R.M0 (JQ hF _ _)]
 .show Ju p m (dv p v) (if c = c then 1 else 0) _ = _; rw [if_pos rfl, R.Mc (by omega) (JQ hF _ _), R.M1 (JQ hF _ _)]
theorem Jxt (hF : FV P M mf p m v) {c : Nat} (hc : c < w) (hE : Els p m X) : Ann p m (dt p m v w fun i => if i = c then 1 else 0) X ↔ ∀ t, t < X.length -> vo (row X t) c = 0 := by
 unfold Ann; refine ⟨fun h t ht => ?_, fun h t ht => ?_⟩
 .have := h t ht; rw [at_eq hF hc] at this; exact (Jh7 hF (Jat hF (JZ hE t) c)).1 this
 .rw [at_eq hF hc]; exact (Jh7 hF (Jat hF (JZ hE t) c)).2 (h t ht)
theorem Jwd (hF : FV P M mf p m v) {q : Nat -> Nat} {A B : List (List Int)} (hq : Cnl C.toNat A q) (hB : shp C B) (eB : Els p m B) {j : Nat} (hj : j < A.length) : ∀ t, t < (JH p m v C (rdl p m v q A B)).length -> vo (row (JH p m v C (rdl p m v q A B)) t) (q j) = 0 := by
  have h1 := ZB (p := p) (m := m) (v := v) (q := q) (X := A) hB
  have h2 := Jag (X := A) (q := q) hF eB
  have hc := hq.lt j hj
  refine (Jxt hF hc (QC hF h2)).1 ((Qh hF h1 h2 (at_lin hF (q j))).2 ((Jxt hF hc h2).2 fun t ht => ?_))
  rw [Jaf] at ht
  rw [Zc ht]
  exact Jir hF hq (JU hB ht) (JZ eB t) hj
theorem Jqg {Q : Nat -> Nat} {u : List Int} {c : Nat} : ∀ k, (∀ s, s < k -> vo (row X s) c = 0) -> vo (rsd p m v Q X u k) c = vo u c
 | 0, _ => rfl
 | k + 1, h => by rw [rsd, Jp3 (h k (by omega)), Jqg k fun s hs => h s (by omega)]
theorem qdim {q r : Nat -> Nat} {A B : List (List Int)} (G : Sg P M mf p m v C A q) (H : Sg P M mf p m v C B r) (hC : C <= 100) (h : ∀ f, Lin p m v C.toNat f -> Ann p m f B -> Ann p m f A) : A.length + (JH p m v C (rdl p m v q A B)).length = B.length := by
  have hF := G.f
  have h1 := ZB (p := p) (m := m) (v := v) (q := q) (X := A) H.s
  have h2 := Jag (X := A) (q := q) hF H.e
  have hE := Q2 (p := p) (m := m) (v := v) h1
  have eE := QC (C := C) hF h2
  have cE := Jgy hF h1 h2
  have hz := fun j hj => Jwd (v := v) hF G.q H.s H.e (j := j) hj
  have hAl := G.q.len
  have hEl := Jjl hF h1 h2
  have hBr := Jdm hF H.s H.e H.q
  have kE : ∀ f, Lin p m v C.toNat f -> Ann p m f A -> (Ann p m f (JH p m v C (rdl p m v q A B)) ↔ Ann p m f B) := fun f L hA => (Qh hF h1 h2 L).trans (Jdp hF L (fun t ht => JU H.s ht) hA)
  generalize JH p m v C (rdl p m v q A B) = E at hE eE cE hz hEl kE ⊢
  generalize (fun i => (vo (JB p m v C (rdl p m v q A B)) i).toNat) = qe at cE
  refine Nat.le_antisymm ?_ ?_
  . -- A reduced by E, and E
    have hsA := ZB (p := p) (m := m) (v := v) (q := qe) (X := E) G.s
    have heA := Jag (X := E) (q := qe) hF G.e
    have hl : (rdl p m v qe E A).length = A.length := Jaf _ _ _
    have hsD := Qm hsA hE (by omega)
    have heD := Qq heA eE
    have hfull := Jlw hF hsD heD (fun j => if j < A.length then q j else qe (j - A.length)) (fun j hj => ?_) (fun i j hi hj => ?_)
    . have hle := Jiw hF hsD H.s heD H.e (fun f L hB => ?_)
      . rw [hfull, hBr, List.length_append, hl] at hle; exact hle
      . have hA := h f L hB
        have hE' : Ann p m f E := (kE f L hA).2 hB
        exact QO.2 ⟨(Jdp hF L (fun t ht => JU G.s ht) hE').2 hA, hE'⟩
    . rw [List.length_append, hl] at hj
      split
      . exact G.q.lt j (by assumption)
      . exact cE.lt _ (by omega)
    . rw [List.length_append, hl] at hi hj
      rw [ZA, hl]
      by_cases hjA : j < A.length
      . rw [if_pos hjA]
        by_cases hiA : i < A.length
        . rw [if_pos hiA, Zc hiA, Jqg _ (hz j hjA)]
          exact G.q.one j hjA i hiA
        . rw [if_neg hiA, if_neg (by omega)]
          exact hz j hjA _ (by omega)
      . rw [if_neg hjA]
        by_cases hiA : i < A.length
        . rw [if_pos hiA, if_neg (by omega), Zc hiA]
          exact Jir hF cE (JU G.s hiA) (JZ G.e i) (by omega)
        . rw [if_neg hiA, cE.one (j - A.length) (by omega) (i - A.length) (by omega)]
          by_cases e : i = j
          . rw [if_pos e, if_pos (by omega)]
          . rw [if_neg e, if_neg (by omega)]
  . have hsD := Qm G.s hE (by omega)
    have heD := Qq G.e eE
    have hle := Jiw hF H.s hsD H.e heD (fun f L hD => by
      obtain ⟨u1, u2⟩ := QO.1 hD
      exact (kE f L u1).1 u2)
    have := Ye (p := p) (m := m) (v := v) hsD
    rw [List.length_append] at this
    omega
theorem Ji8 (hF : FV P M mf p m v) {q r : Nat -> Nat} (G : Sg P M mf p m v C a q) (H : Sg P M mf p m v C b r) (hC : C <= 100) {f : (Nat -> Nat) -> Nat} (L : Lin p m v C.toNat f) : (Ann p m f a -> Ann p m f (nul p m v C (nul p m v C a ++ nul p m v C b))) /\ (Ann p m f b -> Ann p m f (nul p m v C (nul p m v C a ++ nul p m v C b))) := by
  have G1 := Qt (v := v) G.f G.s
  have H1 := Qt (v := v) H.f H.s
  have g1 := G1.q.len; have g2 := H1.q.len; have hc := Zw G.s
  have hs := Qm G1.s H1.s (by omega)
  have he := Qq G1.e H1.e
  have N := Qt (v := v) hF hs
  have key : ∀ (d : List (List Int)) (qd : Nat -> Nat), Sg P M mf p m v C d qd -> (∀ u : List Int, (∀ s, s < (nul p m v C a ++ nul p m v C b).length -> dt p m v C.toNat (en p m u) (en p m (row (nul p m v C a ++ nul p m v C b) s)) = 0) -> ∀ s, s < (nul p m v C d).length -> dt p m v C.toNat (en p m u) (en p m (row (nul p m v C d) s)) = 0) -> Ann p m f d -> Ann p m f (nul p m v C (nul p m v C a ++ nul p m v C b)) := fun d qd D hin hf t ht => by
    have D1 := Qt (v := v) D.f D.s
    have hd : nul p m v C (nul p m v C d) = d := (dd D.f D.s D.e).trans (ZH D.f D.s D.e D.q).1
    have hf2 : Ann p m f (nul p m v C (nul p m v C d)) := by rw [hd]; exact hf
    have hf3 := (Qh hF (QR (p := p) (m := m) (v := v) D1.s) (QS hF) L).1 hf2
    refine Jbt hF D1.s D1.e (JU N.s ht) (JZ N.e t) (hin _ fun s hs' => ?_) f L hf3
    rw [Jbz hF (JQ hF _) (JQ hF _)]
    exact Jdo hF hs he hs' t ht
  refine ⟨key a q G fun u hu s hs' => ?_, key b r H fun u hu s hs' => ?_⟩
  . have := hu s (by rw [List.length_append]; omega)
    rwa [ZA, if_pos hs'] at this
  . have := hu ((nul p m v C a).length + s) (by rw [List.length_append]; omega)
    rwa [ZA, if_neg (by omega), Nat.add_sub_cancel_left] at this
theorem Jq5 {q r : Nat -> Nat} (G : Sg P M mf p m v C a q) (H : Sg P M mf p m v C b r) (hC : C <= 100) : (JH p m v C (a ++ b)).length + (nul p m v C (nul p m v C a ++ nul p m v C b)).length <= a.length + b.length := by
 have hF := G.f; have G1 := Qt (v := v) G.f G.s; have H1 := Qt (v := v) H.f H.s; have g1 := G1.q.len; have g2 := H1.q.len; have hc := Zw G.s; have g3 := G.q.len; have g4 := H.q.len; have hs := Qm G1.s H1.s (by omega); have N := Qt (v := v) hF hs; have hmi := fun f L => Ji8 hF G H hC (f := f) L; generalize nul p m v C (nul p m v C a ++ nul p m v C b) = T at N hmi ⊢; have hq := qdim N H hC fun f L hB => (hmi f L).2 hB; have r1 := ZB (p := p) (m := m) (v := v) (q := fun i => (vo (JB p m v C (QX p m v C (nul p m v C a ++ nul p m v C b))) i).toNat) (X := T) H.s; have r2 := Jag (X := T) (q := fun i => (vo (JB p m v C (QX p m v C (nul p m v C a ++ nul p m v C b))) i).toNat) hF H.e; have r3 := Jjl hF r1 r2; have hsS := Qm G.s H.s (by omega); have hsD := Qm G.s (Q2 (p := p) (m := m) (v := v) r1) (by omega); have hle := Jiw hF hsS hsD (Qq G.e H.e) (Qq G.e (QC hF r2)) (fun f L hD => by
  obtain ⟨u1, u2⟩ := QO.1 hD; exact QO.2 ⟨u1, (Jdp hF L (fun t ht => JU H.s ht) ((hmi f L).1 u1)).1 ((Qh hF r1 r2 L).1 u2)⟩)
 have hp := Ye (p := p) (m := m) (v := v) hsD; rw [List.length_append] at hp; rw [Qg hsS]; omega
theorem dims {q r : Nat -> Nat} (G : Sg P M mf p m v C a q) (H : Sg P M mf p m v C b r) (hC : C <= 100) : a.length + b.length = (JH p m v C (a ++ b)).length + (nul p m v C (nul p m v C a ++ nul p m v C b)).length := by
 have hF := G.f; have G1 := Qt (v := v) G.f G.s; have H1 := Qt (v := v) H.f H.s; have g1 := G1.q.len; have g2 := H1.q.len; have hc := Zw G.s; have g3 := G.q.len; have g4 := H.q.len; have l1 := Jq5 G H hC; have l2 := Jq5 G1 H1 hC; have hs := Qm G1.s H1.s (by omega); have he := Qq G1.e H1.e; have hsS := Qm G.s H.s (by omega); have heS := Qq G.e H.e; have e1 := Jbu hF G.s G.e; have e2 := Jbu hF H.s H.e; have e3 := Jbu hF hs he; have e4 := Jbu hF hsS heS; rw [Jdm hF G.s G.e G.q] at e1; rw [Jdm hF H.s H.e H.q] at e2; rw [(dd hF G.s G.e).trans (ZH hF G.s G.e G.q).1, (dd hF H.s H.e).trans (ZH hF H.s H.e H.q).1] at l2; rw [Qg hs] at l2; rw [Qg hsS] at l1 ⊢; omega
end Go.Proofs.YtngdhnijkgjhcaaGreat
set_option linter.unusedVariables false
set_option linter.unusedSimpArgs false
namespace Go.Proofs.YtngdhnijkgjhcaaGreat
variable {P M : Int} {mf : List Int} {p m v g w : Nat} {C Ca Cb : Int} {X Y a b : List (List Int)}
theorem Jab {Q : Int × List (List Int) × Bool -> Prop} (hb : mck P M mf C X ≠ 0 -> Q (0, [], false)) (h : ∀ p m v, FV P M mf p m v -> shp C X -> Els p m X -> Q (C, JH p m v C X, true)) : YH P M mf C X Q := by
 refine Jry ⟨fun h0 => hb h0, fun h0 => Jeq (fun hh => absurd hh h0) fun p m v hF hs he _ => h p m v hF hs he⟩
theorem Jek (hF : FV P M mf p m v) (hs : shp C X) (he : Els p m X) : Sg P M mf p m v C (JH p m v C X) fun i => (vo (JB p m v C X) i).toNat := ⟨hF, Q2 hs, QC hF he, Jgy hF hs he⟩
theorem Sg.rows {q : Nat -> Nat} (G : Sg P M mf p m v C X q) : X.length <= 1000000 /\ ∀ r ∈ X, r.length <= 1000000 := ⟨by have := QN G.s; omega, Jkl G.s⟩
end Go.Proofs.YtngdhnijkgjhcaaGreat
set_option linter.unusedVariables false
set_option linter.unusedSimpArgs false
namespace Go.Proofs.YtngdhnijkgjhcaaGreat
variable {P M : Int} {mf : List Int} {p m v g w : Nat} {C Ca Cb : Int} {X Y a b : List (List Int)}
theorem sp_zr {q : Nat -> Nat} {u : List Int} (G : Sg P M mf p m v C X q) (hu : u.length = C.toNat) (he : Elr p m u) : zr (rsd p m v q X u X.length) ↔ Sp p m v C.toNat X u := by
 rw [sp_rsd G.f G.s G.e G.q hu he]; unfold zr; rw [Zx, hu]
end Go.Proofs.YtngdhnijkgjhcaaGreat
set_option linter.unusedVariables false
namespace Go.Proofs.YtngdhnijkgjhcaaGreat
open Go.RowKit
theorem Al.drop {w : World} : ∀ {vs : List Value} {ls : List (List Int)} (k : Nat), Al w vs ls -> Al w (vs.drop k) (ls.drop k)
  | [], [], k, _ => by simp [Al]
  | v :: vs, l :: ls, 0, h => h
  | v :: vs, l :: ls, k + 1, h => Al.drop (vs := vs) (ls := ls) k h.2
  | [], _ :: _, _, h => h.elim
  | _ :: _, [], _, h => h.elim
theorem Rl.drop {w : World} {A : Option Addr} {n k : Nat} {ls : List (List Int)} (h : Rl w A n k ls) {J : Int} (hJ : 0 <= J /\ J <= (n : Nat)) : Rl w (if k = J.toNat then A else A.map (·.add (J.toNat * 1))) (n - J.toNat) (k - J.toNat) (ls.drop J.toNat) := by
 obtain ⟨B, cs, h1, h2⟩ := h.ex; have h3 := h1.drop (k := J.toNat) (by omega); have e : cs.drop (J.toNat * 1) = cs.drop J.toNat := by rw [Nat.mul_one]
 rw [e] at h3; exact ⟨B, _, h3, h2.drop _⟩
end Go.Proofs.YtngdhnijkgjhcaaGreat
set_option linter.unusedSimpArgs false
set_option linter.unusedVariables false
set_option maxRecDepth 4000
set_option maxHeartbeats 4000000
namespace Go.Proofs.YtngdhnijkgjhcaaGreat
open Go.RowKit
def Jc3 (Pf : Int) (Mf : Int) (mf : List Int) (Cm : Int) (m : List (List Int)) (Cn : Int) (n : List (List Int)) (Q : Bool -> Prop) : Prop :=
  Jb9  (fun r18 => (((!r18) = true) -> (Jb9  (fun r21 => Q r21))) /\ ((!r18) = false -> (Jrv Cm m Cn n (fun r23 => (((!r23) = true) -> (Jb9  (fun r26 => Q r26))) /\ ((!r23) = false -> (YH Pf Mf mf Cm m (fun q => match q with | (c28, x29, r30) => YH Pf Mf mf Cn n (fun q => match q with | (c39, x40, r41) => (((!r30) = true) -> Q true) /\ ((!r30) = false -> ((((!r41) = true) -> Q true) /\ ((!r41) = false -> (((c28 ≠ c39) -> Q true) /\ (¬ (c28 ≠ c39) -> (∃ (I55 : Int -> Prop) (μ56 : Int -> Nat), I55 (0 : Int) /\ ∀ (z54 : Int), (I55 z54 -> (((z54 <= (x29.length : Int)) -> ((0 <= z54 /\ z54 <= (x29.length : Nat)) /\ (Jig Pf Mf mf c28 (x29.take z54.toNat) c39 x40 (fun q => match q with | (c76, x77, r78) => ((r78 ≠ (0 : Int)) -> Q false) /\ (¬ (r78 ≠ (0 : Int)) -> (Jen Pf Mf mf c76 x77 c28 x29 (fun q => match q with | (c88, x89, r90) => ((r90 ≠ (0 : Int)) -> Q false) /\ (¬ (r90 ≠ (0 : Int)) -> (Jen Pf Mf mf c39 x40 c28 x29 (fun q => match q with | (c100, x101, r102) => ((r102 ≠ (0 : Int)) -> Q false) /\ (¬ (r102 ≠ (0 : Int)) -> (Jig Pf Mf mf c28 (x29.take z54.toNat) c100 x101 (fun q => match q with | (c112, x113, r114) => Z8 Pf Mf mf c28 (x29.take z54.toNat) c28 x29 (fun q => match q with | (r123, r124) => ((r114 ≠ (0 : Int)) -> Q false) /\ (¬ (r114 ≠ (0 : Int)) -> (((r124 ≠ (0 : Int)) -> Q false) /\ (¬ (r124 ≠ (0 : Int)) -> ((((!r123) = true) -> Q false) /\ ((!r123) = false -> (Jfh c88 x89 c112 x113 (fun r129 => (((!r129) = true) -> Q false) /\ ((!r129) = false -> ((I64 (z54 + (1 : Int))) /\ (I55 (z54 + (1 : Int)) /\ μ56 (z54 + (1 : Int)) < μ56 z54)))))))))))))))))))))))) /\ (¬ (z54 <= (x29.length : Int)) -> Q true)))))))))))))))))
theorem Jk7 {w : World} {Q : Bool -> Prop} {Pf : Int} {Mf : Int} {mf : List Int} {Cm : Int} {m : List (List Int)} {Cn : Int} {n : List (List Int)} {Bf : Nat} {Af : Option Addr} {nf kf : Nat} (hf : Rd Bf w 1 Af nf kf (is mf)) {Am : Option Addr} {nm km : Nat} (hm : Rl w Am nm km m) {An : Option Addr} {nn kn : Nat} (hn : Rl w An nn kn n) (hv : Jc3 Pf Mf mf Cm m Cn n Q) :
   Calls Tryz.prog 7 #[.agg #[.int .i64 Pf, .int .i64 Mf, .slice Af nf kf], .agg #[.int .i64 Cm, .slice Am nm km], .agg #[.int .i64 Cn, .slice An nn kn]] w fun e w' => ∃ v Qr, e = .returned v /\ w.grownBy w' none /\ Rows w.heap.size none w' Qr /\ News w.heap.size Qr /\ ∃ (r0 : Bool), v = .bool r0 /\ Qr = [] /\ Q r0 := by
 have hnf := hf.ilen; subst hnf; have hnm := hm.len; subst hnm; obtain ⟨hsm, hHm⟩ := hm.heads; have hnn := hn.len; subst hnn; obtain ⟨hsn, hHn⟩ := hn.heads; refine Jk <| Jj (vs := [.agg #[nI Pf, nI Mf, nS Af mf kf], .agg #[nI Cm, nS Am m km], .agg #[nI Cn, nS An n kn]]) [6] XF7 rfl rfl rfl rfl ?_; have hS := Js w; unfold Jc3 at hv; refine Jd 2 <| JC (z := 3) (cs := [nI Pf, nI Mf, nS Af mf kf]) hS rfl rfl rfl rfl ?_; intro g11 w12 hS; refine JC (z := 2) (cs := [nI Cm, nS Am m km]) hS rfl rfl rfl rfl ?_; intro g13 w14 hS; refine JC (z := 2) (cs := [nI Cn, nS An n kn]) hS rfl rfl rfl rfl ?_; intro g15 w16 hS; refine Jb 2 <| Jd 3 <| SL.call hS (Jgc  hv) XF11 rfl XN11 rfl rfl ?_; rintro _ _ w17 ⟨r18, rfl, rfl, hv⟩ hGw17 hS; have hS := hS.n0; refine Jcy rfl rfl <| Jm rfl rfl ?_; rcases g19 : (!r18) with _ | _
 .have hv := hv.2 g19; refine WL.take rfl <| Jh (cs := [nI Cm, nS Am m km]) Jr JI rfl rfl (Jc (hS.own (i := 1) rfl)) rfl <| WL.take rfl <| Jh (cs := [nI Cn, nS An n kn]) Jr JI rfl rfl (Jc (hS.own (i := 0) rfl)) rfl <| WL.take rfl <| SL.call hS (ok_few (RlH.rl (RlH.ext hHm hS.ext)) (RlH.rl (RlH.ext hHn hS.ext)) hv) XF12 rfl XN12 rfl rfl ?_; rintro _ _ w22 ⟨r23, rfl, rfl, hv⟩ hGw22 hS; have hS := hS.n0; refine Jb 4 <| Ji rfl (fun c24 => ?_) (fun c24 => ?_)
  .have hv := hv.1 (c24); refine Jd 2 <| SL.call hS (Jgc  hv) XF11 rfl XN11 rfl rfl ?_; rintro _ _ w25 ⟨r26, rfl, rfl, hv⟩ hGw25 hS; have hS := hS.n0; refine Jb 2 <| W.ret <| ⟨_, rfl, Fin.nil ?_⟩
   exact (hS.pick [] rfl).fin rfl ⟨r26, rfl, rfl, hv⟩
  have hv := hv.2 (c24); refine Jl <| Jd 2 <| Jh (cs := [nI Pf, nI Mf, nS Af mf kf]) JY J1 rfl rfl (Jc (hS.own (i := 2) rfl)) rfl <| Jh (cs := [nI Cm, nS Am m km]) Jr JI rfl rfl (Jc (hS.own (i := 1) rfl)) rfl <| SL.call hS (Jck (hS.ro hf) (RlH.rl (RlH.ext hHm hS.ext)) hv) XF35 rfl XN35 rfl rfl ?_; rintro _ _ w27 ⟨c28, x29, r30, A31, k32, hs33, rfl, rfl, hv⟩ hGw27 hS; have hS := hS.n1; refine Jb 3 <| SL.alloc (cs := [nI 0, .slice none 0 0]) hS Jr rfl rfl ?_; intro g35 w36 hS; refine Jq (cs := [nI c28, nS A31 x29 k32]) 0 hS rfl Jr rfl rfl rfl rfl rfl ?_; intro w37 hS; refine Jb 2 <| Jd 2 <| Jh (cs := [nI Pf, nI Mf, nS Af mf kf]) JY J1 rfl rfl (Jc (hS.own (i := 4) rfl)) rfl <| Jh (cs := [nI Cn, nS An n kn]) Jr JI rfl rfl (Jc (hS.own (i := 2) rfl)) rfl <| SL.call hS (Jck (hS.ro hf) (RlH.rl (RlH.ext hHn hS.ext)) hv) XF35 rfl XN35 rfl rfl ?_; rintro _ _ w38 ⟨c39, x40, r41, A42, k43, hs44, rfl, rfl, hv⟩ hGw38 hS; have hS := hS.n1; refine Jb 3 <| SL.alloc (cs := [nI 0, .slice none 0 0]) hS Jr rfl rfl ?_; intro g46 w47 hS; refine Jq (cs := [nI c39, nS A42 x40 k43]) 0 hS rfl Jr rfl rfl rfl rfl rfl ?_; intro w48 hS; refine Jb 2 <| Jd 5 <| Jm rfl rfl ?_; rcases g49 : (!r30) with _ | _
  .have hv := hv.2 g49; refine Jb 5 <| Jm rfl rfl ?_; rcases g50 : (!r41) with _ | _
   .have hv := hv.2 g50; refine WL.take rfl <| Je (off := 0) J7 rfl rfl <| WL.take rfl <| Jn 2 0 XU3 hS rfl rfl rfl ⟨rfl, rfl⟩ <| WL.take rfl <| Je (off := 0) J7 rfl rfl <| WL.take rfl <| Jn 0 0 XU3 hS rfl rfl rfl ⟨rfl, rfl⟩ <| Jb 4 <| Ji rfl (fun c51 => ?_) (fun c51 => ?_)
    .have hv := hv.1 (oT c51); refine Jd 4 <| W.ret <| ⟨_, rfl, Fin.nil ?_⟩
     exact (hS.pick [] rfl).fin rfl ⟨true, rfl, rfl, hv⟩
    have hv := hv.2 (oF c51); refine Jl <| Jd 5 <| W.block ?_; obtain ⟨I55, μ56, hv, hk132⟩ := hv; refine JJ (σ := Int) (fun z54 w1 => I55 z54 /\ St TT w none w1 [.row 27 2 (nA g46) 1 1 [nI c39, nS A42 x40 k43], mx 22 3 A42 x40.length k43 hs44 x40, .row 27 2 (nA g35) 1 1 [nI c28, nS A31 x29 k32], mx 22 3 A31 x29.length k32 hs33 x29, .row 27 2 (nA g15) 1 1 [nI Cn, nS An n kn], .row 27 2 (nA g13) 1 1 [nI Cm, nS Am m km], .row 24 3 (nA g11) 1 1 [nI Pf, nI Mf, nS Af mf kf]]) (fun z54 => [(3, nP g11), (6, .bool false), (7, nP g35), (9, nP g46), (11, nI z54)]) (fun z54 => μ56 z54) (0 : Int) ⟨hv, hS⟩ ⟨rfl, rfl, rfl, rfl, rfl, trivial⟩ ?_; rintro z54 w57 ⟨hv, hS⟩; have hv := hk132 z54 hv; refine Jd 4 <| Je (off := 1) JM rfl rfl <| Jn 2 1 Jw hS rfl rfl rfl ⟨rfl, rfl⟩ <| WL.len Jw rfl rfl <| Jb 2 <| Ji rfl (fun c58 => ?_) (fun c58 => ?_)
    .have hv := hv.1 (oT c58); refine Jl <| JA <| W.block <| JA ?_; obtain ⟨o65, hv⟩ := hv; have hS0 := hS; refine QA 8 (fun iA => [false, false, false, false, false, false, false, true].getD iA false) (fun _ => none) (fun _ v u => u = v) [⟨[], [7], true⟩, ⟨[0], [], false⟩, ⟨[], [7], true⟩, ⟨[2], [], false⟩, ⟨[], [11], true⟩, ⟨[3, 4], [], true⟩, ⟨[1, 5], [], true⟩, ⟨[], [], false⟩] [.k 61 (nP g35), .k 62 (nI c28), .k 63 (.pointer (some ((⟨g35, 0, none⟩ : Addr).add 1))), .k 64 (nS A31 x29 k32), .k 65 (nI z54), .k 66 (.slice A31 ((x29.take z54.toNat).length) k32), .k 67 (.agg #[nI c28, .slice A31 ((x29.take z54.toNat).length) k32]), .m 12 (fun v wQ => ∃ g68_7, v = nP g68_7 /\ Own 0 wQ 27 2 (nA g68_7) 1 1 [nI 0, .slice none 0 0] /\ (∀ g, bl (nA g68_7) = some g -> w57.heap.size <= g)) fun _ _ _ ⟨g68_7, hQe, hO70_7, hN71_7⟩ hQ2 => ⟨g68_7, hQe, hO70_7.ext hQ2, hN71_7⟩] (fun _ => vbD) Jz (by kernel_rfl) rfl rfl (fun _ _ _ _ _ _ _ h => h) ?_ ?_
     . refine ⟨fun _ _ _ => Je (off := 0) J7 rfl rfl <| Ja ⟨rfl, rfl⟩, fun _ hE _ => have hS := hS.grow (hE rfl); Jn 2 0 XU3 hS rfl rfl rfl ⟨rfl, rfl⟩ <| Ja ⟨rfl, Jg _⟩, fun _ _ _ => Je (off := 1) JM rfl rfl <| Ja ⟨rfl, rfl⟩, fun _ hE _ => have hS := hS.grow (hE rfl); Jn 2 1 Jw hS rfl rfl rfl ⟨rfl, rfl⟩ <| Ja ⟨rfl, Jg _⟩, oB (fun _ => rfl) rfl, fun _ _ _ => Jd0 Jw JD (hS.mxout (i := 3) rfl) rfl rfl o65 rfl (x29.take z54.toNat).length (Jbb (hS.rl (i := 3) rfl) o65) <| Ja ⟨rfl, rfl⟩, fun _ _ _ => JN (cells := #[nI c28, .slice A31 ((x29.take z54.toNat).length) k32]) Q3 rfl rfl rfl <| Ja ⟨rfl, rfl⟩, ?_, trivial⟩; intro w67 hE; have hE := hE rfl; have hS := hS.grow hE; intro RR; refine WL.alloc Jr rfl ?_; intro g68 w69 hg68 hO70 hGw69; have hN71 : ∀ g2, bl (some ⟨g68, 0, none⟩) = some g2 -> _ <= g2 := fun g2 e => by cases e; rw [hg68]; exact hE.size
       have hO70 := Own.low (b' := 0) hO70 (Nat.zero_le _); exact Ja ⟨_, rfl, hGw69, ⟨g68, rfl, hO70, hN71⟩, (fun _ => fun g2 hg2 => by cases hg2; exact ⟨Nat.le_of_eq hg68.symm, (hO70.bl_ge _ rfl).2⟩), (fun j h => by cases h)⟩
     intro vals w72 hT hVs hAp hCp; have hS := hS.grow hT; obtain ⟨g68_7, hv7, hO70_7, hN71_7⟩ := hVs 7 (by decide); have hS := J2 [] hS0 hS hO70_7 hN71_7 (fun s hs => by cases hs); refine QU [(7, nP g68_7)] ⟨hv7, trivial⟩ <| Jf 8 (by decide +kernel) rfl <| Jq (cs := [nI c28, .slice A31 ((x29.take z54.toNat).length) k32]) 0 hS rfl Jr rfl rfl rfl rfl rfl ?_; intro w74 hS; refine Ja <| Jv (by decide +kernel) <| Jd 2 <| Jh (cs := [nI Pf, nI Mf, nS Af mf kf]) JY J1 rfl rfl (Jc (hS.own (i := 7) rfl)) rfl <| Jh (cs := [nI c28, .slice A31 ((x29.take z54.toNat).length) k32]) Jr JI rfl rfl (Jc (hS.own (i := 0) rfl)) rfl <| Jh (cs := [nI c39, nS A42 x40 k43]) Jr JI rfl rfl (Jc (hS.own (i := 1) rfl)) rfl <| SL.call hS (Jnf (hS.ro hf) (Rl.take (hS.rl (i := 4) rfl) o65) (hS.rl (i := 2) rfl) hv) XF13 rfl XN13 rfl rfl ?_; rintro _ _ w75 ⟨c76, x77, r78, A79, k80, hs81, rfl, rfl, hv⟩ hGw75 hS; have hS := hS.n1; refine Jb 3 <| SL.alloc (cs := [nI 0, .slice none 0 0]) hS Jr rfl rfl ?_; intro g83 w84 hS; refine Jq (cs := [nI c76, nS A79 x77 k80]) 0 hS rfl Jr rfl rfl rfl rfl rfl ?_; intro w85 hS; refine Jb 2 <| Jd 6 <| Ji rfl (fun c86 => ?_) (fun c86 => ?_)
     .have hv := hv.1 (oT c86); refine Jd 4 <| W.ret <| ⟨_, rfl, Fin.nil ?_⟩
      exact (hS.pick [] rfl).fin rfl ⟨false, rfl, rfl, hv⟩
     have hv := hv.2 (oF c86); refine Jl <| Jd 2 <| Jh (cs := [nI Pf, nI Mf, nS Af mf kf]) JY J1 rfl rfl (Jc (hS.own (i := 9) rfl)) rfl <| Jh (cs := [nI c76, nS A79 x77 k80]) Jr JI rfl rfl (Jc (hS.own (i := 0) rfl)) rfl <| Jh (cs := [nI c28, nS A31 x29 k32]) Jr JI rfl rfl (Jc (hS.own (i := 5) rfl)) rfl <| SL.call hS (Ji6 (hS.ro hf) (hS.rl (i := 1) rfl) (hS.rl (i := 6) rfl) hv) XF16 rfl XN16 rfl rfl ?_; rintro _ _ w87 ⟨c88, x89, r90, A91, k92, hs93, rfl, rfl, hv⟩ hGw87 hS; have hS := hS.n1; refine Jb 3 <| SL.alloc (cs := [nI 0, .slice none 0 0]) hS Jr rfl rfl ?_; intro g95 w96 hS; refine Jq (cs := [nI c88, nS A91 x89 k92]) 0 hS rfl Jr rfl rfl rfl rfl rfl ?_; intro w97 hS; refine Jb 2 <| Jd 6 <| Ji rfl (fun c98 => ?_) (fun c98 => ?_)
     .have hv := hv.1 (oT c98); refine Jd 4 <| W.ret <| ⟨_, rfl, Fin.nil ?_⟩
      exact (hS.pick [] rfl).fin rfl ⟨false, rfl, rfl, hv⟩
     have hv := hv.2 (oF c98); refine Jl <| Jd 2 <| Jh (cs := [nI Pf, nI Mf, nS Af mf kf]) JY J1 rfl rfl (Jc (hS.own (i := 11) rfl)) rfl <| Jh (cs := [nI c39, nS A42 x40 k43]) Jr JI rfl rfl (Jc (hS.own (i := 5) rfl)) rfl <| Jh (cs := [nI c28, nS A31 x29 k32]) Jr JI rfl rfl (Jc (hS.own (i := 7) rfl)) rfl <| SL.call hS (Ji6 (hS.ro hf) (hS.rl (i := 6) rfl) (hS.rl (i := 8) rfl) hv) XF16 rfl XN16 rfl rfl ?_; rintro _ _ w99 ⟨c100, x101, r102, A103, k104, hs105, rfl, rfl, hv⟩ hGw99 hS; have hS := hS.n1; refine Jb 3 <| SL.alloc (cs := [nI 0, .slice none 0 0]) hS Jr rfl rfl ?_; intro g107 w108 hS; refine Jq (cs := [nI c100, nS A103 x101 k104]) 0 hS rfl Jr rfl rfl rfl rfl rfl ?_; intro w109 hS; refine Jb 2 <| Jd 6 <| Ji rfl (fun c110 => ?_) (fun c110 => ?_)
     .have hv := hv.1 (oT c110); refine Jd 4 <| W.ret <| ⟨_, rfl, Fin.nil ?_⟩
      exact (hS.pick [] rfl).fin rfl ⟨false, rfl, rfl, hv⟩
     have hv := hv.2 (oF c110); refine Jl <| Jd 2 <| Jh (cs := [nI Pf, nI Mf, nS Af mf kf]) JY J1 rfl rfl (Jc (hS.own (i := 13) rfl)) rfl <| Jh (cs := [nI c28, .slice A31 ((x29.take z54.toNat).length) k32]) Jr JI rfl rfl (Jc (hS.own (i := 6) rfl)) rfl <| Jh (cs := [nI c100, nS A103 x101 k104]) Jr JI rfl rfl (Jc (hS.own (i := 0) rfl)) rfl <| SL.call hS (Jnf (hS.ro hf) (Rl.take (hS.rl (i := 10) rfl) o65) (hS.rl (i := 1) rfl) hv) XF13 rfl XN13 rfl rfl ?_; rintro _ _ w111 ⟨c112, x113, r114, A115, k116, hs117, rfl, rfl, hv⟩ hGw111 hS; have hS := hS.n1; refine Jb 3 <| SL.alloc (cs := [nI 0, .slice none 0 0]) hS Jr rfl rfl ?_; intro g119 w120 hS; refine Jq (cs := [nI c112, nS A115 x113 k116]) 0 hS rfl Jr rfl rfl rfl rfl rfl ?_; intro w121 hS; refine Jb 2 <| Jd 2 <| Jh (cs := [nI Pf, nI Mf, nS Af mf kf]) JY J1 rfl rfl (Jc (hS.own (i := 15) rfl)) rfl <| Jh (cs := [nI c28, .slice A31 ((x29.take z54.toNat).length) k32]) Jr JI rfl rfl (Jc (hS.own (i := 8) rfl)) rfl <| Jh (cs := [nI c28, nS A31 x29 k32]) Jr JI rfl rfl (Jc (hS.own (i := 11) rfl)) rfl <| SL.call hS (Jed (hS.ro hf) (Rl.take (hS.rl (i := 12) rfl) o65) (hS.rl (i := 12) rfl) hv) XF22 rfl XN22 rfl rfl ?_; rintro _ _ w122 ⟨r123, r124, rfl, rfl, hv⟩ hGw122 hS; have hS := hS.n0; refine Jb 6 <| Jd 4 <| Jm rfl rfl ?_; by_cases g125 : r114 ≠ (0 : Int)
     .have hv := hv.1 g125; rw [decide_eq_true g125]; refine Jb 14 <| J9 rfl <| Jd 4 <| W.ret <| ⟨_, rfl, Fin.nil ?_⟩
      exact (hS.pick [] rfl).fin rfl ⟨false, rfl, rfl, hv⟩
     have hv := hv.2 g125; rw [decide_eq_false g125]; refine Jb 5 <| Jm rfl rfl ?_; by_cases g126 : r124 ≠ (0 : Int)
     .have hv := hv.1 g126; rw [decide_eq_true g126]; refine Jb 10 <| J9 rfl <| Jd 4 <| W.ret <| ⟨_, rfl, Fin.nil ?_⟩
      exact (hS.pick [] rfl).fin rfl ⟨false, rfl, rfl, hv⟩
     have hv := hv.2 g126; rw [decide_eq_false g126]; refine Jb 5 <| Jm rfl rfl ?_; rcases g127 : (!r123) with _ | _
     .have hv := hv.2 g127; refine WL.take rfl <| Jh (cs := [nI c88, nS A91 x89 k92]) Jr JI rfl rfl (Jc (hS.own (i := 4) rfl)) rfl <| WL.take rfl <| Jh (cs := [nI c112, nS A115 x113 k116]) Jr JI rfl rfl (Jc (hS.own (i := 0) rfl)) rfl <| WL.take rfl <| SL.call hS (Jwo (hS.rl (i := 5) rfl) (hS.rl (i := 1) rfl) hv) XF15 rfl XN15 rfl rfl ?_; rintro _ _ w128 ⟨r129, rfl, rfl, hv⟩ hGw128 hS; have hS := hS.n0; refine Jb 4 <| Ji rfl (fun c130 => ?_) (fun c130 => ?_)
      .have hv := hv.1 (c130); refine Jd 4 <| W.ret <| ⟨_, rfl, Fin.nil ?_⟩
       exact (hS.pick [] rfl).fin rfl ⟨false, rfl, rfl, hv⟩
      have hv := hv.2 (c130); refine Jl <| Jd 2 ?_; obtain ⟨o131, hv⟩ := hv; refine WL.add (r := (z54 + (1 : Int))) rfl rfl (wr o131) rfl <| Jb 2 ?_; have hS := hS.pick [9, 10, 11, 12, 13, 14, 15] rfl; exact ⟨(z54 + (1 : Int)), ⟨rfl, rfl, rfl, rfl, rfl, trivial⟩, hv.2, rfl, hv.1, hS⟩
     have hv := hv.1 g127; refine Jb 6 <| J9 rfl <| Jd 4 <| W.ret <| ⟨_, rfl, Fin.nil ?_⟩
     exact (hS.pick [] rfl).fin rfl ⟨false, rfl, rfl, hv⟩
    have hv := hv.2 (oF c58); refine JG <| Jd 4 <| W.ret <| ⟨_, rfl, Fin.nil ?_⟩
    exact (hS.pick [] rfl).fin rfl ⟨true, rfl, rfl, hv⟩
   have hv := hv.1 g50; refine Jb 7 <| J9 rfl <| Jd 4 <| W.ret <| ⟨_, rfl, Fin.nil ?_⟩
   exact (hS.pick [] rfl).fin rfl ⟨true, rfl, rfl, hv⟩
  have hv := hv.1 g49; refine Jb 11 <| J9 rfl <| Jd 4 <| W.ret <| ⟨_, rfl, Fin.nil ?_⟩
  exact (hS.pick [] rfl).fin rfl ⟨true, rfl, rfl, hv⟩
 have hv := hv.1 g19; refine Jb 6 <| J9 rfl <| Jd 2 <| SL.call hS (Jgc  hv) XF11 rfl XN11 rfl rfl ?_; rintro _ _ w20 ⟨r21, rfl, rfl, hv⟩ hGw20 hS; have hS := hS.n0; refine Jb 2 <| W.ret <| ⟨_, rfl, Fin.nil ?_⟩
 exact (hS.pick [] rfl).fin rfl ⟨r21, rfl, rfl, hv⟩
end Go.Proofs.YtngdhnijkgjhcaaGreat
set_option linter.unusedVariables false
set_option linter.unusedSimpArgs false
namespace Go.Proofs.YtngdhnijkgjhcaaGreat
variable {P M : Int} {mf : List Int} {p m v g w : Nat} {C Ca Cb : Int} {X Y a b : List (List Int)}
theorem Jf4 {i t : Nat} (h : t < i) : row (X.take i) t = row X t := Zn h
theorem Cnl.take {q : Nat -> Nat} (h : Cnl w X q) (i : Nat) : Cnl w (X.take i) q := by
 refine ⟨fun j hj => ?_, fun j hj t ht => ?_, fun j hj c hc => ?_, fun j k hjk hk => ?_⟩ <;> rw [List.length_take] at *
 .exact h.lt _ (by omega)
 .rw [Jf4 (by omega)]; exact h.one j (by omega) t (by omega)
 .rw [Jf4 (by omega)]; exact h.lf j (by omega) c hc
 .exact h.asc j k hjk (by omega)
theorem Jy8 {q : Nat -> Nat} (G : Sg P M mf p m v C X q) (i : Nat) : Sg P M mf p m v C (X.take i) q :=
 ⟨G.f, Jf1 (Zw G.s) (by rw [List.length_take]; have := QN G.s; omega) fun t ht => by
  rw [List.length_take] at ht; rw [Jf4 (by omega)]; exact JU G.s (by omega), Jas fun t ht => by
  rw [List.length_take] at ht; rw [Jf4 (by omega)]; exact JZ G.e _, G.q.take i⟩
theorem Jxw {f : (Nat -> Nat) -> Nat} (h : Ann p m f X) (i : Nat) : Ann p m f (X.take i) := fun t ht => by
 rw [List.length_take] at ht; rw [Jf4 (by omega)]; exact h _ (by omega)
theorem ain_in {q r : Nat -> Nat} (G : Sg P M mf p m v C a q) (H : Sg P M mf p m v C b r) (h : ∀ f, Lin p m v C.toNat f -> Ann p m f b -> Ann p m f a) : ain p m v r b a := fun t ht =>
 (sp_zr H (JU G.s ht) (JZ G.e t)).2 fun f L hf => h f L hf t ht
theorem nul_cg (h : JB p m v C X = JB p m v C Y /\ JH p m v C X = JH p m v C Y) : nul p m v C X = nul p m v C Y := by
 unfold nul QX; rw [h.1, h.2]
theorem Jip (hF : FV P M mf p m v) (hs : shp C X) (he : Els p m X) {u : List Int} (h : Sp p m v C.toNat X u) {s : Nat} (hs' : s < (nul p m v C X).length) : dt p m v C.toNat (en p m u) (en p m (row (nul p m v C X) s)) = 0 := by
  rw [Jbz hF (JQ hF _) (JQ hF _)]
  refine h _ (ZO hF (JQ hF _)) fun t ht => ?_
  rw [Jbz hF (JQ hF _) (JQ hF _)]
  exact Jdo hF hs he ht s hs'
theorem Jla {q r : Nat -> Nat} {u : List Int} (G : Sg P M mf p m v C a q) (H : Sg P M mf p m v C b r) (hC : C <= 100) (hu : u.length = C.toNat) (hue : Elr p m u) (h1 : Sp p m v C.toNat a u) (h2 : Sp p m v C.toNat b u) : Sp p m v C.toNat (nul p m v C (nul p m v C a ++ nul p m v C b)) u := by
  have hF := G.f
  have G1 := Qt (v := v) G.f G.s
  have H1 := Qt (v := v) H.f H.s
  have g1 := G1.q.len; have g2 := H1.q.len; have hc := Zw G.s
  have hs := Qm G1.s H1.s (by omega)
  have he := Qq G1.e H1.e
  have key := Jbt hF hs he hu hue fun t ht => by
    rw [ZA]
    split
    . exact Jip hF G.s G.e h1 (by assumption)
    . rw [List.length_append] at ht; exact Jip hF H.s H.e h2 (by omega)
  intro f L hf
  exact key f L ((Qh hF (QR (p := p) (m := m) (v := v) hs) (QS hF) L).1 hf)
theorem Jzw {qa qb qk : Nat -> Nat} {A B K : List (List Int)} (G : Sg P M mf p m v C A qa) (H : Sg P M mf p m v C B qb) (I : Sg P M mf p m v C K qk) (hC : C <= 100) (hAK : ∀ f, Lin p m v C.toNat f -> Ann p m f K -> Ann p m f A) :
    nul p m v C (nul p m v C (JH p m v C (A ++ B)) ++ nul p m v C K) = JH p m v C (A ++ nul p m v C (nul p m v C B ++ nul p m v C K)) := by
  have hF := G.f
  have cc := Zw G.s
  have ga := G.q.len; have gb := H.q.len; have gk := I.q.len
  have sAB := Qm G.s H.s (by omega)
  have eAB := Qq G.e H.e
  have S := Jek hF sAB eAB
  have B1 := Qt (v := v) H.f H.s
  have K1 := Qt (v := v) I.f I.s
  have A1 := Qt (v := v) G.f G.s
  have S1 := Qt (v := v) S.f S.s
  have l1 := B1.q.len; have l2 := K1.q.len; have l3 := A1.q.len; have l4 := S1.q.len; have l5 := S.q.len
  have sBK := Qm B1.s K1.s (by omega)
  have eBK := Qq B1.e K1.e
  have Tq := Qt (v := v) hF sBK
  have sSK := Qm S1.s K1.s (by omega)
  have eSK := Qq S1.e K1.e
  have Xg := Qt (v := v) hF sSK
  have l6 := Tq.q.len
  have sAT := Qm G.s Tq.s (by omega)
  have eAT := Qq G.e Tq.e
  have Yg := Jek hF sAT eAT
  have d1 := dims S I hC
  have d2 := dims H I hC
  have d3 := dims G H hC
  have d4 := dims G Tq hC
  -- s + K = B + K
  have e1 : JH p m v C (JH p m v C (A ++ B) ++ K) = JH p m v C (B ++ K) := (Jgv hF (Qm S.s I.s (by omega)) (Qq S.e I.e) (Qm H.s I.s (by omega)) (Qq H.e I.e) fun f L => by
    rw [QO, QO, Qh hF sAB eAB L, QO]
    exact ⟨fun h => ⟨h.1.2, h.2⟩, fun h => ⟨⟨hAK f L h.2, h.1⟩, h.2⟩⟩).2
  -- A meets t where it meets B
  have kA : ∀ f, Lin p m v C.toNat f -> Ann p m f (nul p m v C A) -> Ann p m f (nul p m v C K) := fun f L hf s hs => by
    have hf2 := (Qh hF (QR (p := p) (m := m) (v := v) G.s) (QS hF) L).1 hf
    refine Jbt hF G.s G.e (JU K1.s hs) (JZ K1.e s) (fun t ht => ?_) f L hf2
    have hsp : Sp p m v C.toNat K (row A t) := fun f L hf => hAK f L hf t ht
    rw [Jbz hF (JQ hF _) (JQ hF _)]
    exact Jip hF I.s I.e hsp hs
  have hnT : nul p m v C (nul p m v C (nul p m v C B ++ nul p m v C K)) = JH p m v C (nul p m v C B ++ nul p m v C K) := dd hF sBK eBK
  have T1 := Qt (v := v) Tq.f Tq.s
  have l7 := T1.q.len
  have e2 : nul p m v C (nul p m v C A ++ nul p m v C (nul p m v C (nul p m v C B ++ nul p m v C K))) = nul p m v C (nul p m v C A ++ nul p m v C B) := nul_cg (Jgv hF (Qm A1.s T1.s (by omega)) (Qq A1.e T1.e) (Qm A1.s B1.s (by omega)) (Qq A1.e B1.e) fun f L => by
    rw [QO, QO, hnT, Qh hF sBK eBK L, QO]
    exact ⟨fun h => ⟨h.1, h.2.1⟩, fun h => ⟨h.1, h.2, kA f L h.1⟩⟩)
  rw [e1] at d1
  rw [e2] at d4
  -- the one is within the other
  have key := Jq9 hF Yg.s Yg.e Xg.s Xg.e (fun f L hf => ?_) ?_
  . rw [(ZH hF Yg.s Yg.e Yg.q).1, (ZH hF Xg.s Xg.e Xg.q).1] at key; exact key.symm
  . refine (Qh hF sAT eAT L).2 (QO.2 ⟨fun t ht => ?_, fun t ht => ?_⟩)
    . refine Jla S I hC (JU G.s ht) (JZ G.e t) (fun f L h => ?_) (fun f L h => hAK f L h t ht) f L hf
      exact (QO.1 ((Qh hF sAB eAB L).1 h)).1 t ht
    . refine Jla S I hC (JU Tq.s ht) (JZ Tq.e t) (fun f L h => ?_) (fun f L h => (Ji8 hF H I hC L).2 h t ht) f L hf
      exact (Ji8 hF H I hC L).1 (QO.1 ((Qh hF sAB eAB L).1 h)).2 t ht
  . rw [Jdm hF Yg.s Yg.e Yg.q, Jdm hF Xg.s Xg.e Xg.q]
    omega
theorem Jef (P M : Int) (mf : List Int) (Cm : Int) (X : List (List Int)) (Cn : Int) (Y : List (List Int)) : Jc3 P M mf Cm X Cn Y (fun r => r = true) := by
 refine Jp0 ⟨fun hb => (by cases hb), fun _ => w_few (fun hA hB hla hlb => ⟨fun hb => (by cases hb), fun _ => ?_⟩) ⟨fun _ => Jp0 rfl, fun hb => (by cases hb)⟩⟩; refine Jab (fun _ => Jab (fun _ => ⟨fun _ => rfl, fun hb => (by cases hb)⟩) fun _ _ _ _ _ _ => ⟨fun _ => rfl, fun hb => (by cases hb)⟩) fun p m v hF hs he => ?_; refine Jab (fun _ => ⟨fun hb => (by cases hb), fun _ => ⟨fun _ => rfl, fun hb => (by cases hb)⟩⟩) fun p' m' v' hF' hs' he' => ?_; obtain ⟨rfl, rfl, rfl⟩ := hF.uniq3 hF'; refine ⟨fun hb => (by cases hb), fun _ => ⟨fun hb => (by cases hb), fun _ => ⟨fun _ => rfl, fun hC => ?_⟩⟩⟩; obtain rfl : Cm = Cn := Classical.not_not.1 hC; have I := Jek hF hs he; have H := Jek hF hs' he'; have hC : Cm <= 100 := by omega
 generalize JH p m v Cm X = K at I ⊢; generalize JH p m v Cm Y = B at H ⊢; have hl := QN I.s; refine ⟨fun z => ∃ t : Nat, z = t /\ t <= K.length + 1, fun z => (K.length + 1 - z).toNat, ⟨0, rfl, Nat.zero_le _⟩, ?_⟩; rintro _ ⟨t, rfl, ht⟩; refine ⟨fun hlt => ⟨⟨by omega, by omega⟩, ?_⟩, fun _ => rfl⟩; rw [show ((t : Int)).toNat = t from rfl]; have G := Jy8 I t; have hAK : ∀ f, Lin p m v Cm.toNat f -> Ann p m f K -> Ann p m f (K.take t) := fun f L h => Jxw h t; have ga := G.q.len; have gb := H.q.len; have cc := Zw H.s; have S := Jek hF (Qm G.s H.s (by omega)) (Qq G.e H.e); have B1 := Qt (v := v) H.f H.s; have K1 := Qt (v := v) I.f I.s; have l1 := B1.q.len; have l2 := K1.q.len; have Tq := Qt (v := v) hF (Qm B1.s K1.s (by omega)); refine Jve G H hC ⟨fun hh => absurd rfl hh, fun _ => Jmq S I hC ⟨fun hh => absurd rfl hh, fun _ => Jmq H I hC ⟨fun hh => absurd rfl hh, fun _ => Jve G Tq hC (Jfo G I (fun _ => ?_) (fun hh => absurd (ain_in G I hAK) hh))⟩⟩⟩; have l6 := Tq.q.len; have Yg := Jek hF (Qm G.s Tq.s (by omega)) (Qq G.e Tq.e); rw [Jzw G H I hC hAK]; refine ⟨fun hh => absurd rfl hh, fun _ => ⟨fun hh => absurd rfl hh, fun _ => ⟨fun hb => (by cases hb), fun _ => Jyz Yg.rows.1 Yg.rows.2 ⟨fun hb => (by cases hb), fun _ => ⟨JE (by omega) (by omega), ⟨t + 1, by push_cast; rfl, by omega⟩, by dsimp only; omega⟩⟩⟩⟩⟩
end Go.Proofs.YtngdhnijkgjhcaaGreat
