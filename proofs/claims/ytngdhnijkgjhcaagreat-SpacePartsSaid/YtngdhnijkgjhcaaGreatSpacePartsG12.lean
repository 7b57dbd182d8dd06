/- Contracts of functions of the program, and what they lean on: M5, M6, M7, M8, M9, M10, M11, M12, M13, M14, M15, M16, M17, M18, M19, M20, M21, M22, M23, M24, S1, S2, S3, S4, S5, S6, S7, S8. -/
import Derived.Test.YtngdhnijkgjhcaaGreatSpacePartsG11
set_option linter.unusedVariables false
set_option linter.unusedSimpArgs false
namespace Go.Proofs.YtngdhnijkgjhcaaGreat
section
variable {p m v : Nat}
def Asc (k : Nat) (l : List Int) : Prop := (∀ i, i < l.length -> 0 <= vo l i /\ vo l i < (k : Int)) /\ ∀ i j, i < j -> j < l.length -> vo l i < vo l j
theorem Jcw {l : List Int} {x : Int} {i : Nat} : vo (l ++ [x]) i = if i < l.length then vo l i else if i = l.length then x else 0 := by
 unfold vo; rw [List.getD_eq_getElem?_getD, List.getD_eq_getElem?_getD, List.getElem?_append]; by_cases h : i < l.length
 .rw [if_pos h, if_pos h]
 .rw [if_neg h, if_neg h]; by_cases h2 : i = l.length
  .subst h2; simp
  .rw [if_neg h2]; have : i - l.length ≠ 0 := by omega
   cases hh : i - l.length with
   | zero => omega
   | succ n => simp
theorem Asc.snoc {k : Nat} {l : List Int} (h : Asc k l) : Asc (k + 1) (l ++ [(k : Int)]) := by
 refine ⟨fun i hi => ?_, fun i j hij hj => ?_⟩
 .rw [List.length_append] at hi; rw [Jcw]; split
  .rename_i h1; have := h.1 i h1; omega
  .split
   .omega
   .simp at hi; omega
 .rw [List.length_append] at hj; have hj' : j < l.length + 1 := by simpa using hj
  rw [Jcw, Jcw, if_pos (show i < l.length by omega)]; split
  .rename_i h1; exact h.2 i j hij h1
  .rw [if_pos (show j = l.length by omega)]; exact (h.1 i (by omega)).2
theorem Asc.up {k : Nat} {l : List Int} (h : Asc k l) : Asc (k + 1) l := ⟨fun i hi => by have := h.1 i hi; omega, h.2⟩
theorem Jg4 {S : ES} (h : S.pv = []) : ∀ k, Asc k (elim p m v k S).pv
 | 0 => by
  show Asc 0 S.pv; rw [h]; exact ⟨fun i hi => absurd hi (Nat.not_lt_zero i), fun i j _ hj => absurd hj (Nat.not_lt_zero j)⟩
 | k + 1 => by
  have ih := Jg4 h k; rw [QS]; unfold Q9; split
  .exact ih.snoc
  .exact ih.up
theorem YV (C : Int) (X : List (List Int)) : Asc C.toNat (Qe p m v C X) := Jg4 rfl _
end
section
variable {F : GFv} {p m v g : Nat} {P M : Int} {mf : List Int} {X Y : List (List Int)} {C : Int}
theorem Jko {l : List Int} {x : Int} {k : Nat} {Q : Int × Bool -> Prop} (hl : l.length <= 1000000) (hs : Asc k l) (h1 : ∀ i, (∃ j, j < l.length /\ vo l j = x) -> Q (i, true)) (h2 : ∀ i, (¬ ∃ j, j < l.length /\ vo l j = x) -> Q (i, false)) : Ja5 l x Q := by
 refine ⟨fun a b => ∃ s t : Nat, a = s /\ b = t /\ s <= t /\ t <= l.length /\ (∀ j, j < s -> vo l j < x) /\ ∀ j, t <= j -> j < l.length -> x <= vo l j, fun a b => (b - a).toNat, ⟨0, l.length, rfl, rfl, Nat.zero_le _, Nat.le_refl _, fun j hj => by omega, fun j hj1 hj2 => by omega⟩, ?_⟩; rintro _ _ ⟨s, t, rfl, rfl, hst, htl, hlo, hhi⟩; dsimp only; refine ⟨fun hlt => ?_, fun hge => ?_⟩
 .obtain ⟨q, hq⟩ : ∃ q : Nat, ((s : Int) + t).fdiv 2 = q := ⟨(s + t) / 2, by
   rw [Int.fdiv_eq_ediv_of_nonneg _ (by decide)]; omega⟩
  have hq2 : q = (s + t) / 2 := by
   have : ((s : Int) + t).fdiv 2 = (((s + t) / 2 : Nat) : Int) := by rw [Int.fdiv_eq_ediv_of_nonneg _ (by decide)]; omega
   omega
  rw [hq]; have hql : q < l.length := by omega
  rw [JR]; refine ⟨JC (by omega) (by omega), ⟨by omega, by omega⟩, JC (by omega) (by omega), ⟨by omega, by omega⟩, ?_⟩; show (decide (vo l q ≠ vo l q) = true -> _) /\ (decide (vo l q ≠ vo l q) = false -> _)
  refine ⟨fun h => absurd (of_decide_eq_true h) (fun h => h rfl), fun _ => ⟨fun h => ?_, fun h => ?_⟩⟩
  .have hlt2 := of_decide_eq_true h; refine ⟨JC (by omega) (by omega), ⟨q + 1, t, by push_cast; rfl, rfl, by omega, htl, fun j hj => ?_, hhi⟩, by omega⟩; rcases Nat.lt_or_ge j q with h3 | h3
   .have := hs.2 j q h3 hql; omega
   .rw [show j = q by omega]; exact hlt2
  .have hge2 := of_decide_eq_false h; refine ⟨⟨s, q, rfl, rfl, by omega, by omega, hlo, fun j hj1 hj2 => ?_⟩, by omega⟩; rcases Nat.eq_or_lt_of_le hj1 with h3 | h3
   .subst h3; omega
   .have := hs.2 q j h3 hj2; omega
 .have hse : s = t := by omega
  subst hse; rw [JR]; refine ⟨fun hlt2 => ⟨⟨by omega, by omega⟩, fun he => h1 _ ⟨s, by omega, he⟩, fun hne => ⟨⟨by omega, by omega⟩, ?_⟩⟩, fun hge2 => ?_⟩
  .have hno : ¬ ∃ j, j < l.length /\ vo l j = x := fun ⟨j, hj, he⟩ => by
    rcases Nat.lt_trichotomy j s with h3 | h3 | h3
    .have := hlo j h3; omega
    .subst h3; exact hne he
    .have := hs.2 s j h3 hj; have := hhi s (Nat.le_refl _) (by omega); omega
   show (decide (vo l s ≠ vo l s) = true -> _) /\ (decide (vo l s ≠ vo l s) = false -> _)
   exact ⟨fun h => absurd (of_decide_eq_true h) (fun h => h rfl), fun _ => h2 _ hno⟩
  .refine h2 _ fun ⟨j, hj, he⟩ => ?_; have := hlo j (by omega); omega
def Jgc (p m : Nat) (C : Nat) (R : List (List Int)) (pv : List Int) (t k : Nat) : List Int := (List.range k).foldl (fun x i => x.set (vo pv i).toNat (Ng p m (vo (row R i) t))) ((List.replicate C 0).set t 1)
theorem Jdu (C : Nat) (R : List (List Int)) (pv : List Int) (t k : Nat) : Jgc p m C R pv t (k + 1) = (Jgc p m C R pv t k).set (vo pv k).toNat (Ng p m (vo (row R k) t)) := by
 unfold Jgc; rw [List.range_succ, List.foldl_append]; rfl
theorem Jla (C : Nat) (R : List (List Int)) (pv : List Int) (t : Nat) : ∀ k, (Jgc p m C R pv t k).length = C
 | 0 => by simp [Jgc]
 | k + 1 => by rw [Jdu, List.length_set]; exact Jla C R pv t k
theorem Jlb (hq : 1 < p ^ m) (hp : 0 < p) (C : Nat) (R : List (List Int)) (pv : List Int) (t : Nat) : ∀ k, Elr p m (Jgc p m C R pv t k)
 | 0 => fun x hx => by
  rcases List.mem_or_eq_of_mem_set hx with h | h
  .rw [List.eq_of_mem_replicate h]; exact Jg5 (q := 0) (by omega)
  .rw [h]; exact Jg5 (q := 1) (by omega)
 | k + 1 => fun x hx => by
  rw [Jdu] at hx; rcases List.mem_or_eq_of_mem_set hx with h | h
  .exact Jlb hq hp C R pv t k x h
  .rw [h]; exact Jg5 (YK hp _)
theorem Jna {R : List (List Int)} {pv : List Int} {t : Nat} {Q : List Int -> Prop} (K : GFk F p m v g) (hC : 0 <= C /\ C <= 256) (ht : t < C.toNat) (hR : pv.length <= R.length) (hl : pv.length <= 1000000) (hr : ∀ i, i < R.length -> t < (row R i).length) (hp : Asc C.toNat pv)
  (h : Q (Jgc p m C.toNat R pv t pv.length)) : Jan F C R pv t Q := by
 refine ⟨⟨by omega, by omega, by omega⟩, ⟨by omega, by omega⟩, fun x z => ∃ k : Nat, z = k /\ k <= pv.length /\ x = Jgc p m C.toNat R pv t k, fun _ z => (pv.length - z).toNat, ⟨0, rfl, Nat.zero_le _, rfl⟩, ?_⟩; rintro _ _ ⟨k, rfl, hk, rfl⟩; dsimp only; rw [JR]; refine ⟨fun hlt => ⟨⟨by omega, by omega⟩, ⟨by omega, by omega⟩, ⟨by omega, by show (t : Int) < ((row R k).length : Nat); have := hr k (by omega); omega⟩, Jqv K ?_⟩, fun hge => by rw [show k = pv.length by omega]; exact h⟩; have hv : 0 <= gi pv (k : Int) /\ gi pv (k : Int) < ((C.toNat : Nat) : Int) := hp.1 k (by omega); refine ⟨⟨hv.1, by have := hv.2; omega⟩, JC (by omega) (by omega), ⟨k + 1, by push_cast; rfl, by omega, ?_⟩, by omega⟩; rw [Jdu]; rfl
def inP (pv : List Int) (c : Nat) : Bool := (List.range pv.length).any fun i => vo pv i == (c : Int)
theorem Jfg {pv : List Int} {c : Nat} : inP pv c = true ↔ ∃ j, j < pv.length /\ vo pv j = (c : Int) := by
 unfold inP; rw [List.any_eq_true]; exact ⟨fun ⟨i, hi, h⟩ => ⟨i, List.mem_range.1 hi, by simpa using h⟩, fun ⟨i, hi, h⟩ => ⟨i, List.mem_range.2 hi, by simpa using h⟩⟩
def bas (p m : Nat) (C : Nat) (R : List (List Int)) (pv : List Int) (k : Nat) : List (List Int) := (List.range k).foldl (fun B c => if inP pv c then B else B ++ [Jgc p m C R pv c pv.length]) []
theorem Jdc (C : Nat) (R : List (List Int)) (pv : List Int) (k : Nat) : bas p m C R pv (k + 1) = if inP pv k then bas p m C R pv k else bas p m C R pv k ++ [Jgc p m C R pv k pv.length] := by
 unfold bas; rw [List.range_succ, List.foldl_append]; rfl
theorem Jj5 (C : Nat) (R : List (List Int)) (pv : List Int) : ∀ k, (bas p m C R pv k).length <= k
 | 0 => Nat.le_refl _
 | k + 1 => by
  rw [Jdc]; have := Jj5 C R pv k; split
  .omega
  .rw [List.length_append]; simp; omega
theorem Jfi (C : Nat) (R : List (List Int)) (pv : List Int) : ∀ k, ∀ r ∈ bas p m C R pv k, ∃ c, c < k /\ inP pv c = false /\ r = Jgc p m C R pv c pv.length
 | 0, r, h => by cases h
 | k + 1, r, h => by
  rw [Jdc] at h; split at h
  .obtain ⟨c, h1, h2⟩ := Jfi C R pv k r h; exact ⟨c, by omega, h2⟩
  .rename_i hn
   rcases List.mem_append.1 h with h | h
   .obtain ⟨c, h1, h2⟩ := Jfi C R pv k r h; exact ⟨c, by omega, h2⟩
   .exact ⟨k, by omega, by simpa using hn, by simpa using h⟩
def Jmj (p m v : Nat) (C : Int) (X : List (List Int)) : List (List Int) := bas p m C.toNat (Qb p m v C X) (Qe p m v C X) C.toNat
theorem Jhb (hs : shp C X) : shp C (Jmj p m v C X) := by
 obtain ⟨h1, h2, h3⟩ := QM hs; refine ⟨hs.1, hs.2.1, by have := Jj5 (p := p) (m := m) C.toNat (Qb p m v C X) (Qe p m v C X) C.toNat; unfold Jmj; omega, fun r hr => ?_⟩; obtain ⟨c, _, _, rfl⟩ := Jfi _ _ _ _ r hr; rw [Jla]; exact h3
theorem Jmi (hF : FV P M mf p m v) : Els p m (Jmj p m v C X) := fun r hr => by
 obtain ⟨c, _, _, rfl⟩ := Jfi _ _ _ _ r hr; exact Jlb (by have := hF.ring.q2; omega) (by have := hF.p2; omega) _ _ _ _ _
theorem Yb (hs : shp C X) : (Qb p m v C X).length = (Qe p m v C X).length := by
 have h0 := Ja2 (p := p) (m := m) (v := v) hs; unfold Qb Qe; rw [List.length_take]; have h1 := h0.pl; have h2 := h0.xl; omega
theorem Jau {Z : List (List Int)} {n t : Nat} (h : t < n) : row (Z.take n) t = row Z t := by
 unfold row; rw [List.getD_eq_getElem?_getD, List.getD_eq_getElem?_getD, List.getElem?_take, if_pos h]
theorem Jmh (hs : shp C X) {t : Nat} (ht : t < (Qb p m v C X).length) : (row (Qb p m v C X) t).length = C.toNat := by
 have h1 := Ja2 (p := p) (m := m) (v := v) hs; rw [Yb hs] at ht; unfold Qb; rw [Jau (n := (ec p m v C X).pv.length) ht]; exact h1.xr t (Nat.lt_of_lt_of_le ht h1.pl)
theorem Ya (hs : shp C X) : shp C (Qb p m v C X) := by
 obtain ⟨h1, h2, h3⟩ := QM hs; have h4 := Ja2 (p := p) (m := m) (v := v) hs; refine ⟨hs.1, hs.2.1, by rw [Yb hs]; have := h4.pl; show (ec p m v C X).pv.length <= 256; omega, fun r hr => ?_⟩; obtain ⟨t, ht, rfl⟩ := Jad hr; rw [Jmh hs ht]; exact h3
theorem Jg9 (hs : shp C X) : (Qe p m v C X).length <= X.length := (Ja2 (p := p) (m := m) (v := v) hs).pl
theorem Jwm {Q : Int × List (List Int) × Int -> Prop} (hb : mck P M mf C X ≠ 0 -> Q (0, [], mck P M mf C X))
  (h : ∀ p m v, FV P M mf p m v -> shp C X -> Els p m X -> mck P M mf C X = 0 -> Q (C, Qb p m v C (Jmj p m v C X), 0)) : YB P M mf C X Q := by
 refine Jcu (fun h0 _ => hb h0) fun F p m v g K hF hs he h0 => Jat K hs ?_; obtain ⟨h1, h2, h3⟩ := QM hs; have hpl := Jg9 (p := p) (m := m) (v := v) hs; have hcl := Yb (p := p) (m := m) (v := v) hs; have hasc := YV (p := p) (m := m) (v := v) C X; have hrow := fun i (hi : i < (Qb p m v C X).length) => Jmh (p := p) (m := m) (v := v) hs hi; have hfin := Jat (Q := fun q => Q (q.1, q.2.1, 0)) K (Jhb (p := p) (m := m) (v := v) hs) (h p m v hF hs he h0); unfold Jmj at hfin; generalize Qb p m v C X = R at *
 generalize Qe p m v C X = pv at *
 refine ⟨fun x z => ∃ k : Nat, z = k /\ k <= C.toNat /\ x = bas p m C.toNat R pv k, fun _ z => (C - z).toNat, ⟨0, rfl, Nat.zero_le _, rfl⟩, ?_⟩; rintro _ _ ⟨k, rfl, hk, rfl⟩; have hbl := Jj5 (p := p) (m := m) C.toNat R pv k; dsimp only; refine ⟨fun hlt => ⟨fun x _ _ => x = bas p m C.toNat R pv (k + 1), Jko (by omega) hasc (fun i hin => ⟨fun h => absurd h (by simp), fun _ => ?_⟩) (fun i hin => ⟨fun _ => ⟨_, Jna K ⟨hs.1, hs.2.1⟩ (by omega) (by omega) (by omega) (fun i hi => by rw [hrow i hi]; omega) hasc rfl, by omega, ?_⟩, fun h => absurd h (by simp)⟩), ?_⟩, fun hge => ?_⟩
 .rw [Jdc, if_pos (Jfg.2 hin)]
 .rw [Jdc, if_neg (fun hh => hin (Jfg.1 hh))]
 .rintro _ _ _ rfl; exact ⟨JC (by omega) (by omega), ⟨k + 1, by push_cast; rfl, by omega, rfl⟩, by omega⟩
 .rw [show k = C.toNat by omega]; exact hfin
end
end Go.Proofs.YtngdhnijkgjhcaaGreat
set_option linter.unusedVariables false
set_option linter.unusedSimpArgs false
namespace Go.Proofs.YtngdhnijkgjhcaaGreat
section
variable {F : GFv} {p m v g : Nat} {P M : Int} {mf : List Int} {X Y : List (List Int)} {C : Int}
open Classical in
noncomputable def sqe (P M : Int) (mf : List Int) (C : Int) (X : List (List Int)) : Int := if mck P M mf C X ≠ 0 then mck P M mf C X else if (X.length : Int) ≠ C then 3 else 0
def idm (n : Nat) : List (List Int) := (List.range n).map fun i => (List.replicate n (0 : Int)).set i 1
def cmb (p m v : Nat) (x : List Int) (C : Nat) (X : List (List Int)) (k : Nat) : List Int := (List.range k).foldl (fun s i => adx p m v s (vo x i) (row X i)) (List.replicate C 0)
theorem Jl1 (x : List Int) (C : Nat) (k : Nat) : cmb p m v x C X (k + 1) = adx p m v (cmb p m v x C X k) (vo x k) (row X k) := by
 unfold cmb; rw [List.range_succ, List.foldl_append]; rfl
theorem Jrq (x : List Int) (C : Nat) : ∀ k, (cmb p m v x C X k).length = C
 | 0 => by simp [cmb]
 | k + 1 => by rw [Jl1, Jde]; exact Jrq x C k
theorem Jsl {x : List Int} {Q : List Int -> Prop} (K : GFk F p m v g) (hs : shp C X) (hx : x.length = X.length) (h : Q (cmb p m v x C.toNat X X.length)) : Jbr F x C X Q := by
 obtain ⟨h1, h2, h3⟩ := QM hs; refine ⟨⟨by omega, by omega, by omega⟩, fun y z => ∃ t : Nat, z = t /\ t <= X.length /\ y = cmb p m v x C.toNat X t, fun _ z => (X.length - z).toNat, ⟨0, rfl, Nat.zero_le _, rfl⟩, ?_⟩; rintro _ _ ⟨t, rfl, ht, rfl⟩; refine ⟨fun hlt => ?_, fun hge => by rw [show t = X.length by omega]; exact h⟩; have hr := Qd hs (t := t) (by omega); have hc := Jrq (p := p) (m := m) (v := v) (X := X) x C.toNat t; refine ⟨⟨by omega, by omega⟩, ⟨by omega, by omega⟩, ZA K (by show (row X t).length <= _; omega) (by omega) ⟨JC (by omega) (by omega), ⟨t + 1, by push_cast; rfl, by omega, ?_⟩, ?_⟩⟩
 .rw [Jl1]; rfl
 .show ((X.length : Int) - ((t : Int) + 1)).toNat < ((X.length : Int) - (t : Int)).toNat; omega
open Classical in
noncomputable def vce (p m : Nat) (x : List Int) (n : Nat) : Int := if x.length ≠ n then 3 else if ¬ Elr p m x then 2 else 0
def rgt (b : List Int) : List (List Int) := b.map fun y => [y]
def eb (p m v : Nat) (C : Int) (X : List (List Int)) (b : List Int) : ES := elim p m v C.toNat ⟨X, rgt b, [], 1⟩
end
theorem islf2 : IsLf 2 2 := ⟨by decide, by decide, fun e h _ => h⟩
theorem fv2 : FV 2 1 [] 2 1 0 := Jdq islf2 (by decide)
def A3 : List (List Int) := [[1, 1, 0], [0, 1, 1], [1, 0, 1]]
def A2 : List (List Int) := [[1, 2], [3, 4]]
instance (p m : Nat) (x : Int) : Decidable (El p m x) := inferInstanceAs (Decidable (_ /\ _))
theorem vce_ok {p m : Nat} {x : List Int} {n : Nat} (h : x.length = n) (he : Elr p m x) : vce p m x n = 0 := by
 unfold vce; rw [if_neg (fun hh => hh h), if_neg (fun hh => hh he)]
end Go.Proofs.YtngdhnijkgjhcaaGreat
set_option linter.unusedVariables false
set_option linter.unusedSimpArgs false
namespace Go.Proofs.YtngdhnijkgjhcaaGreat
end Go.Proofs.YtngdhnijkgjhcaaGreat
set_option linter.unusedVariables false
set_option linter.unusedSimpArgs false
namespace Go.Proofs.YtngdhnijkgjhcaaGreat
section
variable {F : GFv} {p m v g : Nat} {P M : Int} {mf : List Int} {X : List (List Int)} {C : Int} {set y : List Int}
def pkr (y set : List Int) : List Int := (List.range set.length).map fun i => vo y (vo set i).toNat
def pks (X : List (List Int)) (set : List Int) : List (List Int) := (List.range X.length).map fun t => pkr (row X t) set
theorem Jfc : (pkr y set).length = set.length := by simp [pkr]
theorem Jc4 : (pks X set).length = X.length := by simp [pks]
theorem Jnf {i : Nat} (h : i < set.length) : vo (pkr y set) i = vo y (vo set i).toNat := Jf0 h
theorem Ji7 {t : Nat} (h : t < X.length) : row (pks X set) t = pkr (row X t) set := Jc2 h
def bad (C : Int) (set : List Int) : Bool := set.any fun c => if c < 0 then true else decide (C <= c)
theorem bad_no (h : bad C set = false) : ∀ i, i < set.length -> 0 <= vo set i /\ vo set i < C := fun i hi => by
 have := List.any_eq_false.1 h (vo set i) (Jcc hi); split at this
 .exact absurd rfl this
 .rw [decide_eq_true_eq] at this; omega
noncomputable def colR (P M : Int) (mf : List Int) (C : Int) (X : List (List Int)) (set : List Int) : Int × List (List Int) × Int := if mck P M mf C X ≠ 0 then (0, [], mck P M mf C X) else if 256 < set.length then (0, [], 8) else if bad C set = true then (0, [], 6) else ((set.length : Int), pks X set, 0)
theorem Jsm {Q : Int × List (List Int) × Int -> Prop} (h : ∀ c Z e, colR P M mf C X set = (c, Z, e) -> Q (c, Z, e)) : Jbt P M mf C X set Q := by
 refine Jcu (fun h0 _ => h _ _ _ (if_pos h0)) fun F p m v g K hF hs he h0 => ?_; have e0 : colR P M mf C X set = if 256 < set.length then (0, [], 8) else if bad C set = true then (0, [], 6) else ((set.length : Int), pks X set, 0) := if_neg (fun hh => hh h0)
 refine ⟨fun h1 => h _ _ _ (by rw [e0, if_pos (by omega)]), fun h1 => Jce (f := fun x => if x < 0 then true else decide (C <= x)) (by omega) (fun x R hR => ⟨fun hx => by simpa [hx] using hR, fun hx => by simpa [hx] using hR⟩) ⟨fun hb6 => h _ _ _ (by rw [e0, if_neg (by omega), if_pos (show bad C set = true from hb6)]), fun hb6 => ?_⟩⟩; have hin := bad_no hb6; have hfin := h _ _ _ (by rw [e0, if_neg (by omega), if_neg (by rw [show bad C set = false from hb6]; decide)]); obtain ⟨hX, hC, hC'⟩ := QM hs; refine ⟨⟨by omega, by omega, by omega⟩, fun x z => ∃ t : Nat, z = t /\ t <= X.length /\ x.length = X.length /\ ∀ k, k < t -> row x k = row (pks X set) k, fun _ z => (X.length - z).toNat, ⟨0, rfl, Nat.zero_le _, by simp, fun k hk => by omega⟩, ?_⟩; rintro x _ ⟨t, rfl, ht, hx, hk⟩; dsimp only; refine ⟨fun hlt => ?_, fun hge => ?_⟩
 .have htl : t < X.length := by omega
  have hr := Qd hs htl; refine ⟨⟨by omega, by omega⟩, ⟨by omega, by omega, by omega⟩, ⟨by omega, by omega⟩, fun y z => ∃ s : Nat, z = s /\ s <= set.length /\ y.length = X.length /\ (∀ k, k < t -> row y k = row (pks X set) k) /\ (row y t).length = set.length /\ ∀ k, k < s -> vo (row y t) k = vo (pkr (row X t) set) k, fun _ z => (set.length - z).toNat, ⟨0, rfl, Nat.zero_le _, by rw [Zm]; exact hx, fun k hk' => ?_, ?_, fun k hk' => by omega⟩, ?_⟩
  .show row (x.set t _) k = _; rw [Qj, if_neg (fun h => by omega)]; exact hk k hk'
  .show (row (x.set t _) t).length = _; rw [Qj, if_pos ⟨rfl, by omega⟩]; simp
  rintro y _ ⟨s, rfl, hs1, hy, hk1, hyl, hk2⟩; dsimp only; refine ⟨fun hlt2 => ?_, fun hge2 => ⟨JC (by omega) (by omega), ⟨t + 1, by push_cast; rfl, by omega, hy, fun k hk' => ?_⟩, by omega⟩⟩
  .have hsl : s < set.length := by omega
   have hc := hin s hsl; refine ⟨⟨by omega, by omega⟩, ⟨by omega, by omega⟩, ⟨hc.1, by show vo set s < ((row X t).length : Int); omega⟩, ⟨by omega, by show (s : Int) < ((row y t).length : Int); omega⟩, JC (by omega) (by omega), ⟨s + 1, by push_cast; rfl, by omega, by rw [Zm]; exact hy, fun k hk' => ?_, ?_, fun k hk' => ?_⟩, by omega⟩
   .show row (y.set t _) k = _; rw [Qj, if_neg (fun h => by omega)]; exact hk1 k hk'
   .show (row (y.set t ((row y t).set s _)) t).length = _; rw [Qj, if_pos ⟨rfl, by omega⟩, List.length_set]; exact hyl
   .show vo (row (y.set t ((row y t).set s (vo (row X t) (vo set s).toNat))) t) k = _; rw [Qj, if_pos ⟨rfl, by omega⟩, Ql]; by_cases e : s = k
    .subst e; rw [if_pos ⟨rfl, by omega⟩, Jnf hsl]
    .rw [if_neg (fun h => e h.1)]; exact hk2 k (by omega)
  .rcases Nat.lt_or_ge k t with h | h
   .exact hk1 k h
   .rw [show k = t by omega, Ji7 htl]; exact QW (by rw [Jfc]; exact hyl) fun i hi => hk2 i (by omega)
 .rw [show x = pks X set from QB (by rw [Jc4]; exact hx) fun i hi => hk i (by omega)]; exact hfin
theorem Qaa {n : Int} {Q : List (List Int) -> Prop} (hn : 0 <= n /\ n <= 256) (h : Q (idm n.toNat)) : Jfp n Q := by
 refine ⟨fun x z => ∃ t : Nat, z = t /\ t <= n.toNat /\ x = (List.range t).map fun i => (List.replicate n.toNat (0 : Int)).set i 1, fun _ z => (n - z).toNat, ⟨0, rfl, Nat.zero_le _, rfl⟩, ?_⟩; rintro _ _ ⟨t, rfl, ht, rfl⟩; dsimp only; refine ⟨fun hlt => ⟨⟨by omega, by omega, by omega⟩, ⟨by omega, by omega⟩, by simp; omega, JC (by omega) (by omega), ⟨t + 1, by push_cast; rfl, by omega, ?_⟩, by omega⟩, fun hge => ?_⟩
 .rw [List.range_succ, List.map_append]; rfl
 .rw [show t = n.toNat by omega]; exact h
end
end Go.Proofs.YtngdhnijkgjhcaaGreat
set_option linter.unusedVariables false
set_option linter.unusedSimpArgs false
namespace Go.Proofs.YtngdhnijkgjhcaaGreat
section
variable {p m v : Nat} {P M : Int} {mf : List Int} {X Y : List (List Int)} {C : Int} {w : Nat}
def en (p m : Nat) (l : List Int) : Nat -> Nat := fun c => inE (p ^ m) (vo l c)
structure Lin (p m v w : Nat) (f : (Nat -> Nat) -> Nat) : Prop where
  lt : ∀ a, f a < p ^ m
  cg : ∀ {a b : Nat -> Nat}, (∀ c, c < w -> a c = b c) -> f a = f b
  ad : ∀ {a b : Nat -> Nat} {x : Nat}, (∀ c, a c < p ^ m) -> (∀ c, b c < p ^ m) -> x < p ^ m -> f (fun c => Qa p m (a c) (JE p m (dv p v) x (b c))) = Qa p m (f a) (JE p m (dv p v) x (f b))
  ml : ∀ {a : Nat -> Nat} {x : Nat}, (∀ c, a c < p ^ m) -> x < p ^ m -> f (fun c => JE p m (dv p v) x (a c)) = JE p m (dv p v) x (f a)
def Ann (p m : Nat) (f : (Nat -> Nat) -> Nat) (X : List (List Int)) : Prop := ∀ t, t < X.length -> f (en p m (row X t)) = 0
theorem YT (hF : FV P M mf p m v) (l : List Int) (c : Nat) : en p m l c < p ^ m := J6 (by have := hF.ring.q2; omega) _
theorem Jyq (hF : FV P M mf p m v) {a o : List Int} {x : Int} {c : Nat} (hc : c < a.length) : en p m (adx p m v a x o) c = Qa p m (en p m a c) (JE p m (dv p v) (inE (p ^ m) x) (en p m o c)) := by
 have R := hF.ring; have hq : 0 < p ^ m := by have := R.q2; omega
 have e0 : inE (p ^ m) 0 = 0 := QC (x := 0) hq; have hz : ∀ y, y < p ^ m -> JE p m (dv p v) 0 y = 0 := fun y hy => by rw [R.Mc hq hy]; exact R.M0 hy
 unfold en adx; split
 .rename_i h; subst h
  rw [e0, hz _ (J6 hq _), R.Az (J6 hq _)]
 .rw [Z2 hc]; split
  .rename_i h; rw [h, e0, R.M0 (J6 hq _), R.Az (J6 hq _)]
  .unfold Ad Ml; rw [QC (R.Al _ _), QC (R.Ml _ _)]
theorem en_sc (hF : FV P M mf p m v) {l : List Int} {x : Int} {c : Nat} (hc : c < l.length) : en p m (sc p m v x l) c = JE p m (dv p v) (inE (p ^ m) x) (en p m l c) := by
 unfold en; rw [Jfy hc]; unfold Ml; rw [QC (hF.ring.Ml _ _)]
theorem Lin.adx {f : (Nat -> Nat) -> Nat} (L : Lin p m v w f) (hF : FV P M mf p m v) {a o : List Int} {x : Int} (ha : a.length = w) : f (en p m (adx p m v a x o)) = Qa p m (f (en p m a)) (JE p m (dv p v) (inE (p ^ m) x) (f (en p m o))) := by
 rw [<- L.ad (YT hF a) (YT hF o) (J6 (by have := hF.ring.q2; omega) x)]; exact L.cg fun c hc => Jyq hF (by omega)
theorem Lin.sc {f : (Nat -> Nat) -> Nat} (L : Lin p m v w f) (hF : FV P M mf p m v) {l : List Int} {x : Int} (hl : l.length = w) : f (en p m (sc p m v x l)) = JE p m (dv p v) (inE (p ^ m) x) (f (en p m l)) := by
 rw [<- L.ml (YT hF l) (J6 (by have := hF.ring.q2; omega) x)]; exact L.cg fun c hc => en_sc hF (by omega)
theorem Z4 {r cur t : Nat} (hr : r < X.length) (hc : cur < X.length) : row (swq X r cur) t = if t = cur then row X r else if t = r then row X cur else row X t := by
  unfold swq
  split
  . rename_i h; subst h
    split
    . rename_i h; rw [h]
    . rfl
  . exact Z5 hr hc
theorem Ji6 {cur t : Nat} {e : Int} (hc : cur < X.length) : row (scq p m v X cur e) t = if t = cur then sc p m v (Iv p m v e) (row X cur) else row X t := by
 unfold scq; rw [Qj]; by_cases h : cur = t
 .rw [if_pos ⟨h, hc⟩, if_pos h.symm]
 .rw [if_neg (fun hh => h hh.1), if_neg (fun hh => h hh.symm)]
theorem Qbv {f : (Nat -> Nat) -> Nat} {r cur : Nat} (hr : r < X.length) (hc : cur < X.length) (h : Ann p m f (swq X r cur)) : Ann p m f X := fun t ht => by
 rw [Ann, J2] at h; by_cases h1 : t = r
 .have := h cur hc; rw [Z4 hr hc, if_pos rfl] at this; rw [h1]; exact this
 .by_cases h2 : t = cur
  .have := h r hr; rw [Z4 hr hc] at this; rw [if_neg (fun e => h1 (h2.trans e.symm)), if_pos rfl] at this; rw [h2]; exact this
  .have := h t ht; rw [Z4 hr hc, if_neg h2, if_neg h1] at this; exact this
theorem Qbw {f : (Nat -> Nat) -> Nat} (L : Lin p m v w f) (hF : FV P M mf p m v) {cur : Nat} {e : Int} {z : Nat} (hz : z < p ^ m) (he : JE p m (dv p v) z (inE (p ^ m) (Iv p m v e)) = 1) (hc : cur < X.length) (hw : (row X cur).length = w) (h : Ann p m f (scq p m v X cur e)) : Ann p m f X := fun t ht => by
 have R := hF.ring; have q1 : 1 < p ^ m := R.q2; rw [Ann, QA] at h; have h3 := h t ht; rw [Ji6 hc] at h3; split at h3
 .rename_i h1; subst h1
  rw [L.sc hF hw] at h3; have hi := J6 (q := p ^ m) (by omega) (Iv p m v e); have h4 := R.Ma hz hi (L.lt (en p m (row X t))); rw [he, h3, R.M0 hz, R.Mc q1 (L.lt _), R.M1 (L.lt _)] at h4; exact h4
 .exact h3
theorem Qbx {f : (Nat -> Nat) -> Nat} (L : Lin p m v w f) (hF : FV P M mf p m v) {cur : Nat} {g : Nat -> Int} (hc : cur < X.length) (hw : ∀ t, t < X.length -> (row X t).length = w) (h : Ann p m f (clr p m v g cur X)) : Ann p m f X := fun t ht => by
 have R := hF.ring; have hq : 0 < p ^ m := by have := R.q2; omega
 rw [Ann, Y6] at h; have hcur := h cur hc; rw [Zo hc, if_pos rfl] at hcur; have h3 := h t ht; rw [Zo ht] at h3; split at h3
 .exact h3
 .rw [L.adx hF (hw t ht), hcur, R.M0 (J6 hq _), R.Az (L.lt _)] at h3; exact h3
theorem iv_ex {g : Nat} (K : Gn (p ^ m) (JE p m (dv p v)) g) (hF : FV P M mf p m v) {x : Int} (h0 : x ≠ 0) (hx : El p m x) : inE (p ^ m) x < p ^ m /\ JE p m (dv p v) (inE (p ^ m) x) (inE (p ^ m) (Iv p m v x)) = 1 := by
 have R := hF.ring; have q1 : 1 < p ^ m := R.q2; have hx1 := J6 (q := p ^ m) (by omega) x; have hne : 0 < inE (p ^ m) x := by
  have := Jay hx; omega
 have h1 := K.xone R hne hx1; refine ⟨hx1, ?_⟩; have hz : pw (JE p m (dv p v)) (inE (p ^ m) x) (p ^ m - 1 - 1) < p ^ m := by
  cases p ^ m - 1 - 1 with
  | zero => exact q1
  | succ n => exact R.Ml _ _
 have h2 : JE p m (dv p v) (pw (JE p m (dv p v)) (inE (p ^ m) x) (p ^ m - 1 - 1)) (inE (p ^ m) x) = 1 := by
  rw [show p ^ m - 1 = (p ^ m - 1 - 1) + 1 by omega] at h1; exact h1
 rw [Jsi R hx1 hz h2, QC hz, R.Mc hx1 hz]; exact h2
theorem Jzb {g : Nat} (K : Gn (p ^ m) (JE p m (dv p v)) g) (hF : FV P M mf p m v) {f : (Nat -> Nat) -> Nat} (L : Lin p m v w f) {S : ES} {c : Nat} (he : Els p m S.X) (hw : ∀ t, t < S.X.length -> (row S.X t).length = w) (h : Ann p m f (Q9 p m v S c).X) : Ann p m f S.X := by
  unfold Q9 at h
  split at h
  . rename_i h1
    obtain ⟨hc, hr⟩ := h1
    rw [Jb7] at h
    have hw1 : ∀ t, t < (swq S.X (nz S.X c S.pv.length) S.pv.length).length -> (row (swq S.X (nz S.X c S.pv.length) S.pv.length) t).length = w := fun t ht => by
      rw [J2] at ht; exact QX hr hc hw ht
    have hrow : row (swq S.X (nz S.X c S.pv.length) S.pv.length) S.pv.length = row S.X (nz S.X c S.pv.length) := by rw [Z4 hr hc, if_pos rfl]
    have hne := (Jac S.X c S.pv.length (by omega)).2.2 hr
    have hcl : c < (row S.X (nz S.X c S.pv.length)).length := by
      rcases Nat.lt_or_ge c (row S.X (nz S.X c S.pv.length)).length with h | h
      . exact h
      . exact absurd (Jb0 h) hne
    have hel : El p m (vo (row S.X (nz S.X c S.pv.length)) c) := Qf he _ _ (Jcc hcl)
    obtain ⟨h4, h5⟩ := iv_ex K hF hne hel
    have h2 := Qbx L hF (by rw [QA, J2]; exact hc) (fun t ht => by rw [QA] at ht; exact QZ (by rw [J2]; exact hc) hw1 ht) h
    rw [hrow] at h2
    have h3 := Qbw L hF h4 h5 (by rw [J2]; exact hc) (hw1 _ (by rw [J2]; exact hc)) h2
    exact Qbv hr hc h3
  . exact h
theorem Jml {g : Nat} (K : Gn (p ^ m) (JE p m (dv p v)) g) (hF : FV P M mf p m v) {f : (Nat -> Nat) -> Nat} (L : Lin p m v w f) {n wy : Nat} {S : ES} (hS : Shp n w wy S) (he : Els p m S.X) : ∀ k, Ann p m f (elim p m v k S).X -> Ann p m f S.X
 | 0, h => h
 | k + 1, h => by
  rw [QS] at h; have hk := Zf (p := p) (m := m) (v := v) hS k; refine Jml K hF L hS he k (Jzb K hF L (Ja1 (by have := hF.p2; omega) he k) (fun t ht => hk.xr t (by have := hk.xl; omega)) h)
end
end Go.Proofs.YtngdhnijkgjhcaaGreat
set_option linter.unusedVariables false
set_option linter.unusedSimpArgs false
namespace Go.Proofs.YtngdhnijkgjhcaaGreat
section
variable {p m v g : Nat} {P M : Int} {mf : List Int} {X Y : List (List Int)} {C : Int} {w : Nat}
structure Red (k : Nat) (S : ES) : Prop where
  one : ∀ i, i < S.pv.length -> ∀ t, t < S.X.length -> vo (row S.X t) (vo S.pv i).toNat = if t = i then 1 else 0
  lo : ∀ t, S.pv.length <= t -> t < S.X.length -> ∀ c, c < k -> vo (row S.X t) c = 0
  lf : ∀ i, i < S.pv.length -> ∀ c : Nat, (c : Int) < vo S.pv i -> vo (row S.X i) c = 0
theorem Qaf {a o : List Int} {x : Int} {c : Nat} (h : vo o c = 0) : vo (adx p m v a x o) c = vo a c := by
 unfold adx; split
 .rfl
 .rcases Nat.lt_or_ge c a.length with hc | hc
  .rw [Z2 hc, if_pos h]
  .rw [Jb0 hc, Jb0 (by rw [Jbk]; exact hc)]
theorem Jwo (hF : FV P M mf p m v) {l : List Int} {x : Int} {c : Nat} (h : vo l c = 0) : vo (sc p m v x l) c = 0 := by
 have hq : 0 < p ^ m := by have := hF.ring.q2; omega
 rcases Nat.lt_or_ge c l.length with hc | hc
 .rw [Jfy hc, h]; unfold Ml; rw [show inE (p ^ m) 0 = 0 from QC (x := 0) hq, hF.ring.M0 (J6 hq _)]; rfl
 .exact Jb0 (by unfold sc; rw [List.length_map]; exact hc)
theorem Jxn (K : Gn (p ^ m) (JE p m (dv p v)) g) (hF : FV P M mf p m v) {S : ES} {k : Nat} (hA : Asc k S.pv) (hl : S.pv.length <= S.X.length) (he : Els p m S.X) (h : Red k S) : Red (k + 1) (Q9 p m v S k) := by
 have R := hF.ring; have q1 : 1 < p ^ m := R.q2; have hp : 0 < p := by have := hF.p2; omega
 unfold Q9; split
 case isFalse h1 =>
  refine ⟨h.one, fun t ht1 ht2 c hc => ?_, h.lf⟩; rcases Nat.lt_or_ge c k with hck | hck
  .exact h.lo t ht1 ht2 c hck
  .have e : c = k := by omega
   subst e; have hs := Jac S.X c S.pv.length hl; exact hs.2.1 t ht1 (by
    rcases Nat.lt_or_ge t (nz S.X c S.pv.length) with h | h
    .exact h
    .exact absurd ⟨by omega, by omega⟩ h1)
 case isTrue h1 =>
  obtain ⟨hc, hr⟩ := h1; have hrs := Jre S.X k S.pv.length; have hne := (Jac S.X k S.pv.length hl).2.2 hr; have hkl : k < (row S.X (nz S.X k S.pv.length)).length := by
   rcases Nat.lt_or_ge k (row S.X (nz S.X k S.pv.length)).length with h | h
   .exact h
   .exact absurd (Jb0 h) hne
  have hel : El p m (vo (row S.X (nz S.X k S.pv.length)) k) := Qf he _ _ (Jcc hkl); obtain ⟨h4, h5⟩ := iv_ex K hF hne hel; have hE3 : Els p m (es1 p m v k (nz S.X k S.pv.length) S.pv.length S).X := Jjx hp he hr hc; have hn : (es1 p m v k (nz S.X k S.pv.length) S.pv.length S).X.length = S.X.length := by rw [Jb7, Y6, QA, J2]
  generalize hrr : nz S.X k S.pv.length = r at *
  have hx2 : ∀ t, row (scq p m v (swq S.X r S.pv.length) S.pv.length (vo (row (swq S.X r S.pv.length) S.pv.length) k)) t = if t = S.pv.length then sc p m v (Iv p m v (vo (row S.X r) k)) (row S.X r) else if t = r then row S.X S.pv.length else row S.X t := fun t => by
   rw [Ji6 (by rw [J2]; exact hc), Z4 hr hc, Z4 hr hc, if_pos rfl]; split <;> rfl
  have hx3 : ∀ t, t < S.X.length -> row (es1 p m v k r S.pv.length S).X t = if t = S.pv.length then sc p m v (Iv p m v (vo (row S.X r) k)) (row S.X r) else adx p m v (if t = r then row S.X S.pv.length else row S.X t) (Ng p m (vo (if t = r then row S.X S.pv.length else row S.X t) k)) (sc p m v (Iv p m v (vo (row S.X r) k)) (row S.X r)) := fun t ht => by
   rw [Jb7, Zo (by rw [QA, J2]; exact ht), hx2, hx2, if_pos rfl]; split
   .rfl
   .rfl
  -- the columns before stay
  have hold : ∀ t, t < S.X.length -> ∀ c, c < k -> vo (row (es1 p m v k r S.pv.length S).X t) c = vo (row S.X t) c := fun t ht c hck => by
   have z1 : vo (row S.X r) c = 0 := h.lo r hrs hr c hck; have z2 : vo (row S.X S.pv.length) c = 0 := h.lo _ (Nat.le_refl _) hc c hck; rw [hx3 t ht]; split
   .rename_i e; rw [Jwo hF z1, e, z2]
   .rw [Qaf (Jwo hF z1)]; split
    .rename_i e; rw [z2, e, z1]
    .rfl
  have hone : vo (sc p m v (Iv p m v (vo (row S.X r) k)) (row S.X r)) k = 1 := by
   rw [Jfy hkl]; unfold Ml; rw [R.Mc (J6 (by omega) _) h4, h5]; rfl
  have hnew : ∀ t, t < S.X.length -> vo (row (es1 p m v k r S.pv.length S).X t) k = if t = S.pv.length then 1 else 0 := fun t ht => by
   have hEt := Qf hE3 t; have hx := hx3 t ht; by_cases e : t = S.pv.length
   .rw [if_pos e] at hx ⊢; rw [hx]; exact hone
   .rw [if_neg e] at hx ⊢; rcases Nat.lt_or_ge k (if t = r then row S.X S.pv.length else row S.X t).length with hkt | hkt
    .have h6 := Jyq hF (x := Ng p m (vo (if t = r then row S.X S.pv.length else row S.X t) k)) (o := sc p m v (Iv p m v (vo (row S.X r) k)) (row S.X r)) hkt; rw [<- hx] at h6; have h7 : en p m (sc p m v (Iv p m v (vo (row S.X r) k)) (row S.X r)) k = 1 := by unfold en; rw [hone]; exact QC (x := 1) q1
     rw [h7] at h6; unfold Ng at h6; have h8 : Q0 p m (inE (p ^ m) (vo (if t = r then row S.X S.pv.length else row S.X t) k)) < p ^ m := YK hp _; rw [QC h8, R.M1 h8] at h6; have h9 : en p m (row (es1 p m v k r S.pv.length S).X t) k = 0 := by rw [h6]; exact YS hp (J6 (by omega) _)
     have h10 : El p m (vo (row (es1 p m v k r S.pv.length S).X t) k) := hEt _ (Jcc (by rw [hx, Jde]; exact hkt)); rw [<- Jay h10]; show ((en p m (row (es1 p m v k r S.pv.length S).X t) k : Nat) : Int) = 0; rw [h9]; rfl
    .rw [hx]; exact Jb0 (by rw [Jde]; exact hkt)
  have hpv : (es1 p m v k r S.pv.length S).pv = S.pv ++ [(k : Int)] := rfl; refine ⟨fun i hi t ht => ?_, fun t ht1 ht2 c hck => ?_, fun i hi c hci => ?_⟩
  .rw [hn] at ht; rw [hpv, List.length_append, List.length_singleton] at hi; rw [hpv, Jcw]; by_cases e : i < S.pv.length
   .rw [if_pos e, hold t ht _ (by have := hA.1 i e; omega)]; exact h.one i e t ht
   .have e2 : i = S.pv.length := by omega
    rw [if_neg e, if_pos e2, e2]; exact hnew t ht
  .rw [hn] at ht2; rw [hpv, List.length_append, List.length_singleton] at ht1; rcases Nat.lt_or_ge c k with h6 | h6
   .rw [hold t ht2 c h6]; exact h.lo t (by omega) ht2 c h6
   .rw [show c = k by omega, hnew t ht2, if_neg (by omega)]
  .rw [hpv, List.length_append, List.length_singleton] at hi; rw [hpv, Jcw] at hci; by_cases e : i < S.pv.length
   .rw [if_pos e] at hci; rw [hold i (by omega) c (by have := hA.1 i e; omega)]; exact h.lf i e c hci
   .have e2 : i = S.pv.length := by omega
    rw [if_neg e, if_pos e2] at hci; rw [hold i (by omega) c (by omega), e2]; exact h.lo _ (Nat.le_refl _) hc c (by omega)
theorem Jlf (K : Gn (p ^ m) (JE p m (dv p v)) g) (hF : FV P M mf p m v) {n wy : Nat} {S : ES} (hS : Shp n w wy S) (he : Els p m S.X) (h0 : S.pv = []) : ∀ k, Red k (elim p m v k S)
 | 0 => ⟨fun i hi => by
   have : (elim p m v 0 S).pv = [] := h0; rw [this] at hi; exact absurd hi (Nat.not_lt_zero _), fun t _ _ c hc => absurd hc (Nat.not_lt_zero _), fun i hi => by
   have : (elim p m v 0 S).pv = [] := h0; rw [this] at hi; exact absurd hi (Nat.not_lt_zero _)⟩
 | k + 1 => by
  rw [QS]; have hk := Zf (p := p) (m := m) (v := v) hS k; exact Jxn K hF (Jg4 h0 k) (by have := hk.pl; have := hk.xl; omega) (Ja1 (by have := hF.p2; omega) he k) (Jlf K hF hS he h0 k)
end
end Go.Proofs.YtngdhnijkgjhcaaGreat
set_option linter.unusedVariables false
set_option linter.unusedSimpArgs false
namespace Go.Proofs.YtngdhnijkgjhcaaGreat
section
variable {p m v g : Nat} {P M : Int} {mf : List Int} {X Y : List (List Int)} {C : Int} {w : Nat}
def fs (p m : Nat) (f : Nat -> Nat) : Nat -> Nat
  | 0 => 0
  | n + 1 => Qa p m (fs p m f n) (f n)
theorem Jes (hF : FV P M mf p m v) (f : Nat -> Nat) : ∀ n, fs p m f n < p ^ m
 | 0 => by have := hF.ring.q2; show 0 < _; omega
 | n + 1 => hF.ring.Al _ _
theorem fs_cg {f h : Nat -> Nat} : ∀ n, (∀ i, i < n -> f i = h i) -> fs p m f n = fs p m h n
 | 0, _ => rfl
 | n + 1, e => by show Qa p m _ _ = Qa p m _ _; rw [fs_cg n fun i hi => e i (by omega), e n (by omega)]
theorem mix (hF : FV P M mf p m v) {a b c d : Nat} (ha : a < p ^ m) (hb : b < p ^ m) (hc : c < p ^ m) (hd : d < p ^ m) : Qa p m (Qa p m a b) (Qa p m c d) = Qa p m (Qa p m a c) (Qa p m b d) := by
 have R := hF.ring; rw [R.Aa ha hb (R.Al _ _), <- R.Aa hb hc hd, R.Ac b c, R.Aa hc hb hd, <- R.Aa ha hc (R.Al _ _)]
theorem Joh (hF : FV P M mf p m v) {f h : Nat -> Nat} {x : Nat} (hf : ∀ i, f i < p ^ m) (hh : ∀ i, h i < p ^ m) (hx : x < p ^ m) : ∀ n, fs p m (fun i => Qa p m (f i) (JE p m (dv p v) x (h i))) n = Qa p m (fs p m f n) (JE p m (dv p v) x (fs p m h n))
 | 0 => by
  have R := hF.ring; show 0 = Qa p m 0 (JE p m (dv p v) x 0); rw [R.M0 hx, R.Az (by have := R.q2; omega)]
 | n + 1 => by
  have R := hF.ring; show Qa p m (fs p m _ n) _ = Qa p m (Qa p m _ _) (JE p m (dv p v) x (Qa p m _ _)); rw [Joh hF hf hh hx n, R.Md hx (Jes hF h n) (hh n), mix hF (Jes hF f n) (R.Ml _ _) (hf n) (R.Ml _ _)]
theorem fs_ml (hF : FV P M mf p m v) {f : Nat -> Nat} {x : Nat} (hf : ∀ i, f i < p ^ m) (hx : x < p ^ m) : ∀ n, fs p m (fun i => JE p m (dv p v) x (f i)) n = JE p m (dv p v) x (fs p m f n)
 | 0 => by show 0 = JE p m (dv p v) x 0; rw [hF.ring.M0 hx]
 | n + 1 => by
  show Qa p m (fs p m _ n) _ = JE p m (dv p v) x (Qa p m _ _); rw [fs_ml hF hf hx n, hF.ring.Md hx (Jes hF f n) (hf n)]
theorem Jfh (hF : FV P M mf p m v) {f : Nat -> Nat} : ∀ n, (∀ i, i < n -> f i = 0) -> fs p m f n = 0
 | 0, _ => rfl
 | n + 1, h => by
  show Qa p m (fs p m f n) (f n) = 0; rw [Jfh hF n fun i hi => h i (by omega), h n (by omega), hF.ring.Az (by have := hF.ring.q2; omega)]
theorem Jog (hF : FV P M mf p m v) {f : Nat -> Nat} {j : Nat} (hj : f j < p ^ m) : ∀ n, j < n -> (∀ i, i < n -> i ≠ j -> f i = 0) -> fs p m f n = f j
 | 0, h, _ => absurd h (Nat.not_lt_zero _)
 | n + 1, h, e => by
  have R := hF.ring; show Qa p m (fs p m f n) (f n) = f j; by_cases en : n = j
  .subst en; rw [Jfh hF n fun i hi => e i (by omega) (by omega), R.Ac, R.Az hj]
  .rw [Jog hF hj n (by omega) fun i hi => e i (by omega), e n (by omega) en, R.Az hj]
def cof (p m v c r : Nat) (pv : Nat -> Nat) (nR : Nat -> Nat) (a : Nat -> Nat) : Nat := Qa p m (a c) (fs p m (fun i => JE p m (dv p v) (nR i) (a (pv i))) r)
theorem Qbr (hF : FV P M mf p m v) {c r : Nat} {pv nR : Nat -> Nat} (hc : c < w) (hpv : ∀ i, i < r -> pv i < w) (hn : ∀ i, nR i < p ^ m) : Lin p m v w (cof p m v c r pv nR) where
 lt a := hF.ring.Al _ _
 cg h := by
  unfold cof; rw [h c hc, fs_cg r fun i hi => by rw [h _ (hpv i hi)]]
 ad {a b x} ha hb hx := by
  have R := hF.ring; unfold cof; have e : (fun i => JE p m (dv p v) (nR i) (Qa p m (a (pv i)) (JE p m (dv p v) x (b (pv i))))) = fun i => Qa p m (JE p m (dv p v) (nR i) (a (pv i))) (JE p m (dv p v) x (JE p m (dv p v) (nR i) (b (pv i)))) := funext fun i => by
   rw [R.Md (hn i) (ha _) (R.Ml _ _), <- R.Ma (hn i) hx (hb _), R.Mc (hn i) hx, R.Ma hx (hn i) (hb _)]
  rw [e, Joh hF (fun i => R.Ml _ _) (fun i => R.Ml _ _) hx, mix hF (ha c) (R.Ml _ _) (Jes hF _ _) (R.Ml _ _), <- R.Md hx (hb c) (Jes hF _ _)]
 ml {a x} ha hx := by
  have R := hF.ring; unfold cof; have e : (fun i => JE p m (dv p v) (nR i) (JE p m (dv p v) x (a (pv i)))) = fun i => JE p m (dv p v) x (JE p m (dv p v) (nR i) (a (pv i))) := funext fun i => by
   rw [<- R.Ma (hn i) hx (ha _), R.Mc (hn i) hx, R.Ma hx (hn i) (ha _)]
  rw [e, fs_ml hF (fun i => R.Ml _ _) hx, <- R.Md hx (ha c) (Jes hF _ _)]
theorem Jyk (hF : FV P M mf p m v) : ∃ g, Gn (p ^ m) (JE p m (dv p v)) g := hF.gen
end
end Go.Proofs.YtngdhnijkgjhcaaGreat
set_option linter.unusedVariables false
set_option linter.unusedSimpArgs false
namespace Go.Proofs.YtngdhnijkgjhcaaGreat
section
variable {p m v g : Nat} {P M : Int} {mf : List Int} {X Y : List (List Int)} {C : Int} {w : Nat}
theorem Jeu (hF : FV P M mf p m v) {l : List Int} {c : Nat} {z : Nat} (hz : z < p ^ m) (h : vo l c = (z : Int)) : en p m l c = z := by unfold en; rw [h]; exact QC hz
theorem Jj3 (hF : FV P M mf p m v) (hs : shp C X) (he : Els p m X) : Red C.toNat (ec p m v C X) := by
 obtain ⟨g, G⟩ := Jyk hF; exact Jlf G hF (Jbb hs) he rfl _
theorem Zg (hF : FV P M mf p m v) (he : Els p m X) : Els p m (Qb p m v C X) := fun r hr => Ja1 (S := ⟨X, List.replicate X.length [], [], 1⟩) (by have := hF.p2; omega) he C.toNat r (List.mem_of_mem_take hr)
theorem Jda (hF : FV P M mf p m v) (hs : shp C X) (he : Els p m X) {i t : Nat} (hi : i < (Qe p m v C X).length) (ht : t < (Qe p m v C X).length) : vo (row (Qb p m v C X) t) (vo (Qe p m v C X) i).toNat = if t = i then 1 else 0 := by
 have hS := Ja2 (p := p) (m := m) (v := v) hs; have := Jg9 (p := p) (m := m) (v := v) hs; rw [show row (Qb p m v C X) t = row (ec p m v C X).X t from Jau ht]; exact (Jj3 hF hs he).one i hi t (by have := hS.xl; omega)
theorem Jg8 (hF : FV P M mf p m v) (hs : shp C X) (he : Els p m X) {i c : Nat} (hi : i < (Qe p m v C X).length) (hc : (c : Int) < vo (Qe p m v C X) i) : vo (row (Qb p m v C X) i) c = 0 := by
 rw [show row (Qb p m v C X) i = row (ec p m v C X).X i from Jau hi]; exact (Jj3 hF hs he).lf i hi c hc
end
end Go.Proofs.YtngdhnijkgjhcaaGreat
set_option linter.unusedVariables false
set_option linter.unusedSimpArgs false
namespace Go.Proofs.YtngdhnijkgjhcaaGreat
end Go.Proofs.YtngdhnijkgjhcaaGreat
set_option linter.unusedVariables false
set_option linter.unusedSimpArgs false
namespace Go.Proofs.YtngdhnijkgjhcaaGreat
section
variable {p m v : Nat} {P M : Int} {mf : List Int} {X Y : List (List Int)} {C : Int} {w : Nat}
theorem Jza {f : (Nat -> Nat) -> Nat} {r cur : Nat} (hr : r < X.length) (hc : cur < X.length) (h : Ann p m f X) : Ann p m f (swq X r cur) := fun t ht => by
  rw [J2] at ht
  rw [Z4 hr hc]
  split
  . exact h r hr
  . split
    . exact h cur hc
    . exact h t ht
theorem Jzc {f : (Nat -> Nat) -> Nat} (L : Lin p m v w f) (hF : FV P M mf p m v) {cur : Nat} {e : Int} (hc : cur < X.length) (hw : (row X cur).length = w) (h : Ann p m f X) : Ann p m f (scq p m v X cur e) := fun t ht => by
 rw [QA] at ht; rw [Ji6 hc]; split
 .rw [L.sc hF hw, h cur hc, hF.ring.M0 (J6 (by have := hF.ring.q2; omega) _)]
 .exact h t ht
theorem Jzd {f : (Nat -> Nat) -> Nat} (L : Lin p m v w f) (hF : FV P M mf p m v) {cur : Nat} {g : Nat -> Int} (hc : cur < X.length) (hw : ∀ t, t < X.length -> (row X t).length = w) (h : Ann p m f X) : Ann p m f (clr p m v g cur X) := fun t ht => by
 have R := hF.ring; have hq : 0 < p ^ m := by have := R.q2; omega
 rw [Y6] at ht; rw [Zo ht]; split
 .exact h t ht
 .rw [L.adx hF (hw t ht), h cur hc, h t ht, R.M0 (J6 hq _), R.Az hq]
theorem Jtu (hF : FV P M mf p m v) {f : (Nat -> Nat) -> Nat} (L : Lin p m v w f) {S : ES} {c : Nat} (hw : ∀ t, t < S.X.length -> (row S.X t).length = w) (h : Ann p m f S.X) : Ann p m f (Q9 p m v S c).X := by
 unfold Q9; split
 .rename_i h1
  obtain ⟨hc, hr⟩ := h1; rw [Jb7]; have hw1 : ∀ t, t < (swq S.X (nz S.X c S.pv.length) S.pv.length).length -> (row (swq S.X (nz S.X c S.pv.length) S.pv.length) t).length = w := fun t ht => by
   rw [J2] at ht; exact QX hr hc hw ht
  exact Jzd L hF (by rw [QA, J2]; exact hc) (fun t ht => by rw [QA] at ht; exact QZ (by rw [J2]; exact hc) hw1 ht) (Jzc L hF (by rw [J2]; exact hc) (hw1 _ (by rw [J2]; exact hc)) (Jza hr hc h))
 .exact h
theorem Jiq (hF : FV P M mf p m v) {f : (Nat -> Nat) -> Nat} (L : Lin p m v w f) {n wy : Nat} {S : ES} (hS : Shp n w wy S) (h : Ann p m f S.X) : ∀ k, Ann p m f (elim p m v k S).X
 | 0 => h
 | k + 1 => by
  rw [QS]; have hk := Zf (p := p) (m := m) (v := v) hS k; exact Jtu hF L (fun t ht => hk.xr t (by have := hk.xl; omega)) (Jiq hF L hS h k)
theorem Jdd (hF : FV P M mf p m v) (hs : shp C X) (he : Els p m X) {f : (Nat -> Nat) -> Nat} (L : Lin p m v C.toNat f) : Ann p m f (Qb p m v C X) ↔ Ann p m f X := by
  have R := hF.ring
  have hq : 0 < p ^ m := by have := R.q2; omega
  obtain ⟨g, G⟩ := Jyk hF
  have hS := Ja2 (p := p) (m := m) (v := v) hs
  have red := Jj3 hF hs he
  have hl := Yb (p := p) (m := m) (v := v) hs
  have hpl := Jg9 (p := p) (m := m) (v := v) hs
  have f0 : ∀ a : Nat -> Nat, (∀ c, c < C.toNat -> a c = 0) -> f a = 0 := fun a ha => by
    have h1 := L.ml (a := fun _ => 0) (x := 0) (fun _ => hq) hq
    rw [R.Mc hq (L.lt _), R.M0 (L.lt _)] at h1
    rw [<- h1]
    exact L.cg fun c hc => by rw [ha c hc, R.M0 hq]
  refine ⟨fun h => Jml G hF L (Jbb hs) he C.toNat fun t ht => ?_, fun h t ht => ?_⟩
  . by_cases hr : t < (Qe p m v C X).length
    . have := h t (by omega)
      rwa [show row (Qb p m v C X) t = row (ec p m v C X).X t from Jau hr] at this
    . exact f0 _ fun c hc => Jeu hF hq (red.lo t (by show (Qe p m v C X).length <= t; omega) ht c hc)
  . rw [show row (Qb p m v C X) t = row (ec p m v C X).X t from Jau (by show t < (Qe p m v C X).length; omega)]
    exact Jiq hF L (Jbb hs) h C.toNat t (by have := hS.xl; show t < (ec p m v C X).X.length; omega)
end
end Go.Proofs.YtngdhnijkgjhcaaGreat
set_option linter.unusedVariables false
set_option linter.unusedSimpArgs false
namespace Go.Proofs.YtngdhnijkgjhcaaGreat
section
variable {p m v : Nat} {P M : Int} {mf : List Int} {X Y : List (List Int)} {C : Int} {w : Nat}
end
end Go.Proofs.YtngdhnijkgjhcaaGreat
set_option linter.unusedVariables false
set_option linter.unusedSimpArgs false
namespace Go.Proofs.YtngdhnijkgjhcaaGreat
section
variable {p m v : Nat} {P M : Int} {mf : List Int} {X Y : List (List Int)} {C : Int} {w : Nat}
end
end Go.Proofs.YtngdhnijkgjhcaaGreat
set_option linter.unusedVariables false
set_option linter.unusedSimpArgs false
namespace Go.Proofs.YtngdhnijkgjhcaaGreat
section
variable {p m v : Nat} {P M : Int} {mf : List Int} {X Y : List (List Int)} {C : Int} {w : Nat}
end
end Go.Proofs.YtngdhnijkgjhcaaGreat
set_option linter.unusedVariables false
set_option linter.unusedSimpArgs false
namespace Go.Proofs.YtngdhnijkgjhcaaGreat
section
variable {p m v : Nat} {P M : Int} {mf : List Int} {X Y : List (List Int)} {C : Int} {w wy : Nat}
def e2 (p m w : Nat) (a b : List Int) : Nat -> Nat := fun c => if c < w then en p m a c else en p m b (c - w)
end
end Go.Proofs.YtngdhnijkgjhcaaGreat
set_option linter.unusedVariables false
set_option linter.unusedSimpArgs false
namespace Go.Proofs.YtngdhnijkgjhcaaGreat
section
variable {p m v : Nat} {P M : Int} {mf : List Int} {X Y : List (List Int)} {C : Int} {w wy : Nat}
def u1 (p m w : Nat) (u : Nat -> Nat) : Nat -> Nat := fun c => if c < w then u c else Q0 p m 1
end
end Go.Proofs.YtngdhnijkgjhcaaGreat
set_option linter.unusedVariables false
set_option linter.unusedSimpArgs false
namespace Go.Proofs.YtngdhnijkgjhcaaGreat
end Go.Proofs.YtngdhnijkgjhcaaGreat
set_option linter.unusedVariables false
set_option linter.unusedSimpArgs false
namespace Go.Proofs.YtngdhnijkgjhcaaGreat
section
variable {p m v : Nat} {P M : Int} {mf : List Int} {X Y : List (List Int)} {C D : Int} {w wy : Nat}
def mm (p m v w : Nat) (A B : List (List Int)) : List (List Int) := (List.range A.length).map fun t => cmb p m v (row A t) w B B.length
theorem mm_len (A B : List (List Int)) : (mm p m v w A B).length = A.length := by simp [mm]
theorem row_mm {A B : List (List Int)} {t : Nat} (h : t < A.length) : row (mm p m v w A B) t = cmb p m v (row A t) w B B.length := Jc2 h
theorem Qbb {A B : List (List Int)} (hl : A.length = B.length) (ha : Els p m A) (hb : Els p m B) (hw : ∀ t, t < A.length -> (row A t).length = w /\ (row B t).length = w) (h : ∀ t c, t < A.length -> c < w -> en p m (row A t) c = en p m (row B t) c) : A = B :=
  QB hl fun t ht => QW (by rw [(hw t ht).1, (hw t ht).2]) fun c hc => by
    rw [(hw t ht).1] at hc
    have e := h t c ht hc
    have e1 := Jay (ZD (Qf ha t) (t := c) (by rw [(hw t ht).1]; exact hc))
    have e2 := Jay (ZD (Qf hb t) (t := c) (by rw [(hw t ht).2]; exact hc))
    unfold en at e
    rw [<- e1, <- e2, e]
def tr (n : Nat) (A : List (List Int)) : List (List Int) := (List.range n).map fun c => (List.range A.length).map fun t => vo (row A t) c
theorem Jw2 (n : Nat) (A : List (List Int)) : (tr n A).length = n := by simp [tr]
theorem Jxl {n c : Nat} {A : List (List Int)} (h : c < n) : row (tr n A) c = (List.range A.length).map fun t => vo (row A t) c := Jc2 h
theorem Jnk {n c : Nat} {A : List (List Int)} (h : c < n) : (row (tr n A) c).length = A.length := by rw [Jxl h]; simp
theorem tr_at {n c t : Nat} {A : List (List Int)} (h : c < n) (ht : t < A.length) : vo (row (tr n A) c) t = vo (row A t) c := by rw [Jxl h]; exact Jf0 ht
theorem tr_shp (hs : shp C X) : shp (X.length : Int) (tr C.toNat X) := by
 obtain ⟨h1, h2, h3⟩ := QM hs; refine ⟨by omega, by omega, by rw [Jw2]; exact h2, fun r hr => ?_⟩; obtain ⟨c, _, rfl⟩ := List.mem_map.1 hr; simp
theorem tr_els (hs : shp C X) (he : Els p m X) : Els p m (tr C.toNat X) := fun r hr => by
 obtain ⟨c, hc, rfl⟩ := List.mem_map.1 hr; have hc := List.mem_range.1 hc; intro x hx; obtain ⟨t, ht, rfl⟩ := List.mem_map.1 hx; have ht := List.mem_range.1 ht; exact ZD (Qf he t) (by rw [Qd hs ht]; exact hc)
end
end Go.Proofs.YtngdhnijkgjhcaaGreat
set_option linter.unusedVariables false
set_option linter.unusedSimpArgs false
namespace Go.Proofs.YtngdhnijkgjhcaaGreat
section
variable {P M : Int} {mf : List Int} {X : List (List Int)} {C : Int}
theorem w_mMul {Ca Cb : Int} {A B : List (List Int)} {Q : Int × List (List Int) × Int -> Prop} (hb : ∀ e, e ≠ 0 -> (mck P M mf Ca A ≠ 0 ∨ mck P M mf Cb B ≠ 0 ∨ Ca ≠ (B.length : Int)) -> Q (0, [], e))
    (h : ∀ p m v, FV P M mf p m v -> shp Ca A -> Els p m A -> shp Cb B -> Els p m B -> Ca = (B.length : Int) -> Q (Cb, mm p m v Cb.toNat A B, 0)) : Jkf P M mf Ca A Cb B Q := by
  refine Jwj (ms := [(Ca, A), (Cb, B)]) (by simp) (fun hn _ => hb 1 (by decide) (.inl (by rw [Jgv hn]; decide))) (fun F p m v g K hF h0 => ?_) (fun hV hne _ => hb _ hne ?_)
  . rw [Jli] at h0
    have hA : mck P M mf Ca A = 0 := by
      by_cases e : mck P M mf Ca A = 0
      . exact e
      . rw [if_neg e] at h0; exact h0
    rw [if_pos hA] at h0
    obtain ⟨_, sA, eA⟩ := ZN hA
    obtain ⟨_, sB, eB⟩ := ZN h0
    have eA := (QK hF).1 eA
    have eB := (QK hF).1 eB
    obtain ⟨a1, a2, a3⟩ := QM sA
    refine ⟨fun hne => hb 10 (by decide) (.inr (.inr hne)), fun he => ?_⟩
    have hC : Ca = (B.length : Int) := Classical.not_not.1 he
    refine ⟨⟨by omega, by omega, by omega⟩, fun x z => ∃ t : Nat, z = t /\ t <= A.length /\ x.length = A.length /\ ∀ s, s < t -> row x s = row (mm p m v Cb.toNat A B) s, fun _ z => (A.length - z).toNat, ⟨0, rfl, Nat.zero_le _, by simp, fun s hs => absurd hs (Nat.not_lt_zero _)⟩, ?_⟩
    rintro x _ ⟨t, rfl, ht, hx, hv⟩
    dsimp only
    refine ⟨fun hlt => ⟨⟨by omega, by omega⟩, _, Jsl K sB (by show (row A t).length = _; rw [Qd sA (by omega)]; omega) rfl, ⟨by omega, by omega⟩, JC (by omega) (by omega), ⟨t + 1, by push_cast; rfl, by omega, by rw [Zm]; exact hx, fun s hs => ?_⟩, by omega⟩, fun hge => ?_⟩
    . show row (x.set t _) s = _
      rw [Qj]
      by_cases e : t = s
      . subst e; rw [if_pos ⟨rfl, by omega⟩, row_mm (by omega)]; rfl
      . rw [if_neg (fun q => e q.1)]; exact hv s (by omega)
    . rw [show x = mm p m v Cb.toNat A B from QB (by rw [mm_len]; exact hx) fun i hi => hv i (by omega)]
      exact h p m v hF sA eA sB eB hC
  . rw [Jli] at hne
    by_cases e : mck P M mf Ca A = 0
    . rw [if_pos e] at hne; exact .inr (.inl hne)
    . exact .inl e
theorem Jkx {Q : Int × List (List Int) × Int -> Prop} (hb : mck P M mf C X ≠ 0 -> Q (0, [], mck P M mf C X))
  (h : ∀ p m v, FV P M mf p m v -> shp C X -> Els p m X -> mck P M mf C X = 0 -> Q ((X.length : Int), tr C.toNat X, 0)) : Zw P M mf C X Q := by
 refine Jcu (fun h0 _ => hb h0) fun F p m v g K hF hs he h0 => ?_; have hfin := h p m v hF hs he h0; obtain ⟨a1, a2, a3⟩ := QM hs; generalize hn : C.toNat = n at *
 refine ⟨⟨by omega, by omega, by omega⟩, fun x z => ∃ c : Nat, z = c /\ c <= n /\ x.length = n /\ ∀ d, d < c -> row x d = row (tr n X) d, fun _ z => (n - z).toNat, ⟨0, rfl, Nat.zero_le _, by simp, fun d hd => absurd hd (Nat.not_lt_zero _)⟩, ?_⟩; rintro x _ ⟨c, rfl, hc, hx, hv⟩; dsimp only; refine ⟨fun hlt => ?_, fun hge => ?_⟩
 .have hcn : c < n := by omega
  refine ⟨⟨by omega, by omega, by omega⟩, ⟨by omega, by omega⟩, fun y z => ∃ t : Nat, z = t /\ t <= X.length /\ y.length = n /\ (∀ d, d < c -> row y d = row (tr n X) d) /\ (row y c).length = X.length /\ ∀ s, s < t -> vo (row y c) s = vo (row X s) c, fun _ z => (X.length - z).toNat, ⟨0, rfl, Nat.zero_le _, by rw [Zm]; exact hx, fun d hd => ?_, ?_, fun s hs => absurd hs (Nat.not_lt_zero _)⟩, ?_⟩
  .show row (x.set c _) d = _; rw [Qj, if_neg (fun q => by omega)]; exact hv d hd
  .show (row (x.set c _) c).length = _; rw [Qj, if_pos ⟨rfl, by omega⟩]; simp
  rintro y _ ⟨t, rfl, ht, hy, h1, h2, h3⟩; dsimp only; refine ⟨fun hlt2 => ?_, fun hge2 => ⟨JC (by omega) (by omega), ⟨c + 1, by push_cast; rfl, by omega, hy, fun d hd => ?_⟩, by omega⟩⟩
  .have htx : t < X.length := by omega
   have hrl : (row X t).length = n := by rw [Qd hs htx]; exact hn
   refine ⟨⟨by omega, by omega⟩, ⟨by omega, by omega⟩, ⟨by omega, by show (c : Int) < ((row X t).length : Int); omega⟩, ⟨by omega, by show (t : Int) < ((row y c).length : Int); omega⟩, JC (by omega) (by omega), ⟨t + 1, by push_cast; rfl, by omega, by rw [Zm]; exact hy, fun d hd => ?_, ?_, fun s hs' => ?_⟩, by omega⟩
   .show row (y.set c _) d = _; rw [Qj, if_neg (fun q => by omega)]; exact h1 d hd
   .show (row (y.set c ((row y c).set t (vo (row X t) c))) c).length = _; rw [Qj, if_pos ⟨rfl, by omega⟩, List.length_set]; exact h2
   .show vo (row (y.set c ((row y c).set t (vo (row X t) c))) c) s = _; rw [Qj, if_pos ⟨rfl, by omega⟩, Ql]; by_cases e : t = s
    .subst e; rw [if_pos ⟨rfl, by omega⟩]
    .rw [if_neg (fun q => e q.1)]; exact h3 s (by omega)
  .by_cases e : d = c
   .subst e; exact QW (by rw [h2, Jnk hcn]) fun s hs' => by rw [h3 s (by omega), tr_at hcn (by omega)]
   .exact h1 d (by omega)
 .rw [show x = tr n X from QB (by rw [Jw2]; exact hx) fun i hi => hv i (by omega)]; exact hfin
end
end Go.Proofs.YtngdhnijkgjhcaaGreat
set_option linter.unusedVariables false
set_option linter.unusedSimpArgs false
namespace Go.Proofs.YtngdhnijkgjhcaaGreat
section
variable {p m v : Nat} {P M : Int} {mf : List Int} {X Y : List (List Int)} {C D : Int} {w wy : Nat}
theorem Jy9 {n k : Nat} {a b : List Int} (ha : Asc n a) (hb : Asc n b) (h1 : ∀ i, i < a.length -> ∃ j, j < b.length /\ vo b j = vo a i) (h2 : ∀ j, j < b.length -> ∃ i, i < a.length /\ vo a i = vo b j) : ∀ k, k < a.length -> k < b.length /\ vo a k = vo b k := by
  intro k
  induction k using Nat.strongRecOn with
  | ind k ih =>
    intro hk
    obtain ⟨j, hj, e⟩ := h1 k hk
    have hjk : k <= j := by
      rcases Nat.lt_or_ge j k with h | h
      . have h3 := (ih j h (by omega)).2
        have h4 := ha.2 j k h hk
        omega
      . exact h
    have hkb : k < b.length := by omega
    refine ⟨hkb, ?_⟩
    obtain ⟨i, hi, e2⟩ := h2 k hkb
    rcases Nat.lt_trichotomy i k with h | h | h
    . have h3 := (ih i h hi).2
      have h4 := hb.2 i k h hkb
      omega
    . rw [<- e2, h]
    . have h3 := ha.2 k i h hi
      rcases Nat.lt_or_ge k j with h5 | h5
      . have := hb.2 k j h5 hj; omega
      . rw [show k = j by omega] at e2 ⊢; omega
theorem Jy8 {n : Nat} {a b : List Int} (ha : Asc n a) (hb : Asc n b) (h1 : ∀ i, i < a.length -> ∃ j, j < b.length /\ vo b j = vo a i) (h2 : ∀ j, j < b.length -> ∃ i, i < a.length /\ vo a i = vo b j) : a = b := by
 have k1 := Jy9 (k := 0) ha hb h1 h2; have k2 := Jy9 (k := 0) hb ha h2 h1; refine QW ?_ fun i hi => (k1 i hi).2; rcases Nat.lt_trichotomy a.length b.length with h | h | h
 .have := (k2 a.length h).1; omega
 .exact h
 .have := (k1 b.length h).1; omega
theorem Jro (hF : FV P M mf p m v) (hs : shp C X) (he : Els p m X) {a : Nat -> Nat} (ha : ∀ c, a c < p ^ m) (hA : ∀ f, Lin p m v C.toNat f -> Ann p m f (Qb p m v C X) -> f a = 0) {c : Nat} (hc : c < C.toNat) :
    a c = fs p m (fun i => JE p m (dv p v) (a (vo (Qe p m v C X) i).toNat) (en p m (row (Qb p m v C X) i) c)) (Qe p m v C X).length := by
  have R := hF.ring
  have q1 : 1 < p ^ m := R.q2
  have hp : 0 < p := by have := hF.p2; omega
  have hasc := YV (p := p) (m := m) (v := v) C X
  have hcl := Yb (p := p) (m := m) (v := v) hs
  have hneg : ∀ y, y < p ^ m -> Q0 p m y < p ^ m := fun y _ => YK hp y
  have L := Qbr (w := C.toNat) hF (c := c) (r := (Qe p m v C X).length) (pv := fun i => (vo (Qe p m v C X) i).toNat) (nR := fun i => Q0 p m (en p m (row (Qb p m v C X) i) c)) hc (fun i hi => by have := hasc.1 i hi; show (vo (Qe p m v C X) i).toNat < _; omega) (fun i => hneg _ (YT hF _ _))
  have hann := hA _ L (fun s hsl => by
    show cof _ _ _ _ _ _ _ (en p m (row (Qb p m v C X) s)) = 0
    unfold cof
    have hsr : s < (Qe p m v C X).length := by omega
    have hd : ∀ i, i < (Qe p m v C X).length -> en p m (row (Qb p m v C X) s) (vo (Qe p m v C X) i).toNat = if s = i then 1 else 0 := fun i hi => by
      have := Jda hF hs he hi hsr
      by_cases e : s = i
      . rw [if_pos e] at this ⊢; exact Jeu hF q1 this
      . rw [if_neg e] at this ⊢; exact Jeu hF (by omega) this
    have h9 := Jog hF (f := fun i => JE p m (dv p v) (Q0 p m (en p m (row (Qb p m v C X) i) c)) (en p m (row (Qb p m v C X) s) (vo (Qe p m v C X) i).toNat)) (j := s) (R.Ml _ _) _ hsr fun i hi hne => by
      show JE p m (dv p v) _ _ = 0
      rw [hd i hi, if_neg (fun e => hne e.symm), R.M0 (hneg _ (YT hF _ _))]
    show Qa p m _ (fs p m (fun i => JE p m (dv p v) (Q0 p m (en p m (row (Qb p m v C X) i) c)) (en p m (row (Qb p m v C X) s) (vo (Qe p m v C X) i).toNat)) (Qe p m v C X).length) = 0
    rw [h9]
    show Qa p m _ (JE p m (dv p v) _ _) = 0
    rw [hd s hsr, if_pos rfl, R.M1 (hneg _ (YT hF _ _))]
    exact YS hp (YT hF _ _))
  unfold cof at hann
  have hG := Jes hF (fun i => JE p m (dv p v) (a (vo (Qe p m v C X) i).toNat) (en p m (row (Qb p m v C X) i) c)) (Qe p m v C X).length
  have hN := Jes hF (fun i => JE p m (dv p v) (Q0 p m (en p m (row (Qb p m v C X) i) c)) (a (vo (Qe p m v C X) i).toNat)) (Qe p m v C X).length
  have hGN : Qa p m (fs p m (fun i => JE p m (dv p v) (a (vo (Qe p m v C X) i).toNat) (en p m (row (Qb p m v C X) i) c)) (Qe p m v C X).length) (fs p m (fun i => JE p m (dv p v) (Q0 p m (en p m (row (Qb p m v C X) i) c)) (a (vo (Qe p m v C X) i).toNat)) (Qe p m v C X).length) = 0 := by
    have h1 := Joh hF (f := fun i => JE p m (dv p v) (a (vo (Qe p m v C X) i).toNat) (en p m (row (Qb p m v C X) i) c)) (h := fun i => JE p m (dv p v) (Q0 p m (en p m (row (Qb p m v C X) i) c)) (a (vo (Qe p m v C X) i).toNat)) (x := 1) (fun i => R.Ml _ _) (fun i => R.Ml _ _) q1 (Qe p m v C X).length
    rw [R.Mc q1 hN, R.M1 hN] at h1
    rw [<- h1]
    refine Jfh hF _ fun i hi => ?_
    show Qa p m (JE p m (dv p v) _ _) (JE p m (dv p v) 1 (JE p m (dv p v) _ _)) = 0
    have ha' := ha (vo (Qe p m v C X) i).toNat
    have hb := YT hF (row (Qb p m v C X) i) c
    rw [R.Mc q1 (R.Ml _ _), R.M1 (R.Ml _ _), R.Mc (hneg _ hb) ha', <- R.Md ha' hb (hneg _ hb), YS hp hb, R.M0 ha']
  have hx := ha c
  generalize fs p m (fun i => JE p m (dv p v) (a (vo (Qe p m v C X) i).toNat) (en p m (row (Qb p m v C X) i) c)) (Qe p m v C X).length = G1 at *
  generalize fs p m (fun i => JE p m (dv p v) (Q0 p m (en p m (row (Qb p m v C X) i) c)) (a (vo (Qe p m v C X) i).toNat)) (Qe p m v C X).length = N1 at *
  generalize a c = b at *
  calc b = Qa p m b (Qa p m G1 N1) := by rw [hGN, R.Az hx]
    _ = Qa p m G1 (Qa p m b N1) := by rw [<- R.Aa hx hG hN, R.Ac b G1, R.Aa hG hx hN]
    _ = G1 := by rw [hann, R.Az hG]
theorem Jxr (hF : FV P M mf p m v) (hX : shp C X) (eX : Els p m X) (hY : shp C Y) (eY : Els p m Y) (h : ∀ f, Lin p m v C.toNat f -> Ann p m f Y -> Ann p m f X) : ∀ t, t < (Qe p m v C X).length -> ∃ j, j < (Qe p m v C Y).length /\ vo (Qe p m v C Y) j = vo (Qe p m v C X) t := by
  intro t ht
  have R := hF.ring
  have q1 : 1 < p ^ m := R.q2
  have hq : 0 < p ^ m := by omega
  have pX := YV (p := p) (m := m) (v := v) C X
  have pY := YV (p := p) (m := m) (v := v) C Y
  have lX := Yb (p := p) (m := m) (v := v) hX
  have hk := fun f (L : Lin p m v C.toNat f) (h1 : Ann p m f (Qb p m v C Y)) => (Jdd hF hX eX L).2 (h f L ((Jdd hF hY eY L).1 h1)) t (by omega)
  have ht' := pX.1 t ht
  have hc := Jro hF hY eY (a := en p m (row (Qb p m v C X) t)) (fun c => YT hF _ c) hk (c := (vo (Qe p m v C X) t).toNat) (by omega)
  have hu := Jda hF hX eX (i := t) (t := t) ht ht
  rw [if_pos rfl] at hu
  rw [Jeu hF (z := 1) q1 hu] at hc
  refine Classical.byContradiction fun hno => ?_
  rw [Jfh hF _ fun i hi => ?_] at hc
  . omega
  show JE p m (dv p v) (en p m (row (Qb p m v C X) t) (vo (Qe p m v C Y) i).toNat) (en p m (row (Qb p m v C Y) i) (vo (Qe p m v C X) t).toNat) = 0
  have hi' := pY.1 i hi
  rcases Int.lt_trichotomy (vo (Qe p m v C Y) i) (vo (Qe p m v C X) t) with h1 | h1 | h1
  . rw [Jeu hF (z := 0) hq (Jg8 hF hX eX ht (c := (vo (Qe p m v C Y) i).toNat) (by omega)), R.Mc hq (YT hF _ _), R.M0 (YT hF _ _)]
  . exact absurd ⟨i, hi, h1⟩ hno
  . rw [Jeu hF (z := 0) hq (Jg8 hF hY eY hi (c := (vo (Qe p m v C X) t).toNat) (by omega)), R.M0 (YT hF _ _)]
theorem Jyy (hF : FV P M mf p m v) (hX : shp C X) (eX : Els p m X) (hY : shp C Y) (eY : Els p m Y) (h : ∀ f, Lin p m v C.toNat f -> (Ann p m f X ↔ Ann p m f Y)) : Qe p m v C X = Qe p m v C Y /\ Qb p m v C X = Qb p m v C Y := by
 have R := hF.ring; have q1 : 1 < p ^ m := R.q2; have hq : 0 < p ^ m := by omega
 have pX := YV (p := p) (m := m) (v := v) C X; have pY := YV (p := p) (m := m) (v := v) C Y; have lX := Yb (p := p) (m := m) (v := v) hX; have lY := Yb (p := p) (m := m) (v := v) hY; have sX := Ya (p := p) (m := m) (v := v) hX; have sY := Ya (p := p) (m := m) (v := v) hY; have e : Qe p m v C X = Qe p m v C Y := Jy8 pX pY (Jxr hF hX eX hY eY fun f L => (h f L).2) (Jxr hF hY eY hX eX fun f L => (h f L).1); refine ⟨e, Qbb (w := C.toNat) (by rw [lX, lY, e]) (Zg hF eX) (Zg hF eY) (fun t ht => ⟨Qd sX ht, Qd sY (by rw [lY, <- e, <- lX]; exact ht)⟩) fun t c ht hc => ?_⟩; have ht' : t < (Qe p m v C Y).length := by rw [<- e, <- lX]; exact ht
 have hk := fun f (L : Lin p m v C.toNat f) (h1 : Ann p m f (Qb p m v C Y)) => (Jdd hF hX eX L).2 ((h f L).2 ((Jdd hF hY eY L).1 h1)) t ht; have hc' := Jro hF hY eY (a := en p m (row (Qb p m v C X) t)) (fun c => YT hF _ c) hk (c := c) hc; rw [hc']; have hd : ∀ i, i < (Qe p m v C Y).length -> en p m (row (Qb p m v C X) t) (vo (Qe p m v C Y) i).toNat = if t = i then 1 else 0 := fun i hi => by
  have := Jda hF hX eX (i := i) (t := t) (by rw [e]; exact hi) (by rw [e]; exact ht'); rw [e] at this; by_cases e' : t = i
  .rw [if_pos e'] at this ⊢; exact Jeu hF q1 this
  .rw [if_neg e'] at this ⊢; exact Jeu hF hq this
 rw [Jog hF (f := fun i => JE p m (dv p v) (en p m (row (Qb p m v C X) t) (vo (Qe p m v C Y) i).toNat) (en p m (row (Qb p m v C Y) i) c)) (j := t) (R.Ml _ _) _ ht' fun i hi hne => by
  show JE p m (dv p v) _ _ = 0; rw [hd i hi, if_neg (fun q => hne q.symm), R.Mc hq (YT hF _ _), R.M0 (YT hF _ _)]]
 show JE p m (dv p v) _ _ = _; rw [hd t ht', if_pos rfl, R.Mc q1 (YT hF _ _), R.M1 (YT hF _ _)]
end
end Go.Proofs.YtngdhnijkgjhcaaGreat
set_option linter.unusedVariables false
set_option linter.unusedSimpArgs false
namespace Go.Proofs.YtngdhnijkgjhcaaGreat
section
variable {p m v : Nat} {P M : Int} {mf : List Int} {X Y : List (List Int)} {C D : Int} {w wy : Nat}
theorem Qbz {a o : List Int} {x : Int} (h : x ≠ 0) : adm p m v a x o = adx p m v a x o := by unfold adx; rw [if_neg h]
end
end Go.Proofs.YtngdhnijkgjhcaaGreat
set_option linter.unusedVariables false
set_option linter.unusedSimpArgs false
namespace Go.Proofs.YtngdhnijkgjhcaaGreat
variable {P M : Int} {mf : List Int} {p m v : Nat} {C : Int} {X Y : List (List Int)}
structure Cnl (C : Nat) (X : List (List Int)) (q : Nat -> Nat) : Prop where
  lt : ∀ i, i < X.length -> q i < C
  one : ∀ i, i < X.length -> ∀ t, t < X.length -> vo (row X t) (q i) = if t = i then 1 else 0
  lf : ∀ i, i < X.length -> ∀ c, c < q i -> vo (row X i) c = 0
  asc : ∀ i j, i < j -> j < X.length -> q i < q j
def Jm4 (C : Int) (X : List (List Int)) : Prop := ∃ q, Cnl C.toNat X q
theorem Jhc (a o : List Int) : adx p m v a 0 o = a := by unfold adx; rw [if_pos rfl]
theorem ng_0 (hF : FV P M mf p m v) : Ng p m 0 = 0 := (Jjp hF ⟨by omega, by
 have := hF.ring.q2; have h : (0 : Int) < ((p ^ m : Nat) : Int) := by exact_mod_cast (by omega : 0 < p ^ m)
 exact h⟩).2 rfl
theorem Qbn (hF : FV P M mf p m v) {S : ES} {k : Nat} (he : Els p m S.X) (hj : S.pv.length < S.X.length) (h1 : ∀ t, t < S.X.length -> vo (row S.X t) k = if t = S.pv.length then 1 else 0) : (es1 p m v k S.pv.length S.pv.length S).X = S.X := by
 rw [Jb7]; have e1 : swq S.X S.pv.length S.pv.length = S.X := by unfold swq; rw [if_pos rfl]
 rw [e1]; have e2 : scq p m v S.X S.pv.length (vo (row S.X S.pv.length) k) = S.X := by
  unfold scq; rw [h1 _ hj, if_pos rfl, Jyb hF, Jxe hF (Qf he _)]; refine QB (by simp) fun i hi => ?_; rw [Qj]; split
  .rename_i h; rw [h.1]
  .rfl
 rw [e2]; refine QB (by rw [Y6]) fun i hi => ?_; rw [Y6] at hi; rw [Zo hi]; split
 .rfl
 .rename_i hne
  rw [h1 i hi, if_neg hne, ng_0 hF, Jhc]
theorem Jl0 (hF : FV P M mf p m v) {q : Nat -> Nat} {w wy : Nat} {Y : List (List Int)} {d : Int} (hq : Cnl w X q) (he : Els p m X) : ∀ k, k <= w -> (elim p m v k ⟨X, Y, [], d⟩).X = X /\ ∃ j, j <= X.length /\ (∀ i, i < j -> q i < k) /\ (∀ i, j <= i -> i < X.length -> k <= q i) /\ (elim p m v k ⟨X, Y, [], d⟩).pv = (List.range j).map fun i => ((q i : Nat) : Int)
 | 0, _ => ⟨rfl, 0, Nat.zero_le _, fun i h => absurd h (Nat.not_lt_zero i), fun i _ _ => Nat.zero_le _, rfl⟩
 | k + 1, hk => by
  obtain ⟨h1, j, hj, h2, h3, h4⟩ := Jl0 hF (Y := Y) (d := d) (wy := wy) hq he k (by omega); rw [QS]; generalize elim p m v k ⟨X, Y, [], d⟩ = S at h1 h4 ⊢; have hl : S.pv.length = j := by rw [h4]; simp
  unfold Q9; rw [hl, h1]; by_cases hjn : j < X.length
  .by_cases hqk : q j = k
   .have hn : nz X k j = j := (Jlw (Nat.le_refl _) hj (fun t a b => by omega) (fun hh => by
     have := hq.one j hh j hh; rw [hqk, if_pos rfl] at this; rw [this]; decide)).symm
    rw [hn, if_pos ⟨hjn, hjn⟩]; have e := Qbn (k := k) hF (S := S) (by rw [h1]; exact he) (by rw [hl, h1]; exact hjn) (fun t ht => by
     rw [h1] at ht ⊢; rw [hl, <- hqk]; exact hq.one j hjn t ht)
    rw [hl] at e; refine ⟨e.trans h1, j + 1, hjn, fun i hi => ?_, fun i a b => ?_, ?_⟩
    .rcases Nat.lt_or_ge i j with h | h
     .have := h2 i h; omega
     .have : i = j := by omega
      subst this; omega
    .have := hq.asc j i (by omega) b; omega
    .show S.pv ++ [(k : Int)] = _; rw [h4, List.range_succ, List.map_append, List.map_cons, List.map_nil, hqk]
   .have hlt : k < q j := by have := h3 j (Nat.le_refl _) hjn; omega
    have hz : ∀ t, j <= t -> t < X.length -> vo (row X t) k = 0 := fun t a b => hq.lf t b k (by
     rcases Nat.lt_or_ge j t with h | h
     .have := hq.asc j t h b; omega
     .have : t = j := by omega
      subst this; exact hlt)
    have hn : ¬ nz X k j < X.length := fun hh => (Jac X k j hj).2.2 hh (hz _ (Jre X k j) hh); rw [if_neg (fun hh => hn hh.2)]; refine ⟨h1, j, hj, fun i hi => by have := h2 i hi; omega, fun i a b => ?_, h4⟩; rcases Nat.lt_or_ge j i with h | h
    .have := hq.asc j i h b; omega
    .have : i = j := by omega
     subst this; omega
  .rw [if_neg (fun hh => hjn hh.1)]; exact ⟨h1, j, hj, fun i hi => by have := h2 i hi; omega, fun i a b => by omega, h4⟩
theorem Jrr (hF : FV P M mf p m v) (hs : shp C X) (he : Els p m X) {q : Nat -> Nat} (hq : Cnl C.toNat X q) : Qb p m v C X = X /\ Qe p m v C X = (List.range X.length).map fun i => ((q i : Nat) : Int) := by
 obtain ⟨h1, j, hj, h2, h3, h4⟩ := Jl0 (wy := 0) (Y := List.replicate X.length []) (d := 1) hF hq he C.toNat (Nat.le_refl _); have e : j = X.length := by
  rcases Nat.lt_or_ge j X.length with h | h
  .have := h3 j (Nat.le_refl _) h; have := hq.lt j h; omega
  .omega
 subst e; have hP : Qe p m v C X = (List.range X.length).map fun i => ((q i : Nat) : Int) := h4; refine ⟨?_, hP⟩; show (elim p m v C.toNat ⟨X, List.replicate X.length [], [], 1⟩).X.take (elim p m v C.toNat ⟨X, List.replicate X.length [], [], 1⟩).pv.length = X; rw [h1, h4, List.length_map, List.length_range, List.take_length]
theorem Ja3 (hs : shp C X) {i : Nat} (hi : i < (Qe p m v C X).length) : (((vo (Qe p m v C X) i).toNat : Nat) : Int) = vo (Qe p m v C X) i /\ (vo (Qe p m v C X) i).toNat < C.toNat := by
 have h := (YV (p := p) (m := m) (v := v) C X).1 i hi; omega
theorem Jj4 (hF : FV P M mf p m v) (hs : shp C X) (he : Els p m X) : Cnl C.toNat (Qb p m v C X) fun i => (vo (Qe p m v C X) i).toNat := by
 have hl := Yb (p := p) (m := m) (v := v) hs; refine ⟨fun i hi => (Ja3 hs (by omega)).2, fun i hi t ht => Jda hF hs he (by omega) (by omega), fun i hi c hc => ?_, fun i j hij hj => ?_⟩
 .exact Jg8 hF hs he (by omega) (by have := (Ja3 (p := p) (m := m) (v := v) hs (i := i) (by omega)).1; omega)
 .have h := (YV (p := p) (m := m) (v := v) C X).2 i j hij (by omega); have h1 := (Ja3 (p := p) (m := m) (v := v) hs (i := i) (by omega)).1; have h2 := (Ja3 (p := p) (m := m) (v := v) hs (i := j) (by omega)).1; omega
theorem Qbs (hF : FV P M mf p m v) (hs : shp C X) (he : Els p m X) : Qb p m v C (Qb p m v C X) = Qb p m v C X /\ Qe p m v C (Qb p m v C X) = Qe p m v C X := by
 have h := Jrr hF (Ya hs) (Zg hF he) (Jj4 hF hs he); refine ⟨h.1, h.2.trans ?_⟩; have hl := Yb (p := p) (m := m) (v := v) hs; refine List.ext_getElem (by simp [hl]) fun i h1 h2 => ?_; simp only [List.getElem_map, List.getElem_range]; rw [(Ja3 hs h2).1]; unfold vo; rw [List.getD_eq_getElem?_getD, List.getElem?_eq_getElem h2]; rfl
theorem Jyv (hF : FV P M mf p m v) (hs : shp C X) (he : Els p m X) : Jm4 C X ↔ Qb p m v C X = X :=
 ⟨fun ⟨q, hq⟩ => (Jrr hF hs he hq).1, fun h => ⟨_, by have := Jj4 hF hs he; rwa [h] at this⟩⟩
theorem Cnl.len {w : Nat} {q : Nat -> Nat} (h : Cnl w X q) : X.length <= w := by
  have : ∀ k, k <= X.length -> k = 0 ∨ k <= q (k - 1) + 1 := by
    intro k
    induction k with
    | zero => intro _; exact .inl rfl
    | succ k ih =>
      intro hk
      refine .inr ?_
      rcases ih (by omega) with h0 | h1
      . subst h0; omega
      . rcases Nat.eq_zero_or_pos k with h0 | h0
        . subst h0; omega
        . have := h.asc (k - 1) k (by omega) (by omega)
          rw [Nat.add_sub_cancel]; omega
  rcases this X.length (Nat.le_refl _) with h0 | h1
  . omega
  . rcases Nat.eq_zero_or_pos X.length with h0 | h0
    . omega
    . have := h.lt (X.length - 1) (by omega); omega
end Go.Proofs.YtngdhnijkgjhcaaGreat
set_option linter.unusedVariables false
set_option linter.unusedSimpArgs false
namespace Go.Proofs.YtngdhnijkgjhcaaGreat
variable {P M : Int} {mf : List Int} {p m v : Nat} {C : Int} {X Y : List (List Int)} {w : Nat}
def Sb (p m : Nat) (x y : Int) : Int := ((Qa p m (inE (p ^ m) x) (Q0 p m (inE (p ^ m) y)) : Nat) : Int)
def sbx (p m v : Nat) (a : List Int) (x : Int) (o : List Int) : List Int := if x = 0 then a else (List.range a.length).map fun i => if i < o.length then Sb p m (vo a i) (Ml p m v x (vo o i)) else vo a i
theorem el_ad0 (hF : FV P M mf p m v) {a : Int} (ha : El p m a) {z : Int} (hz : inE (p ^ m) z = 0) : Ad p m a z = a := by
 unfold Ad; rw [hz, hF.ring.Az (J6 (by have := hF.ring.q2; omega) _), Jay ha]
theorem ml_z (hF : FV P M mf p m v) {x z : Int} (hz : inE (p ^ m) z = 0 ∨ inE (p ^ m) x = 0) : Ml p m v x z = 0 := by
 have hq : 0 < p ^ m := by have := hF.ring.q2; omega
 unfold Ml; rcases hz with h | h
 .rw [h, hF.ring.M0 (J6 hq _)]; rfl
 .rw [h, hF.ring.Mc hq (J6 hq _), hF.ring.M0 (J6 hq _)]; rfl
theorem Jrk (hF : FV P M mf p m v) : inE (p ^ m) 0 = 0 := QC (x := 0) (by have := hF.ring.q2; omega)
theorem adm_el (hF : FV P M mf p m v) {a o : List Int} {x : Int} (ha : Elr p m a) : adm p m v a x o = adx p m v a x o := by
 by_cases h : x = 0
 .subst h; rw [Jhc]; refine List.ext_getElem (by rw [Jbk]) fun i h1 h2 => ?_; have e : vo (adm p m v a 0 o) i = vo a i := by
   rw [Z2 h2]; split
   .rfl
   .exact el_ad0 hF (ZD ha h2) (by rw [ml_z hF (.inr (Jrk hF)), Jrk hF])
  unfold vo at e
  rwa [List.getD_eq_getElem?_getD, List.getElem?_eq_getElem h1, List.getD_eq_getElem?_getD, List.getElem?_eq_getElem h2] at e
 .exact Qbz h
theorem neg_ml (hF : FV P M mf p m v) {x y : Nat} (hx : x < p ^ m) (hy : y < p ^ m) : Q0 p m (JE p m (dv p v) x y) = JE p m (dv p v) (Q0 p m x) y := by
 have R := hF.ring; have hp : 0 < p := by have := hF.p2; omega
 have hn := YK (m := m) hp x; have h1 : Qa p m (JE p m (dv p v) x y) (JE p m (dv p v) (Q0 p m x) y) = 0 := by
  rw [R.Mc hx hy, R.Mc hn hy, <- R.Md hy hx hn, YS hp hx, R.M0 hy]
 have h2 := YS (m := m) hp (R.Ml x y); have h3 := R.Ml (Q0 p m x) y; have h4 := YK (m := m) hp (JE p m (dv p v) x y); have h5 : Qa p m (Qa p m (JE p m (dv p v) (Q0 p m x) y) (JE p m (dv p v) x y)) (Q0 p m (JE p m (dv p v) x y)) = JE p m (dv p v) (Q0 p m x) y := by
  rw [R.Aa h3 (R.Ml x y) h4, h2, R.Az h3]
 rw [R.Ac (JE p m (dv p v) (Q0 p m x) y), h1, R.Ac, R.Az h4] at h5; exact h5
theorem Jyf (hF : FV P M mf p m v) {x : Nat} (h : x < p ^ m) : inE (p ^ m) ((x : Nat) : Int) = x := QC h
theorem Qam (hF : FV P M mf p m v) {a o : List Int} {x : Int} (ha : Elr p m a) (hx : El p m x) : sbx p m v a x o = adx p m v a (Ng p m x) o := by
 have R := hF.ring; have hp : 0 < p := by have := hF.p2; omega
 have hq : 0 < p ^ m := by have := R.q2; omega
 unfold sbx; by_cases h : x = 0
 .subst h; rw [if_pos rfl, ng_0 hF, Jhc]
 .rw [if_neg h]; have hn : Ng p m x ≠ 0 := fun e => h ((Jjp hF hx).1 e); unfold adx; rw [if_neg hn]; refine List.ext_getElem (by simp [adm]) fun i h1 h2 => ?_; simp only [List.length_map, List.length_range] at h1; simp only [adm, List.getElem_map, List.getElem_range]; have hai : El p m (vo a i) := ZD ha h1; by_cases ho : vo o i = 0
  .rw [if_pos ho, ho]; split
   .unfold Sb; rw [ml_z hF (.inl (Jrk hF)), Jrk hF]; have : Q0 p m 0 = 0 := by
     have h0 := YS (m := m) hp hq; rw [R.Ac, R.Az (YK hp 0)] at h0; exact h0
    rw [this, R.Az (J6 hq _), Jay hai]
   .rfl
  .have hi : i < o.length := by
    rcases Nat.lt_or_ge i o.length with hh | hh
    .exact hh
    .exact absurd (Jb0 hh) ho
   rw [if_pos hi, if_neg ho]; unfold Sb Ad Ml Ng; rw [Jyf hF (R.Ml _ _), Jyf hF (R.Ml _ _), Jyf hF (YK hp _), neg_ml hF (J6 hq _) (J6 hq _)]
def rsd (p m v : Nat) (Q : Nat -> Nat) (X : List (List Int)) (u : List Int) : Nat -> List Int
  | 0 => u
  | k + 1 => adx p m v (rsd p m v Q X u k) (Ng p m (vo u (Q k))) (row X k)
theorem Zn (Q : Nat -> Nat) (u : List Int) : ∀ k, (rsd p m v Q X u k).length = u.length
 | 0 => rfl
 | k + 1 => by rw [rsd, Jde, Zn Q u k]
theorem Je9 (hp : 0 < p) (Q : Nat -> Nat) {u : List Int} (hu : Elr p m u) : ∀ k, Elr p m (rsd p m v Q X u k)
 | 0 => hu
 | k + 1 => Jrv hp (Je9 hp Q hu k)
theorem Ji5 (hF : FV P M mf p m v) {f : (Nat -> Nat) -> Nat} (L : Lin p m v w f) {Q : Nat -> Nat} {u : List Int} (hu : u.length = w) (hX : Ann p m f X) : ∀ k, k <= X.length -> f (en p m (rsd p m v Q X u k)) = f (en p m u)
 | 0, _ => rfl
 | k + 1, hk => by
  have R := hF.ring; rw [rsd, L.adx hF (by rw [Zn]; exact hu), hX k (by omega), R.M0 (J6 (by have := R.q2; omega) _), R.Az (L.lt _), Ji5 hF L hu hX k (by omega)]
theorem Qbo (hF : FV P M mf p m v) {l : List Int} (h : Elr p m l) (c : Nat) : El p m (vo l c) := by
 rcases Nat.lt_or_ge c l.length with hc | hc
 .exact ZD h hc
 .rw [Jb0 hc]; have := hF.ring.q2; exact ⟨by omega, by exact_mod_cast (by omega : 0 < p ^ m)⟩
end Go.Proofs.YtngdhnijkgjhcaaGreat
set_option linter.unusedVariables false
set_option linter.unusedSimpArgs false
namespace Go.Proofs.YtngdhnijkgjhcaaGreat
variable {P M : Int} {mf : List Int} {p m v g : Nat} {C : Int} {X Y : List (List Int)} {F : GFv}
theorem Qad {l : List Int} {pf : Int -> (Bool -> Prop) -> Prop} {f : Int -> Bool} {Q : Int -> Prop} (hl : l.length <= 1000000) (hp : ∀ x (R : Bool -> Prop), R (f x) -> pf x R)
  (h1 : ∀ k : Nat, k < l.length -> f (vo l k) = true -> (∀ j, j < k -> f (vo l j) = false) -> Q (k : Int)) (h2 : (∀ j, j < l.length -> f (vo l j) = false) -> Q (-1)) : Y7 l pf Q := by
 refine ⟨fun z => ∃ k : Nat, z = k /\ k <= l.length /\ ∀ j, j < k -> f (vo l j) = false, fun z => (l.length - z).toNat, ⟨0, rfl, Nat.zero_le _, fun j hj => by omega⟩, ?_⟩; rintro _ ⟨k, rfl, hk, hv⟩; dsimp only; refine ⟨fun hlt => ⟨⟨by omega, by omega⟩, hp _ _ ⟨fun hb => h1 k (by omega) hb hv, fun hb => ⟨JC (by omega) (by omega), ⟨k + 1, by push_cast; rfl, by omega, fun j hj => ?_⟩, by omega⟩⟩⟩, fun hge => h2 fun j hj => hv j (by omega)⟩; rcases Nat.lt_or_ge j k with h | h
 .exact hv j h
 .have : j = k := by omega
  subst this; exact hb
theorem Jnc {l : List Int} {Q : Int -> Prop} (hl : l.length <= 1000000)
  (h1 : ∀ k : Nat, k < l.length -> vo l k ≠ 0 -> (∀ j, j < k -> vo l j = 0) -> Q (k : Int)) (h2 : (∀ j, j < l.length -> vo l j = 0) -> Q (-1)) : Y7 l (fun xc Qc => Yj xc Qc) Q :=
 Qad (f := fun x => decide (x ≠ 0)) hl (fun x R hR => hR) (fun k hk hb hv => h1 k hk (of_decide_eq_true hb) fun j hj => Classical.not_not.1 (of_decide_eq_false (hv j hj))) (fun hv => h2 fun j hj => Classical.not_not.1 (of_decide_eq_false (hv j hj)))
theorem Cnl.lead {w : Nat} {q : Nat -> Nat} (h : Cnl w X q) {t k : Nat} (ht : t < X.length) (hk : vo (row X t) k ≠ 0) (hz : ∀ j, j < k -> vo (row X t) j = 0) : q t = k := by
  rcases Nat.lt_trichotomy (q t) k with h1 | h1 | h1
  . have := hz _ h1
    rw [h.one t ht t ht, if_pos rfl] at this; exact absurd this (by decide)
  . exact h1
  . exact absurd (h.lf t ht k h1) hk
theorem Jho {Q : Bool -> Prop} (hs : shp C X) (h1 : Jm4 C X -> Q true) (h2 : ¬ Jm4 C X -> Q false) : YM C X Q := by
 obtain ⟨hX, hC, hCe⟩ := QM hs; have hw : ∀ t, t < X.length -> (row X t).length = C.toNat := fun t ht => Qd hs ht; refine ⟨fun last z => ∃ t : Nat, z = t /\ t <= X.length /\ ∃ q : Nat -> Nat, (∀ i, i < t -> q i < C.toNat /\ (∀ s, s < X.length -> vo (row X s) (q i) = if s = i then 1 else 0) /\ ∀ c, c < q i -> vo (row X i) c = 0) /\ (∀ i j, i < j -> j < t -> q i < q j) /\ (t = 0 -> last = -1) /\ ∀ u, t = u + 1 -> last = (q u : Int), fun _ z => (X.length - z).toNat, ⟨0, rfl, Nat.zero_le _, fun _ => 0, fun i hi => absurd hi (Nat.not_lt_zero i), fun i j _ hj => absurd hj (Nat.not_lt_zero j), fun _ => rfl, fun u hu => by omega⟩, ?_⟩; rintro last _ ⟨t, rfl, ht, q, hq1, hq2, hl0, hl1⟩; dsimp only; refine ⟨fun hlt => ?_, fun hge => ?_⟩
 .have htl : t < X.length := by omega
  have hwt := hw t htl; refine ⟨⟨by omega, by omega⟩, ?_⟩; show Y7 (row X t) _ _; have hlast : ∀ q', Cnl C.toNat X q' -> ∀ u, t = u + 1 -> last = (q' u : Int) := fun q' hq' u hu => by
   have hul : u < X.length := by omega
   have := hq'.lead (t := u) (k := q u) hul (by rw [(hq1 u (by omega)).2.1 u hul, if_pos rfl]; decide) (hq1 u (by omega)).2.2; rw [this]; exact hl1 u hu
  refine Jnc (by omega) (fun k hk hne hz => ?_) (fun hz => ?_)
  .have hkq : ∀ q', Cnl C.toNat X q' -> q' t = k := fun q' hq' => hq'.lead htl hne hz; refine ⟨fun hle => h2 ?_, fun hgt => ?_⟩
   .rintro ⟨q', hq'⟩; rcases Nat.eq_zero_or_pos t with h0 | h0
    .have := hl0 h0; omega
    .have e1 := hlast q' hq' (t - 1) (by omega); have e2 := hq'.asc (t - 1) t (by omega) htl; have e3 := hkq q' hq'; omega
   .refine ⟨⟨by omega, by show (k : Int) < ((row X t).length : Nat); omega⟩, fun hn1 => h2 ?_, fun h1' => ?_⟩
    .rintro ⟨q', hq'⟩; have := hq'.one t htl t htl; rw [hkq q' hq', if_pos rfl] at this; exact hn1 this
    .have hone : vo (row X t) k = 1 := Classical.not_not.1 h1'; refine ⟨fun z => ∃ u : Nat, z = u /\ u <= X.length /\ ∀ j, j < u -> j ≠ t -> vo (row X j) k = 0, fun z => (X.length - z).toNat, ⟨0, rfl, Nat.zero_le _, fun j hj => absurd hj (Nat.not_lt_zero j)⟩, ?_⟩; rintro _ ⟨u, rfl, hu, hju⟩; dsimp only; refine ⟨fun hlt2 => ?_, fun hge2 => ?_⟩
     .have hul : u < X.length := by omega
      have hwu := hw u hul; refine ⟨fun _ => u = t ∨ vo (row X u) k = 0, ⟨⟨by omega, by omega⟩, fun hne2 => ⟨⟨by omega, by show (k : Int) < ((row X u).length : Nat); omega⟩, fun hnz => h2 ?_, fun hz2 => .inr (Classical.not_not.1 hz2)⟩, fun he => .inl (by have := Classical.not_not.1 he; omega)⟩, ?_⟩
      .rintro ⟨q', hq'⟩; have := hq'.one t htl u hul; rw [hkq q' hq', if_neg (by omega)] at this; exact hnz this
      .intro b hb; refine ⟨JC (by omega) (by omega), ⟨u + 1, by push_cast; rfl, by omega, fun j hj hne2 => ?_⟩, by omega⟩; rcases Nat.lt_or_ge j u with h | h
       .exact hju j h hne2
       .have : j = u := by omega
        subst this; exact hb.resolve_left hne2
     .obtain ⟨q2, e1, e2⟩ : ∃ q2 : Nat -> Nat, q2 t = k /\ ∀ i, i ≠ t -> q2 i = q i := ⟨fun i => if i = t then k else q i, if_pos rfl, fun i h => if_neg h⟩
      refine ⟨JC (by omega) (by omega), ⟨t + 1, by push_cast; rfl, by omega, q2, fun i hi => ?_, fun i j hij hj => ?_, fun h0 => by omega, fun u hu => ?_⟩, by omega⟩
      .by_cases hit : i = t
       .subst hit; rw [e1]; refine ⟨by omega, fun s hs' => ?_, fun c hc => hz c hc⟩; by_cases hsi : s = i
        .subst hsi; rw [if_pos rfl]; exact hone
        .rw [if_neg hsi]; exact hju s (by omega) hsi
       .rw [e2 i hit]; exact hq1 i (by omega)
      .have hit : i ≠ t := by omega
       rw [e2 i hit]; by_cases hjt : j = t
       .subst hjt; rw [e1]; have hlu := hl1 (j - 1) (by omega); have : q i <= q (j - 1) := by
         rcases Nat.lt_or_ge i (j - 1) with h | h
         .exact Nat.le_of_lt (hq2 i (j - 1) h (by omega))
         .have : i = j - 1 := by omega
          rw [this]; exact Nat.le_refl _
        omega
       .rw [e2 j hjt]; exact hq2 i j hij (by omega)
      .have : u = t := by omega
       subst this; rw [e1]
  .have hge : (-1 : Int) <= last := by
    rcases Nat.eq_zero_or_pos t with h0 | h0
    .rw [hl0 h0]; exact Int.le_refl _
    .have := hl1 (t - 1) (by omega); omega
   refine ⟨fun _ => h2 ?_, fun hgt => absurd hge hgt⟩; rintro ⟨q', hq'⟩; have := hq'.one t htl t htl; rw [hz (q' t) (by have := hq'.lt t htl; omega), if_pos rfl] at this; exact absurd this (by decide)
 .have : t = X.length := by omega
  subst this; exact h1 ⟨q, fun i hi => (hq1 i hi).1, fun i hi t ht => (hq1 i hi).2.1 t ht, fun i hi => (hq1 i hi).2.2, hq2⟩
open Classical in
noncomputable def sck (P M : Int) (mf : List Int) (C : Int) (X : List (List Int)) : Int := if mck P M mf C X ≠ 0 then mck P M mf C X else if Jm4 C X then 0 else 5
theorem Jnr (h : mck P M mf C X ≠ 0) : sck P M mf C X = mck P M mf C X := if_pos h
theorem Jns (h : mck P M mf C X = 0) (h2 : ¬ Jm4 C X) : sck P M mf C X = 5 := by unfold sck; rw [if_neg (fun hh => hh h), if_neg h2]
theorem Jnq (h : mck P M mf C X = 0) (h2 : Jm4 C X) : sck P M mf C X = 0 := by unfold sck; rw [if_neg (fun hh => hh h), if_pos h2]
theorem Jxd (h : sck P M mf C X = 0) : mck P M mf C X = 0 /\ Jm4 C X := by
 by_cases h1 : mck P M mf C X = 0
 .by_cases h2 : Jm4 C X
  .exact ⟨h1, h2⟩
  .rw [Jns h1 h2] at h; exact absurd h (by decide)
 .rw [Jnr h1] at h; exact absurd h h1
theorem ZG {Q : Int -> Prop} (h : Q (sck P M mf C X)) : Yw P M mf C X Q := by
 refine Jkv ⟨fun hne => by rw [Jnr hne] at h; exact h, fun he => ?_⟩; have h0 : mck P M mf C X = 0 := Classical.not_not.1 he; obtain ⟨hV, hs, hE⟩ := ZN h0; refine Jho hs (fun hc => ?_) (fun hc => ?_)
 .rw [Jnq h0 hc] at h; exact ⟨fun hb => (by cases hb), fun _ => h⟩
 .rw [Jns h0 hc] at h; exact ⟨fun _ => h, fun hb => by cases hb⟩
theorem Y3 {a b : List Int} {Q : Bool -> Prop} (ha : a.length <= 1000000) (h1 : a = b -> Q true) (h2 : a ≠ b -> Q false) : Q2 a b Q := by
 refine ⟨fun hne => h2 fun e => hne (by rw [e]), fun he => ?_⟩; have hl : a.length = b.length := by have := Classical.not_not.1 he; omega
 refine ⟨fun z => ∃ t : Nat, z = t /\ t <= a.length /\ ∀ j, j < t -> vo a j = vo b j, fun z => (a.length - z).toNat, ⟨0, rfl, Nat.zero_le _, fun j hj => absurd hj (Nat.not_lt_zero j)⟩, ?_⟩; rintro _ ⟨t, rfl, ht, hj⟩; dsimp only; refine ⟨fun hlt => ⟨⟨by omega, by omega⟩, ⟨by omega, by omega⟩, fun hne => h2 fun e => hne (by rw [e]), fun heq => ⟨JC (by omega) (by omega), ⟨t + 1, by push_cast; rfl, by omega, fun j hj' => ?_⟩, by omega⟩⟩, fun hge => h1 ?_⟩
 .rcases Nat.lt_or_ge j t with h | h
  .exact hj j h
  .have : j = t := by omega
   subst this; exact Classical.not_not.1 heq
 .refine List.ext_getElem hl fun i i1 i2 => ?_; have := hj i (by omega); unfold vo at this
  rwa [List.getD_eq_getElem?_getD, List.getElem?_eq_getElem i1, List.getD_eq_getElem?_getD, List.getElem?_eq_getElem i2] at this
theorem Yn {X Y : List (List Int)} {Q : Bool -> Prop} (hX : X.length <= 1000000) (hr : ∀ t, t < X.length -> (row X t).length <= 1000000) (h1 : X = Y -> Q true) (h2 : X ≠ Y -> Q false) : Qy X Y Q := by
 refine ⟨fun hne => h2 fun e => hne (by rw [e]), fun he => ?_⟩; have hl : X.length = Y.length := by have := Classical.not_not.1 he; omega
 refine ⟨fun z => ∃ t : Nat, z = t /\ t <= X.length /\ ∀ j, j < t -> row X j = row Y j, fun z => (X.length - z).toNat, ⟨0, rfl, Nat.zero_le _, fun j hj => absurd hj (Nat.not_lt_zero j)⟩, ?_⟩; rintro _ ⟨t, rfl, ht, hj⟩; dsimp only; refine ⟨fun hlt => ⟨⟨by omega, by omega⟩, ⟨by omega, by omega⟩, ?_⟩, fun hge => h1 (QB hl fun i hi => hj i (by omega))⟩; have htl : t < X.length := by omega
 by_cases e : row X t = row Y t
 .refine ⟨true, Y3 (hr t htl) (fun _ => rfl) (fun hne => absurd e hne), fun hb => (by cases hb), fun _ => ⟨JC (by omega) (by omega), ⟨t + 1, by push_cast; rfl, by omega, fun j hj' => ?_⟩, by omega⟩⟩; rcases Nat.lt_or_ge j t with h | h
  .exact hj j h
  .have : j = t := by omega
   subst this; exact e
 .exact ⟨false, Y3 (hr t htl) (fun e' => absurd e' e) (fun _ => rfl), fun _ => h2 fun e' => e (by rw [e']), fun hb => (by cases hb)⟩
theorem Jh4 {Q : Int -> Prop} (h : Q (sck P M mf C X)) : ZQ P M mf C X Q := by
 refine Jsj ⟨fun hne => by rw [Jnr hne] at h; exact h, fun he => ?_⟩; have h0 : mck P M mf C X = 0 := Classical.not_not.1 he; obtain ⟨hV, hs, hE⟩ := ZN h0; obtain ⟨p', m', v', hF, hE'⟩ := hE; refine Jks hF hs hE' ?_; have hcl := Ya (p := p') (m := m') (v := v') hs; refine Yn (by have := Q4 hcl; omega) (fun t ht => by have := Qd hcl ht; have := QM hs; omega) (fun e => ?_) (fun e => ?_)
 .rw [Jnq h0 ((Jyv hF hs hE').2 e)] at h; exact ⟨fun hb => (by cases hb), fun _ => h⟩
 .rw [Jns h0 (fun hc => e ((Jyv hF hs hE').1 hc))] at h; exact ⟨fun _ => h, fun hb => by cases hb⟩
end Go.Proofs.YtngdhnijkgjhcaaGreat
set_option linter.unusedVariables false
set_option linter.unusedSimpArgs false
namespace Go.Proofs.YtngdhnijkgjhcaaGreat
variable {P M : Int} {mf : List Int} {p m v g : Nat} {C : Int} {X Y : List (List Int)} {F : GFv}
def pvl (q : Nat -> Nat) (n : Nat) : List Int := (List.range n).map fun i => ((q i : Nat) : Int)
theorem Yo (q : Nat -> Nat) (n : Nat) : (pvl q n).length = n := by simp [pvl]
theorem Jfz {q : Nat -> Nat} {n i : Nat} (h : i < n) : vo (pvl q n) i = (q i : Int) := Jf0 h
theorem Jku {q : Nat -> Nat} {Q : List Int -> Prop} (hs : shp C X) (hq : Cnl C.toNat X q) (h : Q (pvl q X.length)) : ZT C X Q := by
 obtain ⟨hX, hC, hCe⟩ := QM hs; refine ⟨⟨by omega, by omega, by omega⟩, fun x z => ∃ t : Nat, z = t /\ t <= X.length /\ x.length = X.length /\ ∀ j, j < t -> vo x j = (q j : Int), fun _ z => (X.length - z).toNat, ⟨0, rfl, Nat.zero_le _, by simp, fun j hj => absurd hj (Nat.not_lt_zero j)⟩, ?_⟩; rintro x _ ⟨t, rfl, ht, hx, hj⟩; dsimp only; refine ⟨fun hlt => ?_, fun hge => ?_⟩
 .have htl : t < X.length := by omega
  refine ⟨⟨by omega, by omega⟩, ?_⟩; show Y7 (row X t) _ _; refine Jnc (by have := Qd hs htl; omega) (fun k hk hne hz => ?_) (fun hz => ?_)
  .have e := hq.lead htl hne hz; refine ⟨⟨by omega, by omega⟩, JC (by omega) (by omega), ⟨t + 1, by push_cast; rfl, by omega, by rw [Qo, List.length_set]; exact hx, fun j hj' => ?_⟩, by omega⟩; rw [Qo, Ql]; by_cases e2 : t = j
   .subst e2; rw [if_pos ⟨rfl, by omega⟩, e]
   .rw [if_neg (fun hh => e2 hh.1)]; exact hj j (by omega)
  .have h1 := hq.one t htl t htl; rw [hz (q t) (by have := hq.lt t htl; have := Qd hs htl; omega), if_pos rfl] at h1; exact absurd h1 (by decide)
 .have : x = pvl q X.length := QW (by rw [hx, Yo]) fun i hi => by rw [hj i (by omega), Jfz (by omega)]
  rw [this]; exact h
theorem w_Sub {x y : Int} {Q : Int -> Prop} (K : GFk F p m v g) (h : Q (Sb p m x y)) : Jsg F x y Q := by
 refine Jqv K (v_Add K ?_); rw [QC (YK (by have := K.fv.p2; omega) _)]; exact h
theorem Jwp {a o : List Int} {x : Int} {k : Nat} (h0 : x ≠ 0) (hk : k < a.length) : vo (sbx p m v a x o) k = if k < o.length then Sb p m (vo a k) (Ml p m v x (vo o k)) else vo a k := by
 unfold sbx; rw [if_neg h0, Jf0 hk]
theorem Qal (a o : List Int) (x : Int) : (sbx p m v a x o).length = a.length := by
 unfold sbx; split
 .rfl
 .simp
theorem Jm8 {a o : List Int} {x : Int} {Q : List Int -> Prop} (K : GFk F p m v g) (hl : o.length <= a.length) (ha : a.length <= 1000000) (h : Q (sbx p m v a x o)) : Jam F a x o Q := by
 refine ⟨fun h0 => by unfold sbx at h; rwa [if_pos h0] at h, fun h0 => ?_⟩; refine ⟨fun y z => ∃ t : Nat, z = t /\ t <= o.length /\ y.length = a.length /\ ∀ k, k < a.length -> vo y k = if k < t then vo (sbx p m v a x o) k else vo a k, fun y z => (o.length - z).toNat, ⟨0, rfl, Nat.zero_le _, rfl, fun k hk => by simp⟩, ?_⟩; rintro y _ ⟨t, rfl, ht, hy, hk⟩; dsimp only; rw [JR, JR]; refine ⟨fun hlt => ⟨⟨by omega, by omega⟩, ⟨by omega, by omega⟩, _, Jk1 K rfl, _, w_Sub K rfl, ⟨by omega, by omega⟩, JC (by omega) (by omega), ⟨t + 1, by push_cast; rfl, by omega, by rw [Qo, List.length_set]; exact hy, fun k hk' => ?_⟩, by omega⟩, fun hge => ?_⟩
 .rw [Qo, Ql]; by_cases e : t = k
  .subst e; rw [if_pos ⟨rfl, by omega⟩, if_pos (by omega), Jwp h0 hk', if_pos (by omega), hk t hk', if_neg (by omega)]; rfl
  .rw [if_neg (fun h => e h.1), hk k hk']; by_cases hkt : k < t
   .rw [if_pos hkt, if_pos (by omega)]
   .rw [if_neg hkt, if_neg (by omega)]
 .have : y = sbx p m v a x o := QW (by rw [hy, Qal]) fun k hk' => by
   rw [hk k (by omega)]; split
   .rfl
   .rw [Jwp h0 (by omega), if_neg (by omega)]
  rw [this]; exact h
theorem Jct {l : List (List Int)} {q : Nat -> Nat} {Q : List (List Int) -> Prop} (hF : FV P M mf p m v) (hs : shp C X) (hq : Cnl C.toNat X q) (hl : l.length <= 1000) (hw : ∀ t, t < l.length -> (row l t).length = C.toNat) (hE : Els p m l)
  (h : Q (l.map fun u => rsd p m v q X u X.length)) : Yy P M mf C X l Q := by
 obtain ⟨hX, hC, hCe⟩ := QM hs; refine v_New (fun hV => absurd ⟨p, m, v, hF⟩ hV) fun F p' m' v' g' K e1 e2 e3 => ?_; have hF' : FV P M mf p' m' v' := by rw [<- e1, <- e2, <- e3]; exact K.fv
 obtain ⟨rfl, rfl, rfl⟩ := hF.uniq3 hF'; have hp : 0 < p := by have := hF.p2; omega
 refine Jku hs hq ?_; refine ⟨⟨by omega, by omega, by omega⟩, fun x z => ∃ t : Nat, z = t /\ t <= l.length /\ x.length = l.length /\ ∀ j, j < t -> row x j = rsd p m v q X (row l j) X.length, fun _ z => (l.length - z).toNat, ⟨0, rfl, Nat.zero_le _, by simp, fun j hj => absurd hj (Nat.not_lt_zero j)⟩, ?_⟩; rintro x _ ⟨t, rfl, ht, hx, hj⟩; dsimp only; refine ⟨fun hlt => ?_, fun hge => ?_⟩
 .have htl : t < l.length := by omega
  have hwt := hw t htl; have hgl : gl l (t : Int) = row l t := rfl; rw [hgl]; refine ⟨⟨by omega, by omega⟩, Jcx (by omega) ⟨⟨by omega, by omega⟩, ?_⟩⟩; refine ⟨fun y z => ∃ s : Nat, z = s /\ s <= X.length /\ y.length = l.length /\ row y t = rsd p m v q X (row l t) s /\ ∀ j, j < t -> row y j = row x j, fun _ z => (X.length - z).toNat, ⟨0, rfl, Nat.zero_le _, by rw [Zm]; exact hx, ?_, fun j hj' => ?_⟩, ?_⟩
  .show row (x.set t (row l t)) t = _; rw [Qj, if_pos ⟨rfl, by omega⟩]; rfl
  .show row (x.set t (row l t)) j = _; rw [Qj, if_neg (fun hh => by omega)]
  rintro y _ ⟨s, rfl, hsx, hy, hyt, hyj⟩; dsimp only; refine ⟨fun hlt2 => ?_, fun hge2 => ?_⟩
  .have hsl : s < X.length := by rw [Yo] at hlt2; omega
   have e : gi (pvl q X.length) (s : Int) = (q s : Int) := Jfz hsl; have hqs := hq.lt s hsl; rw [e]; refine ⟨⟨by omega, by rw [Yo]; omega⟩, ⟨by omega, by omega⟩, ⟨by omega, by omega⟩, ⟨by omega, by omega⟩, ?_⟩; have e4 : gi (row l t) (q s : Int) = vo (row l t) (q s) := rfl; have e5 : gl X (s : Int) = row X s := rfl; have e6 : gl y (t : Int) = row y t := rfl; rw [e4, e5, e6]; have hrow : (row X s).length = C.toNat := Qd hs hsl; have hyl : (row y t).length = C.toNat := by rw [hyt, Zn]; exact hwt
   have hyE : Elr p m (row y t) := by rw [hyt]; exact Je9 hp q (Qf hE t) s
   refine Jm8 K (by omega) (by omega) ?_; have hx1 : El p m (vo (row l t) (q s)) := ZD (Qf hE t) (by omega); rw [Qam hF hyE hx1, hyt]; refine ⟨JC (by omega) (by omega), ⟨s + 1, by push_cast; rfl, by omega, by rw [Zm]; exact hy, ?_, fun j hj' => ?_⟩, by rw [Yo] at hlt2; omega⟩
   .show row (y.set t _) t = _; rw [Qj, if_pos ⟨rfl, by omega⟩]; rfl
   .show row (y.set t _) j = _; rw [Qj, if_neg (fun hh => by omega)]; exact hyj j hj'
  .rw [Yo] at hge2; have hsx' : s = X.length := by omega
   subst hsx'; refine ⟨JC (by omega) (by omega), ⟨t + 1, by push_cast; rfl, by omega, hy, fun j hj' => ?_⟩, by omega⟩; by_cases e : j = t
   .subst e; exact hyt
   .rw [hyj j (by omega)]; exact hj j (by omega)
 .have : x = l.map fun u => rsd p m v q X u X.length := QB (by simp [hx]) fun i hi => by
   rw [hj i (by omega)]; unfold row; rw [List.getD_eq_getElem?_getD, List.getD_eq_getElem?_getD, List.getElem?_map, List.getElem?_eq_getElem (by omega : i < l.length)]; rfl
  rw [this]; exact h
theorem Jnb {q : Nat -> Nat} {Q : List Int -> Prop} (hs : shp C X) (hq : Cnl C.toNat X q) (h : Q (pvl q X.length)) : Jao X Q := by
  obtain ⟨hX, hC, hCe⟩ := QM hs
  refine ⟨fun x z => ∃ t : Nat, z = t /\ t <= X.length /\ x = pvl q t, fun _ z => (X.length - z).toNat, ⟨0, rfl, Nat.zero_le _, rfl⟩, ?_⟩
  rintro _ _ ⟨t, rfl, ht, rfl⟩
  dsimp only
  refine ⟨fun hlt => ?_, fun hge => by rw [show t = X.length by omega]; exact h⟩
  have htl : t < X.length := by omega
  have hwt := Qd hs htl
  have hqt := hq.lt t htl
  refine ⟨fun y _ _ => y = pvl q (t + 1), ⟨fun z _ => z = (q t : Int), ⟨fun z => ∃ k : Nat, z = k /\ k <= q t, fun z => (q t - z).toNat, ⟨0, rfl, Nat.zero_le _⟩, ?_⟩, ?_⟩, ?_⟩
  . rintro _ ⟨k, rfl, hk⟩
    dsimp only
    have e : gl X (t : Int) = row X t := rfl
    rw [e, JR]
    refine ⟨⟨by omega, by omega⟩, fun hlt2 => ⟨⟨by omega, by omega⟩, ⟨by omega, by omega⟩, fun h0 => ?_, fun h0 => ?_⟩, fun hge2 => by omega⟩
    . have hne : k ≠ q t := fun e2 => by
        have := hq.one t htl t htl
        rw [<- e2, h0, if_pos rfl] at this; exact absurd this (by decide)
      exact ⟨JC (by omega) (by omega), ⟨k + 1, by push_cast; rfl, by omega⟩, by omega⟩
    . rcases Nat.lt_or_ge k (q t) with h1 | h1
      . exact absurd (hq.lf t htl k h1) h0
      . show (k : Int) = _
        rw [show k = q t by omega]
  . rintro z _ rfl
    refine ⟨by rw [Yo]; omega, ?_⟩
    show pvl q t ++ [(q t : Int)] = pvl q (t + 1)
    unfold pvl; rw [List.range_succ, List.map_append]; rfl
  . rintro y _ _ rfl
    exact ⟨JC (by omega) (by omega), ⟨t + 1, by push_cast; rfl, by omega, rfl⟩, by omega⟩
theorem w_rNeg {x : Int} {Q : Int -> Prop} (hF : FV P M mf p m v) (h : Q (Ng p m x)) : Jeg P M mf x Q := Jwy hF h
theorem Jkp {u : List Int} {q : Nat -> Nat} {Q : List Int -> Prop} (hF : FV P M mf p m v) (hs : shp C X) (hq : Cnl C.toNat X q) (hu : u.length = C.toNat) (hE : Elr p m u) (h : Q (rsd p m v q X u X.length)) : Ja6 P M mf X u Q := by
 obtain ⟨hX, hC, hCe⟩ := QM hs; have hp : 0 < p := by have := hF.p2; omega
 refine Jnb hs hq ⟨by omega, fun y z => ∃ t : Nat, z = t /\ t <= X.length /\ y = rsd p m v q X u t, fun _ z => (X.length - z).toNat, ⟨0, rfl, Nat.zero_le _, rfl⟩, ?_⟩; rintro _ _ ⟨t, rfl, ht, rfl⟩; dsimp only; refine ⟨fun hlt => ?_, fun hge => by rw [show t = X.length by omega]; exact h⟩; have htl : t < X.length := by omega
 have hqt := hq.lt t htl; have e : gi (pvl q X.length) (t : Int) = (q t : Int) := Jfz htl; have e2 : gl X (t : Int) = row X t := rfl; rw [e, JR, e2]; have hrow : (row X t).length = C.toNat := Qd hs htl; refine ⟨⟨by omega, by rw [Yo]; omega⟩, ⟨by omega, by omega⟩, _, w_rNeg hF rfl, ⟨by omega, by omega⟩, _, Jkt hF (by rw [Zn]; omega) (by rw [Zn]; omega) rfl, JC (by omega) (by omega), ⟨t + 1, by push_cast; rfl, by omega, ?_⟩, by omega⟩; rw [adm_el hF (Je9 hp q hE t)]; rfl
def zr (u : List Int) : Prop := ∀ c, c < u.length -> vo u c = 0
theorem Jwf {u : List Int} {Q : Bool -> Prop} (hu : u.length <= 1000000) (h1 : zr u -> Q true) (h2 : ¬ zr u -> Q false) : Jdh u Q := by
 refine ⟨fun z => ∃ t : Nat, z = t /\ t <= u.length /\ ∀ j, j < t -> vo u j = 0, fun z => (u.length - z).toNat, ⟨0, rfl, Nat.zero_le _, fun j hj => absurd hj (Nat.not_lt_zero j)⟩, ?_⟩; rintro _ ⟨t, rfl, ht, hj⟩; dsimp only; rw [JR]; refine ⟨fun hlt => ⟨⟨by omega, by omega⟩, fun hne => h2 fun hz => hne (hz t (by omega)), fun he => ⟨JC (by omega) (by omega), ⟨t + 1, by push_cast; rfl, by omega, fun j hj' => ?_⟩, by omega⟩⟩, fun hge => h1 fun c hc => hj c (by omega)⟩; rcases Nat.lt_or_ge j t with h | h
 .exact hj j h
 .rw [show j = t by omega]; exact Classical.not_not.1 he
theorem Jwg {u : List Int} {q : Nat -> Nat} {Q : Bool -> Prop} (hF : FV P M mf p m v) (hs : shp C X) (hq : Cnl C.toNat X q) (hu : u.length = C.toNat) (hE : Elr p m u) (h1 : zr (rsd p m v q X u X.length) -> Q true) (h2 : ¬ zr (rsd p m v q X u X.length) -> Q false) : Jkc P M mf X u Q :=
 Jkp hF hs hq hu hE (Jwf (by rw [Zn]; have := QM hs; omega) h1 h2)
theorem Jh5 {l : List (List Int)} {Q : Bool -> Prop} (hl : l.length <= 1000000) (hw : ∀ t, t < l.length -> (row l t).length <= 1000000) (h1 : (∀ t, t < l.length -> zr (row l t)) -> Q true) (h2 : (¬ ∀ t, t < l.length -> zr (row l t)) -> Q false) : ZY l Q := by
 refine ⟨fun z => ∃ t : Nat, z = t /\ t <= l.length /\ ∀ j, j < t -> zr (row l j), fun z => (l.length - z).toNat, ⟨0, rfl, Nat.zero_le _, fun j hj => absurd hj (Nat.not_lt_zero j)⟩, ?_⟩; rintro _ ⟨t, rfl, ht, hj⟩; dsimp only; refine ⟨fun hlt => ⟨⟨by omega, by omega⟩, ?_⟩, fun hge => h1 fun j hj' => hj j (by omega)⟩; have htl : t < l.length := by omega
 show Q3 (row l t) _ _; refine Jnc (hw t htl) (fun k hk hne _ => ⟨fun _ => h2 fun hz => hne (hz t htl k hk), fun hb => ?_⟩) (fun hz => ⟨fun hb => absurd (of_decide_eq_true hb) (by decide), fun _ => ⟨JC (by omega) (by omega), ⟨t + 1, by push_cast; rfl, by omega, fun j hj' => ?_⟩, by omega⟩⟩)
 .have := of_decide_eq_false hb; omega
 .rcases Nat.lt_or_ge j t with h | h
  .exact hj j h
  .rw [show j = t by omega]; exact hz
end Go.Proofs.YtngdhnijkgjhcaaGreat
set_option linter.unusedVariables false
set_option linter.unusedSimpArgs false
namespace Go.Proofs.YtngdhnijkgjhcaaGreat
variable {P M : Int} {mf : List Int} {p m v g : Nat} {C Ca Cb : Int} {X Y a b : List (List Int)} {F : GFv}
noncomputable def prk (P M : Int) (mf : List Int) (Ca : Int) (a : List (List Int)) (Cb : Int) (b : List (List Int)) : Int := if sck P M mf Ca a ≠ 0 then sck P M mf Ca a else if sck P M mf Cb b ≠ 0 then sck P M mf Cb b else if Ca ≠ Cb then 10 else 0
theorem Jxp (h : prk P M mf Ca a Cb b = 0) : sck P M mf Ca a = 0 /\ sck P M mf Cb b = 0 /\ Ca = Cb := by
 unfold prk at h; split at h
 .rename_i h1; exact absurd h h1
 rename_i h1
 split at h
 .rename_i h2; exact absurd h h2
 rename_i h2
 split at h
 .exact absurd h (by decide)
 rename_i h3
 exact ⟨Classical.not_not.1 h1, Classical.not_not.1 h2, Classical.not_not.1 h3⟩
theorem Zl {Q : Int -> Prop} (h : Q (prk P M mf Ca a Cb b)) : Yk P M mf Ca a Cb b Q := by
 unfold prk at h; refine ZG ⟨fun h1 => by rwa [if_pos h1] at h, fun h1 => ZG ⟨fun h2 => by rwa [if_neg h1, if_pos h2] at h, fun h2 => ⟨fun h3 => by rwa [if_neg h1, if_neg h2, if_pos h3] at h, fun h3 => by rwa [if_neg h1, if_neg h2, if_neg h3] at h⟩⟩⟩
theorem Jqq {Q : Int -> Prop} (h : Q (prk P M mf Ca a Cb b)) : Jfo P M mf Ca a Cb b Q := by
 unfold prk at h; refine Jh4 ⟨fun e => e = (if sck P M mf Ca a ≠ 0 then sck P M mf Ca a else sck P M mf Cb b), ⟨fun h1 => Jh4 (by rw [if_neg (fun hh => hh h1)]), fun h1 => by rw [if_pos h1]⟩, ?_⟩; rintro e rfl; by_cases h1 : sck P M mf Ca a = 0
 .rw [if_neg (fun hh => hh h1)] at h ⊢; refine ⟨fun h2 => ⟨fun h3 => ?_, fun h3 => ?_⟩, fun h2 => ?_⟩
  .rwa [if_neg (fun hh => hh h2), if_pos h3] at h
  .rw [if_neg (fun hh => hh h2), if_neg h3] at h; rw [h2]; exact h
  .rwa [if_pos h2] at h
 .rw [if_pos h1] at h ⊢; exact ⟨fun h2 => absurd h2 h1, fun _ => h⟩
structure Sg (P M : Int) (mf : List Int) (p m v : Nat) (C : Int) (X : List (List Int)) (q : Nat -> Nat) : Prop where
  f : FV P M mf p m v
  s : shp C X
  e : Els p m X
  q : Cnl C.toNat X q
theorem Jq2 (h : sck P M mf C X = 0) : ∃ p m v q, Sg P M mf p m v C X q := by
 obtain ⟨h0, q, hq⟩ := Jxd h; obtain ⟨hV, hs, p, m, v, hF, hE⟩ := ZN h0; exact ⟨p, m, v, q, hF, hs, hE, hq⟩
theorem Qas (h : prk P M mf Ca a Cb b = 0) : ∃ p m v q r, Sg P M mf p m v Ca a q /\ Sg P M mf p m v Cb b r /\ Ca = Cb := by
 obtain ⟨h1, h2, h3⟩ := Jxp h; obtain ⟨p, m, v, q, G1⟩ := Jq2 h1; obtain ⟨p', m', v', r, G2⟩ := Jq2 h2; obtain ⟨rfl, rfl, rfl⟩ := G1.f.uniq3 G2.f; exact ⟨p, m, v, q, r, G1, G2, h3⟩
theorem Sg.mk0 {q : Nat -> Nat} (G : Sg P M mf p m v C X q) : mck P M mf C X = 0 := Jch ⟨p, m, v, G.f⟩ G.s ((QK G.f).2 G.e)
theorem Sg.sck {q : Nat -> Nat} (G : Sg P M mf p m v C X q) : sck P M mf C X = 0 := Jnq G.mk0 ⟨q, G.q⟩
def rdl (p m v : Nat) (q : Nat -> Nat) (X l : List (List Int)) : List (List Int) := l.map fun u => rsd p m v q X u X.length
theorem Zp (q : Nat -> Nat) (X l : List (List Int)) : (rdl p m v q X l).length = l.length := by simp [rdl]
theorem Z6 {q : Nat -> Nat} {X l : List (List Int)} {t : Nat} (h : t < l.length) : row (rdl p m v q X l) t = rsd p m v q X (row l t) X.length := by
 unfold rdl row; rw [List.getD_eq_getElem?_getD, List.getD_eq_getElem?_getD, List.getElem?_map, List.getElem?_eq_getElem h]; rfl
theorem Ji4 {l : List (List Int)} (hC : 0 <= C /\ C <= 256) (hl : l.length <= 256) (hw : ∀ t, t < l.length -> (row l t).length = C.toNat) : shp C l := by
 unfold shp; refine ⟨hC.1, hC.2, by omega, fun r hr => ?_⟩; obtain ⟨t, ht, rfl⟩ := Jad hr; have := hw t ht; omega
theorem Jgd (hs : shp C X) : 0 <= C /\ C <= 256 := by have := QM hs; omega
theorem Jbc {q : Nat -> Nat} {l : List (List Int)} (hs : shp C l) : shp C (rdl p m v q X l) :=
 Ji4 (Jgd hs) (by rw [Zp]; exact Q4 hs) fun t ht => by rw [Zp] at ht; rw [Z6 ht, Zn]; exact Qd hs ht
theorem Jfb (hF : FV P M mf p m v) {q : Nat -> Nat} {l : List (List Int)} (he : Els p m l) : Els p m (rdl p m v q X l) := Jai fun t ht => by
 rw [Zp] at ht; rw [Z6 ht]; exact Je9 (by have := hF.p2; omega) q (Qf he t) _
def ain (p m v : Nat) (q : Nat -> Nat) (X l : List (List Int)) : Prop := ∀ t, t < l.length -> zr (rsd p m v q X (row l t) X.length)
theorem Jru {q : Nat -> Nat} {X l : List (List Int)} : (∀ t, t < (rdl p m v q X l).length -> zr (row (rdl p m v q X l) t)) ↔ ain p m v q X l := by
 unfold ain; rw [Zp]; exact ⟨fun h t ht => by have := h t ht; rwa [Z6 ht] at this, fun h t ht => by rw [Z6 ht]; exact h t ht⟩
theorem Jek {Q : Bool × Int -> Prop} (h0 : prk P M mf Ca a Cb b ≠ 0) (h : Q (false, prk P M mf Ca a Cb b)) : Zk P M mf Ca a Cb b Q := Zl ⟨fun _ => h, fun hh => absurd h0 hh⟩
theorem Jbz {Q : Bool × Int -> Prop} (h0 : prk P M mf Ca a Cb b ≠ 0) (h : Q (false, prk P M mf Ca a Cb b)) : YG P M mf Ca a Cb b Q := Jqq ⟨fun _ => h, fun hh => absurd h0 hh⟩
theorem Jja {q r : Nat -> Nat} (G : Sg P M mf p m v Ca a q) (H : Sg P M mf p m v Cb b r) (e : Ca = Cb) : prk P M mf Ca a Cb b = 0 := by
 unfold prk; rw [if_neg (fun hh => hh G.sck), if_neg (fun hh => hh H.sck), if_neg (fun hh => hh e)]
theorem Jcv {q r : Nat -> Nat} {Q : Bool × Int -> Prop} (G : Sg P M mf p m v C a q) (H : Sg P M mf p m v C b r) (h1 : ain p m v r b a -> Q (true, 0)) (h2 : ¬ ain p m v r b a -> Q (false, 0)) : Zk P M mf C a C b Q := by
 refine Zl ?_; rw [Jja G H rfl]; refine ⟨fun hh => absurd rfl hh, fun _ => Jct H.f H.s H.q (by have := Q4 G.s; omega) (fun t ht => Qd G.s ht) G.e ?_⟩; have hsh := Jbc (p := p) (m := m) (v := v) (q := r) (X := b) G.s; exact Jh5 (l := rdl p m v r b a) (by have := Q4 hsh; omega) (fun t ht => by have := Qd hsh ht; have := QM hsh; omega) (fun hz => h1 (Jru.1 hz)) (fun hz => h2 fun hh => hz (Jru.2 hh))
theorem Jca {q r : Nat -> Nat} {Q : Bool × Int -> Prop} (G : Sg P M mf p m v C a q) (H : Sg P M mf p m v C b r) (h1 : ain p m v r b a -> Q (true, 0)) (h2 : ¬ ain p m v r b a -> Q (false, 0)) : YG P M mf C a C b Q := by
 refine Jqq ?_; rw [Jja G H rfl]; have hl := Q4 G.s; refine ⟨fun hh => absurd rfl hh, fun _ => ⟨fun z => ∃ t : Nat, z = t /\ t <= a.length /\ ∀ j, j < t -> zr (rsd p m v r b (row a j) b.length), fun z => (a.length - z).toNat, ⟨0, rfl, Nat.zero_le _, fun j hj => absurd hj (Nat.not_lt_zero j)⟩, ?_⟩⟩; rintro _ ⟨t, rfl, ht, hj⟩; dsimp only; refine ⟨fun hlt => ⟨⟨by omega, by omega⟩, ?_⟩, fun hge => h1 fun j hj' => hj j (by omega)⟩; have htl : t < a.length := by omega
 by_cases hz : zr (rsd p m v r b (row a t) b.length)
 .refine ⟨true, Jwg H.f H.s H.q (Qd G.s htl) (Qf G.e t) (fun _ => rfl) (fun hh => absurd hz hh), fun hb => (by cases hb), fun _ => ⟨JC (by omega) (by omega), ⟨t + 1, by push_cast; rfl, by omega, fun j hj' => ?_⟩, by omega⟩⟩; rcases Nat.lt_or_ge j t with h | h
  .exact hj j h
  .rw [show j = t by omega]; exact hz
 .exact ⟨false, Jwg H.f H.s H.q (Qd G.s htl) (Qf G.e t) (fun hh => absurd hh hz) (fun _ => rfl), fun _ => h2 fun hh => hz (hh t htl), fun hb => (by cases hb)⟩
theorem Jm9 {l : List (List Int)} {Q : Int × List (List Int) × Int -> Prop} (hF : FV P M mf p m v) (hs : shp C l) (he : Els p m l) (h : Q (C, Qb p m v C l, 0)) : Jef P M mf C l Q := by
 have h0 : mck P M mf C l = 0 := Jch ⟨p, m, v, hF⟩ hs ((QK hF).2 he); refine Jkz (fun hh => absurd h0 hh) fun p' m' v' hF' _ _ _ => ?_; obtain ⟨rfl, rfl, rfl⟩ := hF.uniq3 hF'; exact h
theorem Jhq {Q : Int × List (List Int) × Int -> Prop} (h0 : prk P M mf Ca a Cb b ≠ 0) (h : Q (0, [], prk P M mf Ca a Cb b)) : YH P M mf Ca a Cb b Q := Jek h0 ⟨fun _ => h, fun hh => absurd h0 hh⟩
theorem Jey {Q : Int × List (List Int) × Int -> Prop} (h0 : prk P M mf Ca a Cb b ≠ 0) (h : Q (0, [], prk P M mf Ca a Cb b)) : Yx P M mf Ca a Cb b Q := Jbz h0 ⟨fun _ => h, fun hh => absurd h0 hh⟩
theorem Jcb {q r : Nat -> Nat} {Q : Int × List (List Int) × Int -> Prop} (G : Sg P M mf p m v C a q) (H : Sg P M mf p m v C b r) (h1 : ain p m v r b a -> Q (C, Qb p m v C (rdl p m v q a b), 0)) (h2 : ¬ ain p m v r b a -> Q (0, [], 11)) : YH P M mf C a C b Q := by
 refine Jcv G H (fun hin => ⟨fun hh => absurd rfl hh, fun _ => ⟨fun hb => (by cases hb), fun _ => ?_⟩⟩) (fun hin => ⟨fun hh => absurd rfl hh, fun _ => ⟨fun _ => h2 hin, fun hb => by cases hb⟩⟩); exact ⟨rdl p m v q a b, Jct G.f G.s G.q (by have := Q4 H.s; omega) (fun t ht => Qd H.s ht) H.e rfl, _, _, _, Jm9 G.f (Jbc H.s) (Jfb G.f H.e) rfl, h1 hin⟩
theorem Jw5 {q : Nat -> Nat} {X l : List (List Int)} {t : Nat} (h : t < l.length) : (rdl p m v q X l).take (t + 1) = (rdl p m v q X l).take t ++ [rsd p m v q X (row l t) X.length] := by
 rw [List.take_add_one, YJ (d := []) (by rw [Zp]; exact h)]; exact congrArg _ (congrArg (fun x => [x]) (Z6 h))
theorem Jcs {q r : Nat -> Nat} {Q : Int × List (List Int) × Int -> Prop} (G : Sg P M mf p m v C a q) (H : Sg P M mf p m v C b r) (h1 : ain p m v r b a -> Q (C, Qb p m v C (rdl p m v q a b), 0)) (h2 : ¬ ain p m v r b a -> Q (0, [], 11)) : Yx P M mf C a C b Q := by
 refine Jca G H (fun hin => ⟨fun hh => absurd rfl hh, fun _ => ⟨fun hb => (by cases hb), fun _ => ?_⟩⟩) (fun hin => ⟨fun hh => absurd rfl hh, fun _ => ⟨fun _ => h2 hin, fun hb => by cases hb⟩⟩); have hl := Q4 H.s; refine ⟨fun y z => ∃ t : Nat, z = t /\ t <= b.length /\ y = (rdl p m v q a b).take t, fun _ z => (b.length - z).toNat, ⟨0, rfl, Nat.zero_le _, rfl⟩, ?_⟩; rintro _ _ ⟨t, rfl, ht, rfl⟩; dsimp only; refine ⟨fun hlt => ?_, fun hge => ?_⟩
 .have htl : t < b.length := by omega
  refine ⟨fun y => y = (rdl p m v q a b).take (t + 1), ⟨⟨by omega, by omega⟩, _, Jkp G.f G.s G.q (Qd H.s htl) (Qf H.e t) rfl, ?_, ?_⟩, ?_⟩
  .rw [List.length_take, Zp]; omega
  .exact (Jw5 htl).symm
  .rintro y rfl; exact ⟨JC (by omega) (by omega), ⟨t + 1, by push_cast; rfl, by omega, rfl⟩, by omega⟩
 .have e : t = (rdl p m v q a b).length := by rw [Zp]; omega
  rw [e, List.take_length]; exact Jks G.f (Jbc H.s) (Jfb G.f H.e) (h1 hin)
theorem w_few {Q : Bool -> Prop} (h1 : Ca <= 20 -> Cb <= 20 -> a.length <= 150 -> b.length <= 150 -> Q true) (h2 : Q false) : Jse Ca a Cb b Q := by
 refine ⟨fun hA => ⟨fun hB => Jwi (by omega) (fun _ ha _ => ⟨fun _ => Jwi (by omega) (fun _ hb _ => h1 hA hB (by omega) (by omega)) h2, fun hb => (by cases hb)⟩) ⟨fun hb => (by cases hb), fun _ => h2⟩, fun _ => h2⟩, fun _ => h2⟩
end Go.Proofs.YtngdhnijkgjhcaaGreat
set_option linter.unusedVariables false
set_option linter.unusedSimpArgs false
namespace Go.Proofs.YtngdhnijkgjhcaaGreat
variable {P M : Int} {mf : List Int} {p m v g w : Nat} {C Ca Cb : Int} {X Y a b : List (List Int)}
theorem Jfa (A B : List (List Int)) (t : Nat) : row (A ++ B) t = if t < A.length then row A t else row B (t - A.length) := by
 unfold row; rw [List.getD_eq_getElem?_getD, List.getElem?_append]; split <;> rw [List.getD_eq_getElem?_getD]
theorem Jrt {f : (Nat -> Nat) -> Nat} {A B : List (List Int)} : Ann p m f (A ++ B) ↔ Ann p m f A /\ Ann p m f B := by
 unfold Ann; rw [List.length_append]; refine ⟨fun h => ⟨fun t ht => ?_, fun t ht => ?_⟩, fun h t ht => ?_⟩
 .have := h t (by omega); rwa [Jfa, if_pos ht] at this
 .have := h (A.length + t) (by omega); rwa [Jfa, if_neg (by omega), Nat.add_sub_cancel_left] at this
 .rw [Jfa]; split
  .rename_i hh; exact h.1 t hh
  .exact h.2 _ (by omega)
theorem Jfj {A B : List (List Int)} (hA : shp C A) (hB : shp C B) (h : A.length + B.length <= 256) : shp C (A ++ B) :=
 Ji4 (Jgd hA) (by rw [List.length_append]; exact h) fun t ht => by
  rw [List.length_append] at ht; rw [Jfa]; split
  .exact Qd hA (by assumption)
  .exact Qd hB (by omega)
theorem Jfk {A B : List (List Int)} (hA : Els p m A) (hB : Els p m B) : Els p m (A ++ B) := fun r hr => by
 rcases List.mem_append.1 hr with h | h
 .exact hA r h
 .exact hB r h
theorem Jrs (hF : FV P M mf p m v) {f : (Nat -> Nat) -> Nat} (L : Lin p m v w f) {q : Nat -> Nat} {l : List (List Int)} (hw : ∀ t, t < l.length -> (row l t).length = w) (hX : Ann p m f X) : Ann p m f (rdl p m v q X l) ↔ Ann p m f l := by
 unfold Ann; rw [Zp]; refine ⟨fun h t ht => ?_, fun h t ht => ?_⟩
 .have := h t ht; rwa [Z6 ht, Ji5 hF L (hw t ht) hX X.length (Nat.le_refl _)] at this
 .rw [Z6 ht, Ji5 hF L (hw t ht) hX X.length (Nat.le_refl _)]; exact h t ht
theorem Jy0 (hF : FV P M mf p m v) (hs : shp C X) (he : Els p m X) : (Qb p m v C X).length <= C.toNat := (Jj4 hF hs he).len
theorem sum_eq (hF : FV P M mf p m v) {q : Nat -> Nat} (ha : shp C a) (ea : Els p m a) (hb : shp C b) (eb : Els p m b) (hl : a.length + C.toNat <= 256) (hl2 : a.length + b.length <= 256) :
  Qb p m v C (a ++ Qb p m v C (rdl p m v q a b)) = Qb p m v C (a ++ b) := by
 have h1 := Jbc (p := p) (m := m) (v := v) (q := q) (X := a) hb; have h2 := Jfb (X := a) (q := q) hF eb; have h3 := Jy0 hF h1 h2; refine (Jyy hF (Jfj ha (Ya h1) (by omega)) (Jfk ea (Zg hF h2)) (Jfj ha hb hl2) (Jfk ea eb) fun f L => ?_).2; rw [Jrt, Jrt, Jdd hF h1 h2 L]; exact ⟨fun ⟨u1, u2⟩ => ⟨u1, (Jrs hF L (fun t ht => Qd hb ht) u1).1 u2⟩, fun ⟨u1, u2⟩ => ⟨u1, (Jrs hF L (fun t ht => Qd hb ht) u1).2 u2⟩⟩
theorem w_sum {q : Nat -> Nat} {Q : Int × List (List Int) × Int -> Prop} (G : Sg P M mf p m v C a q) (hb : shp C b) (eb : Els p m b) (hl : a.length + C.toNat <= 256) (hl2 : a.length + b.length <= 256) (h : Q (C, Qb p m v C (a ++ b), 0)) : Jmu P M mf C a C b Q := by
 have h1 := Jbc (p := p) (m := m) (v := v) (q := q) (X := a) hb; have h2 := Jfb (X := a) (q := q) G.f eb; have h3 := Jy0 G.f h1 h2; refine ⟨fun c x e => c = C /\ x = Qb p m v C (rdl p m v q a b) /\ e = 0, ⟨rdl p m v q a b, Jct G.f G.s G.q (by have := Q4 hb; omega) (fun t ht => Qd hb ht) eb rfl, _, _, _, Jm9 G.f h1 h2 rfl, rfl, rfl, rfl⟩, ?_⟩; rintro c x e ⟨rfl, rfl, rfl⟩; refine ⟨fun hh => absurd rfl hh, fun _ => ⟨a ++ Qb p m v c (rdl p m v q a b), ⟨?_, ?_, ?_⟩, _, _, _, Jm9 G.f (Jfj G.s (Ya h1) (by omega)) (Jfk G.e (Zg G.f h2)) rfl, ?_⟩⟩
 .simp; omega
 .simp
 .simp
 .rw [sum_eq G.f G.s G.e hb eb hl hl2]; exact h
theorem w_Sum {q r : Nat -> Nat} {Q : Int × List (List Int) × Int -> Prop} (G : Sg P M mf p m v C a q) (H : Sg P M mf p m v C b r) (hC : C <= 100) (h : Q (C, Qb p m v C (a ++ b), 0)) : Jsf P M mf C a C b Q := by
 have h1 := G.q.len; have h2 := H.q.len; have h3 := Jgd G.s; refine Zl ?_; rw [Jja G H rfl]; exact ⟨fun hh => absurd rfl hh, fun _ => w_sum G H.s H.e (by omega) (by omega) h⟩
def nul (p m v : Nat) (C : Int) (X : List (List Int)) : List (List Int) := Qb p m v C (Jmj p m v C X)
theorem Qa9 (hF : FV P M mf p m v) (hs : shp C X) (he : Els p m X) : nul p m v C (Qb p m v C X) = nul p m v C X := by
 obtain ⟨h1, h2⟩ := Qbs hF hs he; unfold nul Jmj; rw [h1, h2]
theorem Jn4 (hF : FV P M mf p m v) (hs : shp C X) : Sg P M mf p m v C (nul p m v C X) fun i => (vo (Qe p m v C (Jmj p m v C X)) i).toNat :=
 ⟨hF, Ya (Jhb hs), Zg hF (Jmi hF), Jj4 hF (Jhb hs) (Jmi hF)⟩
theorem Jfx {Q : Int × List (List Int) × Int -> Prop} (hF : FV P M mf p m v) (hs : shp C X) (he : Els p m X) (h : Q (C, nul p m v C X, 0)) : YB P M mf C X Q := by
 have h0 : mck P M mf C X = 0 := Jch ⟨p, m, v, hF⟩ hs ((QK hF).2 he); refine Jwm (fun hh => absurd h0 hh) fun p' m' v' hF' _ _ _ => ?_; obtain ⟨rfl, rfl, rfl⟩ := hF.uniq3 hF'; exact h
theorem w_Dual {q : Nat -> Nat} {Q : Int × List (List Int) × Int -> Prop} (G : Sg P M mf p m v C a q) (h : Q (C, nul p m v C a, 0)) : Jkh P M mf C a Q := by
 refine ZG ?_; rw [G.sck]; exact ⟨fun hh => absurd rfl hh, fun _ => Jfx G.f G.s G.e h⟩
theorem w_Meet {q r : Nat -> Nat} {Q : Int × List (List Int) × Int -> Prop} (G : Sg P M mf p m v C a q) (H : Sg P M mf p m v C b r) (hC : C <= 100) (h : Q (C, nul p m v C (nul p m v C a ++ nul p m v C b), 0)) : Jkg P M mf C a C b Q := by
 have G' := Jn4 (v := v) G.f G.s; have H' := Jn4 (v := v) H.f H.s; have h1 := G'.q.len; have h2 := H'.q.len; have h3 := Jgd G.s; have hs := Jfj G'.s H'.s (by omega); have he := Jfk G'.e H'.e; refine Zl ?_; rw [Jja G H rfl]; refine ⟨fun hh => absurd rfl hh, fun _ => Jfx G.f G.s G.e ⟨fun hh => absurd rfl hh, fun _ => Jfx H.f H.s H.e ⟨fun hh => absurd rfl hh, fun _ => w_sum G' H'.s H'.e (by omega) (by omega) ⟨fun hh => absurd rfl hh, fun _ => Jfx G.f (Ya hs) (Zg G.f he) ?_⟩⟩⟩⟩; rw [Qa9 G.f hs he]; exact h
noncomputable def wdk (P M : Int) (mf : List Int) (C : Int) (a : List (List Int)) (y : List Int) : Int := if sck P M mf C a ≠ 0 then sck P M mf C a else if (y.length : Int) ≠ C then 3 else mck P M mf C [y]
theorem Jej {y : List Int} {Q : Int -> Prop} (h : Q (wdk P M mf C a y)) : YY P M mf C a y Q := by
 unfold wdk at h; refine ZG ⟨fun h1 => by rwa [if_pos h1] at h, fun h1 => ⟨fun h2 => by rwa [if_neg h1, if_pos h2] at h, fun h2 => Jkv (by rwa [if_neg h1, if_neg h2] at h)⟩⟩
theorem Qay {y : List Int} (hC : 0 <= C /\ C <= 256) (hy : (y.length : Int) = C) : shp C [y] := Ji4 hC (by simp) fun t ht => by
 have : t = 0 := by simpa using ht
 subst this; show y.length = _; omega
theorem Jjg {y : List Int} : Els p m [y] ↔ Elr p m y := by unfold Els; simp
theorem Jz9 {q : Nat -> Nat} {y : List Int} (G : Sg P M mf p m v C a q) : wdk P M mf C a y = vce p m y C.toNat := by
 have hC := Jgd G.s; unfold wdk vce; rw [if_neg (fun hh => hh G.sck)]; by_cases h : (y.length : Int) = C
 .have hs := Qay (y := y) hC h; rw [if_neg (fun hh => hh h), if_neg (fun hh => hh (by omega))]; by_cases he : Elr p m y
  .rw [if_neg (fun hh => hh he)]; exact Jch ⟨p, m, v, G.f⟩ hs ((QK G.f).2 (Jjg.2 he))
  .rw [if_pos he]; exact Jfe ⟨p, m, v, G.f⟩ hs fun hh => he (Jjg.1 ((QK G.f).1 hh))
 .rw [if_pos h, if_pos (by omega)]
theorem Jwd {q : Nat -> Nat} {y : List Int} (G : Sg P M mf p m v C a q) (hy : y.length = C.toNat) (he : Elr p m y) : wdk P M mf C a y = 0 := by
 rw [Jz9 G]; exact vce_ok hy he
theorem Jwh {q : Nat -> Nat} {y : List Int} {Q : List (List Int) -> Prop} (G : Sg P M mf p m v C a q) (hy : y.length = C.toNat) (he : Elr p m y) (h : Q [rsd p m v q a y a.length]) : Yy P M mf C a [y] Q :=
 Jct G.f G.s G.q (by simp) (fun t ht => by
  have : t = 0 := by simpa using ht
  subst this; exact hy) (Jjg.2 he) h
theorem w_Has {q : Nat -> Nat} {y : List Int} {Q : Bool × Int -> Prop} (G : Sg P M mf p m v C a q) (hy : y.length = C.toNat) (he : Elr p m y) (h1 : zr (rsd p m v q a y a.length) -> Q (true, 0)) (h2 : ¬ zr (rsd p m v q a y a.length) -> Q (false, 0)) : Jmx P M mf C a y Q := by
 refine Jej ?_; rw [Jwd G hy he]; have hC := Jgd G.s; refine ⟨fun hh => absurd rfl hh, fun _ => Jwh G hy he (Jh5 (by simp) (fun t ht => ?_) (fun hz => h1 (hz 0 (by simp))) (fun hz => h2 fun hh => hz fun t ht => ?_))⟩
 .have : t = 0 := by simpa using ht
  subst this; show (rsd p m v q a y a.length).length <= _; rw [Zn]; omega
 .have : t = 0 := by simpa using ht
  subst this; exact hh
theorem Jwl {q : Nat -> Nat} {y : List Int} {Q : List Int × Int -> Prop} (G : Sg P M mf p m v C a q) (hy : y.length = C.toNat) (he : Elr p m y) (h : Q (rsd p m v q a y a.length, 0)) : Jdo P M mf C a y Q := by
 refine Jej ?_; rw [Jwd G hy he]; exact ⟨fun hh => absurd rfl hh, fun _ => Jwh G hy he ⟨⟨by omega, by simp⟩, h⟩⟩
theorem Jhr {q : Nat -> Nat} {y : List Int} {Q : List Int × Int -> Prop} (G : Sg P M mf p m v C a q) (hy : y.length = C.toNat) (he : Elr p m y) (h1 : zr (rsd p m v q a y a.length) -> Q (pkr y (pvl q a.length), 0)) (h2 : ¬ zr (rsd p m v q a y a.length) -> Q ([], 11)) : YO P M mf C a y Q := by
 have hl := Q4 G.s; refine w_Has G hy he (fun hz => ⟨fun hh => absurd rfl hh, fun _ => ⟨fun hb => (by cases hb), fun _ => Jku G.s G.q ?_⟩⟩) (fun hz => ⟨fun hh => absurd rfl hh, fun _ => ⟨fun _ => h2 hz, fun hb => by cases hb⟩⟩); refine ⟨fun x z => ∃ t : Nat, z = t /\ t <= a.length /\ x.length = a.length /\ ∀ j, j < a.length -> vo x j = if j < t then vo y (q j) else (q j : Int), fun _ z => (a.length - z).toNat, ⟨0, rfl, Nat.zero_le _, Yo _ _, fun j hj => by rw [if_neg (by omega), Jfz hj]⟩, ?_⟩; rintro x _ ⟨t, rfl, ht, hx, hj⟩; dsimp only; rw [Yo, JR]; refine ⟨fun hlt => ?_, fun hge => ?_⟩
 .have htl : t < a.length := by omega
  have hq := G.q.lt t htl; rw [hj t htl, if_neg (by omega), JR]; refine ⟨⟨by omega, by omega⟩, ⟨by omega, by omega⟩, ⟨by omega, by omega⟩, JC (by omega) (by omega), ⟨t + 1, by push_cast; rfl, by omega, by rw [Qo, List.length_set]; exact hx, fun j hj' => ?_⟩, by omega⟩; rw [Qo, Ql]; by_cases e : t = j
  .subst e; rw [if_pos ⟨rfl, by omega⟩, if_pos (by omega)]
  .rw [if_neg (fun hh => e hh.1), hj j hj']; by_cases e2 : j < t
   .rw [if_pos e2, if_pos (by omega)]
   .rw [if_neg e2, if_neg (by omega)]
 .have : x = pkr y (pvl q a.length) := QW (by rw [hx, Jfc, Yo]) fun i hi => by
   rw [hj i (by omega), if_pos (by omega), Jnf (by rw [Yo]; omega), Jfz (by omega)]; rfl
  rw [this]; exact h1 hz
end Go.Proofs.YtngdhnijkgjhcaaGreat
set_option linter.unusedVariables false
set_option linter.unusedSimpArgs false
namespace Go.Proofs.YtngdhnijkgjhcaaGreat
variable {P M : Int} {mf : List Int} {p m v g w : Nat} {C Ca Cb : Int} {X Y a b : List (List Int)}
def rsg (s : List Int) (n : Int) : Prop := (∀ i, i < s.length -> 0 <= vo s i /\ vo s i < n) /\ ∀ i, i + 1 < s.length -> vo s i < vo s (i + 1)
theorem Jq3 {s : List Int} {n : Int} (h : rsg s n) : ∀ d i, i + d + 1 < s.length -> vo s i < vo s (i + d + 1)
 | 0, i, hi => h.2 i hi
 | d + 1, i, hi => by
  have h1 := Jq3 h d i (by omega); have h2 := h.2 (i + d + 1) (by omega); rw [show i + (d + 1) + 1 = i + d + 1 + 1 by omega]; omega
theorem Qan {s : List Int} {n : Int} (h : rsg s n) : Asc n.toNat s := ⟨fun i hi => by have := h.1 i hi; omega, fun i j hij hj => by
 have := Jq3 h (j - i - 1) i (by omega)
 rwa [show i + (j - i - 1) + 1 = j by omega] at this⟩
theorem Qac {s : List Int} {n : Int} {Q : Bool -> Prop} (hl : s.length <= 1000000) (h1 : rsg s n -> Q true) (h2 : ¬ rsg s n -> Q false) : Jfs s n Q := by
 refine ⟨fun last z => ∃ t : Nat, z = t /\ t <= s.length /\ (∀ i, i < t -> 0 <= vo s i /\ vo s i < n) /\ (∀ i, i + 1 < t -> vo s i < vo s (i + 1)) /\ (t = 0 -> last = -1) /\ ∀ u, t = u + 1 -> last = vo s u, fun _ z => (s.length - z).toNat, ⟨0, rfl, Nat.zero_le _, fun i hi => absurd hi (Nat.not_lt_zero i), fun i hi => absurd hi (Nat.not_lt_zero _), fun _ => rfl, fun u hu => by omega⟩, ?_⟩; rintro last _ ⟨t, rfl, ht, hr, ha, hl0, hl1⟩; dsimp only; rw [JR]; refine ⟨fun hlt => ⟨⟨by omega, by omega⟩, fun hle => h2 ?_, fun hgt => ⟨fun hn => h2 fun hh => ?_, fun hn => ⟨JC (by omega) (by omega), ⟨t + 1, by push_cast; rfl, by omega, fun i hi => ?_, fun i hi => ?_, fun h0 => by omega, fun u hu => ?_⟩, by omega⟩⟩⟩, fun hge => h1 ?_⟩
 .intro hh; rcases Nat.eq_zero_or_pos t with h0 | h0
  .have := hl0 h0; have := hh.1 t (by omega); omega
  .have e := hl1 (t - 1) (by omega); have := hh.2 (t - 1) (by omega); rw [show t - 1 + 1 = t by omega] at this; omega
 .have := hh.1 t (by omega); omega
 .by_cases e : i = t
  .subst e; refine ⟨?_, by omega⟩; rcases Nat.eq_zero_or_pos i with h0 | h0
   .have := hl0 h0; omega
   .have e := hl1 (i - 1) (by omega); have := hr (i - 1) (by omega); omega
  .exact hr i (by omega)
 .by_cases e : i + 1 = t
  .have e2 := hl1 i (by omega); rw [e]; omega
  .exact ha i (by omega)
 .rw [show u = t by omega]
 .have e : t = s.length := by omega
  subst e; exact ⟨hr, ha⟩
def Y4 (s : List Int) (n : Nat) : List Int := ((List.range n).filter fun i => !(inP s i)).map fun i => ((i : Nat) : Int)
theorem Jdx (s : List Int) (k : Nat) : Y4 s (k + 1) = if inP s k then Y4 s k else Y4 s k ++ [(k : Int)] := by
 unfold Y4; rw [List.range_succ, List.filter_append, List.map_append]; cases h : inP s k <;> simp [h]
theorem Jgi (s : List Int) : ∀ n, (Y4 s n).length <= n
 | 0 => Nat.le_refl _
 | n + 1 => by
  rw [Jdx]; have := Jgi s n; split
  .omega
  .rw [List.length_append]; simp; omega
theorem Jxt (s : List Int) : ∀ n, ∀ x ∈ Y4 s n, 0 <= x /\ x < (n : Int) := fun n x hx => by
 obtain ⟨i, hi, rfl⟩ := List.mem_map.1 hx; have := List.mem_range.1 (List.mem_filter.1 hi).1; omega
theorem Jsk {s : List Int} {n : Int} {Q : List Int -> Prop} (hl : s.length <= 1000000) (hs : rsg s n) (hn : n <= 1000) (h : Q (Y4 s n.toNat)) : Jbp s n Q := by
 refine ⟨fun x z => ∃ t : Nat, z = t /\ t <= n.toNat /\ x = Y4 s t, fun _ z => (n - z).toNat, ⟨0, rfl, Nat.zero_le _, rfl⟩, ?_⟩; rintro _ _ ⟨t, rfl, ht, rfl⟩; dsimp only; refine ⟨fun hlt => ?_, fun hge => ?_⟩
 case refine_2 =>
  have e : t = n.toNat := by omega
  subst e; exact h
 have hol := Jgi s t; refine ⟨fun y _ _ => y = Y4 s (t + 1), Jko hl (Qan hs) (fun i hex => ⟨fun hb => (by cases hb), fun _ => ?_⟩) (fun i hex => ⟨fun _ => ⟨by omega, ?_⟩, fun hb => by cases hb⟩), ?_⟩
 .rw [Jdx, if_pos (Jfg.2 hex)]
 .rw [Jdx, if_neg (fun hh => hex (Jfg.1 hh))]
 .rintro y _ _ rfl; exact ⟨JC (by omega) (by omega), ⟨t + 1, by push_cast; rfl, by omega, rfl⟩, by omega⟩
theorem Jy7 (s : List Int) (hC : 0 <= C) : bad C (Y4 s C.toNat) = false := by
 unfold bad; rw [List.any_eq_false]; intro x hx; have := Jxt s C.toNat x hx; rw [if_neg (by omega), decide_eq_true_eq]; omega
theorem Qav (hs : shp C X) {s : List Int} (hl : s.length <= 256) : shp (s.length : Int) (pks X s) :=
 Ji4 (by omega) (by rw [Jc4]; exact Q4 hs) fun t ht => by rw [Jc4] at ht; rw [Ji7 ht, Jfc]; omega
theorem Qaw (hF : FV P M mf p m v) (he : Els p m X) (s : List Int) : Els p m (pks X s) := Jai fun t ht => by
 rw [Jc4] at ht; rw [Ji7 ht]; exact Jok fun i hi => by rw [Jfc] at hi; rw [Jnf hi]; exact Qbo hF (Qf he t) _
def spt (p m v : Nat) (C : Int) (a : List (List Int)) (s : List Int) : List (List Int) := mm p m v C.toNat (nul p m v (a.length : Int) (tr (Y4 s C.toNat).length (pks a (Y4 s C.toNat)))) a
theorem Jky {q : Nat -> Nat} {s : List Int} {Q : Int × List (List Int) × Int -> Prop} (G : Sg P M mf p m v C a q) (hl : s.length <= 1000000) (h1 : rsg s C -> Q (C, spt p m v C a s, 0)) (h2 : ¬ rsg s C -> Q (0, [], 6)) : Zx P M mf C a s Q := by
 have hC := Jgd G.s; have hol := Jgi s C.toNat; have hal := Q4 G.s; refine ZG ?_; rw [G.sck]; refine ⟨fun hh => absurd rfl hh, fun _ => Qac hl (fun hs => ⟨fun hb => (by cases hb), fun _ => ?_⟩) (fun hs => ⟨fun _ => h2 hs, fun hb => by cases hb⟩)⟩; have hsP := Qav G.s (s := Y4 s C.toNat) (by omega); have heP := Qaw G.f G.e (Y4 s C.toNat); have e0 : colR P M mf C a (Y4 s C.toNat) = ((((Y4 s C.toNat).length : Nat) : Int), pks a (Y4 s C.toNat), (0 : Int)) := by
  unfold colR; rw [if_neg (fun hh => hh G.mk0), if_neg (by omega), if_neg (by rw [Jy7 s hC.1]; decide)]
 refine ⟨fun c x e => c = ((Y4 s C.toNat).length : Int) /\ x = pks a (Y4 s C.toNat) /\ e = 0, ⟨Y4 s C.toNat, Jsk hl hs (by omega) rfl, (((Y4 s C.toNat).length : Nat) : Int), pks a (Y4 s C.toNat), 0, Jsm (fun c Z e he => by rw [<- he, e0]), rfl, rfl, rfl⟩, ?_⟩; rintro c x e ⟨rfl, rfl, rfl⟩; refine ⟨fun hh => absurd rfl hh, fun _ => ?_⟩; have hm : mck P M mf ((Y4 s C.toNat).length : Int) (pks a (Y4 s C.toNat)) = 0 := Jch ⟨p, m, v, G.f⟩ hsP ((QK G.f).2 heP); refine Jkx (fun hh => absurd hm hh) fun p' m' v' hF' _ _ _ => ?_; obtain ⟨rfl, rfl, rfl⟩ := G.f.uniq3 hF'; have hsT := tr_shp hsP; have heT := tr_els hsP heP; rw [Jc4] at hsT ⊢; refine ⟨fun hh => absurd rfl hh, fun _ => Jfx G.f hsT heT ⟨fun hh => absurd rfl hh, fun _ => ?_⟩⟩; have GN := Jn4 (v := v) G.f hsT; refine w_mMul (fun e hne hor => ?_) fun p' m' v' hF' _ _ _ _ _ => ?_
 .rcases hor with h | h | h
  .exact absurd GN.mk0 h
  .exact absurd G.mk0 h
  .exact absurd rfl h
 .obtain ⟨rfl, rfl, rfl⟩ := G.f.uniq3 hF'; exact h1 hs
end Go.Proofs.YtngdhnijkgjhcaaGreat
set_option linter.unusedVariables false
set_option linter.unusedSimpArgs false
namespace Go.Proofs.YtngdhnijkgjhcaaGreat
variable {P M : Int} {mf : List Int} {p m v g w : Nat} {C Ca Cb : Int} {X Y a b : List (List Int)}
def B2 : List (List Int) := [[1, 0, 1], [0, 1, 1]]
def B1 : List (List Int) := [[1, 0, 0]]
def U3 : List (List Int) := [[1, 0, 0], [0, 1, 0], [0, 0, 1]]
theorem Jyu {q : Nat -> Nat} (h : (X.all fun r => decide (r.length = w)) = true) (h1 : ((List.range X.length).all fun i => decide (q i < w /\ (∀ t, t < X.length -> vo (row X t) (q i) = if t = i then 1 else 0) /\ (∀ c, c < q i -> vo (row X i) c = 0) /\ ∀ j, j < X.length -> i < j -> q i < q j)) = true) : Cnl w X q := by
 have g := fun i (hi : i < X.length) => of_decide_eq_true (List.all_eq_true.1 h1 i (List.mem_range.2 hi)); exact ⟨fun i hi => (g i hi).1, fun i hi t ht => (g i hi).2.1 t ht, fun i hi c hc => (g i hi).2.2.1 c hc, fun i j hij hj => (g i (by omega)).2.2.2 j hj hij⟩
theorem sg2 : Sg 2 1 [] 2 1 0 3 B2 id := ⟨fv2, ⟨by decide, by decide, by decide, by decide⟩, by unfold Els Elr; decide, Jyu (by decide) (by decide)⟩
theorem sg1 : Sg 2 1 [] 2 1 0 3 B1 id := ⟨fv2, ⟨by decide, by decide, by decide, by decide⟩, by unfold Els Elr; decide, Jyu (by decide) (by decide)⟩
theorem sgU : Sg 2 1 [] 2 1 0 3 U3 id := ⟨fv2, ⟨by decide, by decide, by decide, by decide⟩, by unfold Els Elr; decide, Jyu (by decide) (by decide)⟩
theorem evs1 : Qb 2 1 0 3 (B2 ++ B1) = U3 := by decide +kernel
theorem evs2 : nul 2 1 0 3 (nul 2 1 0 3 B2 ++ nul 2 1 0 3 B1) = [] := by decide +kernel
theorem evs3 : nul 2 1 0 3 B2 = [[1, 1, 1]] := by decide +kernel
theorem evs4 : rsd 2 1 0 id B2 [1, 1, 0] 2 = [0, 0, 0] := by decide +kernel
theorem evs5 : rsd 2 1 0 id B2 [1, 0, 0] 2 = [0, 0, 1] := by decide +kernel
theorem evs6 : Qb 2 1 0 3 (rdl 2 1 0 id B1 U3) = [[0, 1, 0], [0, 0, 1]] := by decide +kernel
theorem evs7 : spt 2 1 0 3 B2 [1, 2] = [[0, 1, 1]] := by decide +kernel
theorem evs8 : rsd 2 1 0 id U3 [1, 0, 0] 3 = [0, 0, 0] := by decide +kernel
theorem in_U3 : ain 2 1 0 id U3 B1 := fun t ht => by
 have : t = 0 := by simpa [B1] using ht
 subst this; show zr (rsd 2 1 0 id U3 [1, 0, 0] 3); rw [evs8]; unfold zr; decide
theorem rsg_12 : rsg [1, 2] 3 := ⟨by decide, fun i hi => by
 have : i = 0 := by simp at hi; omega
 subst this; decide⟩
theorem Jqr {Q : Bool -> Prop} (h : Q true) : Jbs Q := by
 have z1 : zr (rsd 2 1 0 id B2 [1, 1, 0] B2.length) := by show zr (rsd 2 1 0 id B2 [1, 1, 0] 2); rw [evs4]; unfold zr; decide
 have z2 : ¬ zr (rsd 2 1 0 id B2 [1, 0, 0] B2.length) := by show ¬ zr (rsd 2 1 0 id B2 [1, 0, 0] 2); rw [evs5]; unfold zr; decide
 refine w_Sum (a := B2) (b := B1) sg2 sg1 (by decide) ?_; rw [evs1]; refine w_Meet (a := B2) (b := B1) sg2 sg1 (by decide) ?_; rw [evs2]; refine w_Dual (a := B2) sg2 ?_; rw [evs3]; refine Jhr (a := B2) sg2 rfl (by unfold Elr; decide) (fun _ => ?_) (fun hh => absurd z1 hh); refine Jwl (a := B2) sg2 rfl (by unfold Elr; decide) ?_; rw [show rsd 2 1 0 id B2 [1, 0, 0] B2.length = [0, 0, 1] from evs5]; refine Jcb (a := B1) (b := U3) sg1 sgU (fun _ => ?_) (fun hh => absurd in_U3 hh); rw [evs6]; refine Jky (a := B2) (s := [1, 2]) sg2 (by decide) (fun _ => ?_) (fun hh => absurd rsg_12 hh); rw [evs7]; refine w_Has (a := B2) sg2 rfl (by unfold Elr; decide) (fun hh => absurd hh z2) (fun _ => ?_); refine Jcv (a := B1) (b := U3) sg1 sgU (fun _ => ?_) (fun hh => absurd in_U3 hh); refine ⟨fun b => b = true, ⟨fun _ => ⟨fun _ => ⟨fun _ => ⟨fun _ => ⟨fun _ => ⟨fun _ => ⟨fun _ => ⟨fun _ => rfl, fun h => absurd rfl h⟩, fun h => absurd rfl h⟩, fun h => absurd rfl h⟩, fun h => absurd rfl h⟩, fun h => absurd rfl h⟩, fun h => absurd rfl h⟩, fun h => absurd rfl h⟩, fun h => absurd rfl h⟩, fun b hb => ⟨hb, _, Qaa (by decide) rfl, Yn (by decide) (by decide) (fun _ => rfl) (fun hh => absurd (by decide) hh), rfl, rfl, Yn (by decide) (by decide) (fun _ => rfl) (fun hh => absurd rfl hh), Y3 (by decide) (fun _ => rfl) (fun hh => absurd (by decide) hh), Y3 (by decide) (fun _ => rfl) (fun hh => absurd rfl hh), Yn (by decide) (by decide) (fun _ => rfl) (fun hh => absurd rfl hh), Yn (by decide) (by decide) (fun _ => rfl) (fun hh => absurd rfl hh), rfl, rfl, _, ZG rfl, ?_⟩⟩; rw [show sck 2 1 [] 3 U3 = 0 from sgU.sck]; exact h
theorem Jyz (hs : shp C X) : (Qb p m v C X).length <= 1000000 /\ ∀ r ∈ Qb p m v C X, r.length <= 1000000 := ⟨by have := Q4 (Ya (p := p) (m := m) (v := v) hs); omega, Jlc (Ya hs)⟩
theorem Jgy (P M : Int) (mf : List Int) (Ca : Int) (a : List (List Int)) (Cb : Int) (b : List (List Int)) : Jhj P M mf Ca a Cb b (fun r => r = true) := by
 refine Jqr ⟨fun hb => (by cases hb), fun _ => w_few (fun hA hB hla hlb => ⟨fun hb => (by cases hb), fun _ => ?_⟩) ⟨fun _ => Jqr rfl, fun hb => (by cases hb)⟩⟩; by_cases h0 : prk P M mf Ca a Cb b = 0
 .obtain ⟨p, m, v, q, r, G, H, rfl⟩ := Qas h0; have hc := Jyz (p := p) (m := m) (v := v) (Jbc (p := p) (m := m) (v := v) (q := q) (X := a) H.s); by_cases hin : ain p m v r b a
  .refine Jcv G H (fun _ => ?_) (fun hh => absurd hin hh); refine Jca G H (fun _ => ?_) (fun hh => absurd hin hh); refine Jcb G H (fun _ => ?_) (fun hh => absurd hin hh); refine Jcs G H (fun _ => ?_) (fun hh => absurd hin hh); exact ⟨fun _ => ⟨fun _ => ⟨fun _ => Jiw hc.1 hc.2 rfl, fun hh => absurd rfl hh⟩, fun hb => (by cases hb)⟩, fun hh => absurd rfl hh⟩
  .refine Jcv G H (fun hh => absurd hh hin) (fun _ => ?_); refine Jca G H (fun hh => absurd hh hin) (fun _ => ?_); refine Jcb G H (fun hh => absurd hh hin) (fun _ => ?_); refine Jcs G H (fun hh => absurd hh hin) (fun _ => ?_); exact ⟨fun _ => ⟨fun _ => ⟨fun _ => Jiw (by simp) (by simp) rfl, fun hh => absurd rfl hh⟩, fun hb => (by cases hb)⟩, fun hh => absurd rfl hh⟩
 .refine Jek h0 (Jbz h0 (Jhq h0 (Jey h0 ?_))); exact ⟨fun _ => ⟨fun _ => ⟨fun _ => Jiw (by simp) (by simp) rfl, fun hh => absurd rfl hh⟩, fun hb => (by cases hb)⟩, fun hh => absurd rfl hh⟩
end Go.Proofs.YtngdhnijkgjhcaaGreat
