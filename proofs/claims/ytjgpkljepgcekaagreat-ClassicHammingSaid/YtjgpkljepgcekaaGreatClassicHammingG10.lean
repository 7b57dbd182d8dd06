/- Contracts of functions of the program, and what they lean on: S3, S4, S5, S6, S7, S9, S10, C1, C2, C3, C4, C5, C6, C7. -/
import Derived.Test.YtjgpkljepgcekaaGreatClassicHammingG9
set_option linter.unusedVariables false
set_option linter.unusedSimpArgs false
namespace Go.Proofs.YtjgpkljepgcekaaGreat
/-! ### the checks of a space -/
variable {P M : Int} {mf : LI} {p m v g : Nat} {C : Int} {X Y : LL} {F : GFv}
theorem Jyr {l : LI} {pf : Int -> (Bool -> Prop) -> Prop} {f : Int -> Bool} {Q : Int -> Prop} (hl : l.length <= 1000000) (hp : ∀ x (R : Bool -> Prop), R (f x) -> pf x R)
  (h1 : ∀ k : Nat, k < l.length -> f (vo l k) = true -> (∀ j, j < k -> f (vo l j) = false) -> Q (k : Int)) (h2 : (∀ j, j < l.length -> f (vo l j) = false) -> Q (-1)) : Z2 l pf Q := by
 refine ⟨fun z => ∃ k : Nat, z = k /\ k <= l.length /\ ∀ j, j < k -> f (vo l j) = false, fun z => (l.length - z).toNat, ⟨0, rfl, Nat.zero_le _, fun j hj => by omega⟩, ?_⟩; rintro _ ⟨k, rfl, hk, hv⟩; dsimp only; refine ⟨fun hlt => ⟨⟨by omega, by omega⟩, hp _ _ ⟨fun hb => h1 k (by omega) hb hv, fun hb => ⟨Jt (by omega) (by omega), ⟨k + 1, by push_cast; rfl, by omega, fun j hj => ?_⟩, by omega⟩⟩⟩, fun hge => h2 fun j hj => hv j (by omega)⟩; rcases Nat.lt_or_ge j k with h | h
 .exact hv j h
 .have : j = k := by omega
  subst this; exact hb
theorem w_lead {l : LI} {Q : Int -> Prop} (hl : l.length <= 1000000)
  (h1 : ∀ k : Nat, k < l.length -> vo l k ≠ 0 -> (∀ j, j < k -> vo l j = 0) -> Q (k : Int)) (h2 : (∀ j, j < l.length -> vo l j = 0) -> Q (-1)) : Z2 l (fun xc Qc => Y7 xc Qc) Q :=
 Jyr (f := fun x => decide (x ≠ 0)) hl (fun x R hR => hR) (fun k hk hb hv => h1 k hk (of_decide_eq_true hb) fun j hj => Classical.not_not.1 (of_decide_eq_false (hv j hj))) (fun hv => h2 fun j hj => Classical.not_not.1 (of_decide_eq_false (hv j hj)))
/-- The first entry of a canonical row. -/
theorem Cnl.lead {w : Nat} {q : Nat -> Nat} (h : Cnl w X q) {t k : Nat} (ht : t < X.length) (hk : vo (row X t) k ≠ 0) (hz : ∀ j, j < k -> vo (row X t) j = 0) : q t = k := by
  rcases Nat.lt_trichotomy (q t) k with h1 | h1 | h1
  . have := hz _ h1
    rw [h.one t ht t ht, if_pos rfl] at this; exact absurd this (by decide)
  . exact h1
  . exact absurd (h.lf t ht k h1) hk
theorem Jgk {Q : Bool -> Prop} (hs : shp C X) (h1 : Juv C X -> Q true) (h2 : ¬ Juv C X -> Q false) : Yt C X Q := by
 obtain ⟨hX, hC, hCe⟩ := ZH hs; have hw : ∀ t, t < X.length -> (row X t).length = C.toNat := fun t ht => ZG hs ht; refine ⟨fun last z => ∃ t : Nat, z = t /\ t <= X.length /\ ∃ q : Nat -> Nat, (∀ i, i < t -> q i < C.toNat /\ (∀ s, s < X.length -> vo (row X s) (q i) = if s = i then 1 else 0) /\ ∀ c, c < q i -> vo (row X i) c = 0) /\ (∀ i j, i < j -> j < t -> q i < q j) /\ (t = 0 -> last = -1) /\ ∀ u, t = u + 1 -> last = (q u : Int), fun _ z => (X.length - z).toNat, ⟨0, rfl, Nat.zero_le _, fun _ => 0, fun i hi => absurd hi (Nat.not_lt_zero i), fun i j _ hj => absurd hj (Nat.not_lt_zero j), fun _ => rfl, fun u hu => by omega⟩, ?_⟩; rintro last _ ⟨t, rfl, ht, q, hq1, hq2, hl0, hl1⟩; dsimp only; refine ⟨fun hlt => ?_, fun hge => ?_⟩
 .have htl : t < X.length := by omega
  have hwt := hw t htl; refine ⟨⟨by omega, by omega⟩, ?_⟩; show Z2 (row X t) _ _; have hlast : ∀ q', Cnl C.toNat X q' -> ∀ u, t = u + 1 -> last = (q' u : Int) := fun q' hq' u hu => by
   have hul : u < X.length := by omega
   have := hq'.lead (t := u) (k := q u) hul (by rw [(hq1 u (by omega)).2.1 u hul, if_pos rfl]; decide) (hq1 u (by omega)).2.2; rw [this]; exact hl1 u hu
  refine w_lead (by omega) (fun k hk hne hz => ?_) (fun hz => ?_)
  .have hkq : ∀ q', Cnl C.toNat X q' -> q' t = k := fun q' hq' => hq'.lead htl hne hz; refine ⟨fun hle => h2 ?_, fun hgt => ?_⟩
   .rintro ⟨q', hq'⟩; rcases Nat.eq_zero_or_pos t with h0 | h0
    .have := hl0 h0; omega
    .have e1 := hlast q' hq' (t - 1) (by omega); have e2 := hq'.asc (t - 1) t (by omega) htl; have e3 := hkq q' hq'; omega
   .refine ⟨⟨by omega, by show (k : Int) < ((row X t).length : Nat); omega⟩, fun hn1 => h2 ?_, fun h1' => ?_⟩
    .rintro ⟨q', hq'⟩; have := hq'.one t htl t htl; rw [hkq q' hq', if_pos rfl] at this; exact hn1 this
    .have hone : vo (row X t) k = 1 := Classical.not_not.1 h1'; refine ⟨fun z => ∃ u : Nat, z = u /\ u <= X.length /\ ∀ j, j < u -> j ≠ t -> vo (row X j) k = 0, fun z => (X.length - z).toNat, ⟨0, rfl, Nat.zero_le _, fun j hj => absurd hj (Nat.not_lt_zero j)⟩, ?_⟩; rintro _ ⟨u, rfl, hu, hju⟩; dsimp only; refine ⟨fun hlt2 => ?_, fun hge2 => ?_⟩
     .have hul : u < X.length := by omega
      have hwu := hw u hul; refine ⟨fun _ => u = t ∨ vo (row X u) k = 0, ⟨⟨by omega, by omega⟩, fun hne2 => ⟨⟨by omega, by show (k : Int) < ((row X u).length : Nat); omega⟩, fun hnz => h2 ?_, fun hz2 => .inr (Classical.not_not.1 hz2)⟩, fun he => .inl (by have := Classical.not_not.1 he; omega)⟩, ?_⟩
      .rintro ⟨q', hq'⟩; have := hq'.one t htl u hul; rw [hkq q' hq', if_neg (by omega)] at this; exact hnz this
      .intro b hb; refine ⟨Jt (by omega) (by omega), ⟨u + 1, by push_cast; rfl, by omega, fun j hj hne2 => ?_⟩, by omega⟩; rcases Nat.lt_or_ge j u with h | h
       .exact hju j h hne2
       .have : j = u := by omega
        subst this; exact hb.resolve_left hne2
     .obtain ⟨q2, e1, e2⟩ : ∃ q2 : Nat -> Nat, q2 t = k /\ ∀ i, i ≠ t -> q2 i = q i := ⟨fun i => if i = t then k else q i, if_pos rfl, fun i h => if_neg h⟩
      refine ⟨Jt (by omega) (by omega), ⟨t + 1, by push_cast; rfl, by omega, q2, fun i hi => ?_, fun i j hij hj => ?_, fun h0 => by omega, fun u hu => ?_⟩, by omega⟩
      .by_cases hit : i = t
       .subst hit; rw [e1]; refine ⟨by omega, fun s hs' => ?_, fun c hc => hz c hc⟩; by_cases hsi : s = i
        .subst hsi; rw [if_pos rfl]; exact hone
        .rw [if_neg hsi]; exact hju s (by omega) hsi
       .rw [e2 i hit]; exact hq1 i (by omega)
      .have hit : i ≠ t := by omega
       rw [e2 i hit]; by_cases hjt : j = t
       .subst hjt; rw [e1]; have hlu := hl1 (j - 1) (by omega); have : q i <= q (j - 1) := by
         rcases Nat.lt_or_ge i (j - 1) with h | h
         .exact Nat.le_of_lt (hq2 i (j - 1) h (by omega))
         .have : i = j - 1 := by omega
          rw [this]; exact Nat.le_refl _
        omega
       .rw [e2 j hjt]; exact hq2 i j hij (by omega)
      .have : u = t := by omega
       subst this; rw [e1]
  .have hge : (-1 : Int) <= last := by
    rcases Nat.eq_zero_or_pos t with h0 | h0
    .rw [hl0 h0]; exact Int.le_refl _
    .have := hl1 (t - 1) (by omega); omega
   refine ⟨fun _ => h2 ?_, fun hgt => absurd hge hgt⟩; rintro ⟨q', hq'⟩; have := hq'.one t htl t htl; rw [hz (q' t) (by have := hq'.lt t htl; omega), if_pos rfl] at this; exact absurd this (by decide)
 .have : t = X.length := by omega
  subst this; exact h1 ⟨q, fun i hi => (hq1 i hi).1, fun i hi t ht => (hq1 i hi).2.1 t ht, fun i hi => (hq1 i hi).2.2, hq2⟩
open Classical in
/-- the error of a space -/
noncomputable def sck (P M : Int) (mf : LI) (C : Int) (X : LL) : Int := if mck P M mf C X ≠ 0 then mck P M mf C X else if Juv C X then 0 else 5
theorem Jvz (h : mck P M mf C X ≠ 0) : sck P M mf C X = mck P M mf C X := if_pos h
theorem Jv0 (h : mck P M mf C X = 0) (h2 : ¬ Juv C X) : sck P M mf C X = 5 := by unfold sck; rw [if_neg (fun hh => hh h), if_neg h2]
theorem Jmd (h : mck P M mf C X = 0) (h2 : Juv C X) : sck P M mf C X = 0 := by unfold sck; rw [if_neg (fun hh => hh h), if_pos h2]
theorem Ju0 {Q : Int -> Prop} (h : Q (sck P M mf C X)) : Jc2 P M mf C X Q := by
 refine Ju5 ⟨fun hne => by rw [Jvz hne] at h; exact h, fun he => ?_⟩; have h0 : mck P M mf C X = 0 := Classical.not_not.1 he; obtain ⟨hV, hs, hE⟩ := Jfq h0; refine Jgk hs (fun hc => ?_) (fun hc => ?_)
 .rw [Jmd h0 hc] at h; exact ⟨fun hb => (by cases hb), fun _ => h⟩
 .rw [Jv0 h0 hc] at h; exact ⟨fun _ => h, fun hb => by cases hb⟩
theorem Jcd {a b : LI} {Q : Bool -> Prop} (ha : a.length <= 1000000) (h1 : a = b -> Q true) (h2 : a ≠ b -> Q false) : Y6 a b Q := by
 refine ⟨fun hne => h2 fun e => hne (by rw [e]), fun he => ?_⟩; have hl : a.length = b.length := by have := Classical.not_not.1 he; omega
 refine ⟨fun z => ∃ t : Nat, z = t /\ t <= a.length /\ ∀ j, j < t -> vo a j = vo b j, fun z => (a.length - z).toNat, ⟨0, rfl, Nat.zero_le _, fun j hj => absurd hj (Nat.not_lt_zero j)⟩, ?_⟩; rintro _ ⟨t, rfl, ht, hj⟩; dsimp only; refine ⟨fun hlt => ⟨⟨by omega, by omega⟩, ⟨by omega, by omega⟩, fun hne => h2 fun e => hne (by rw [e]), fun heq => ⟨Jt (by omega) (by omega), ⟨t + 1, by push_cast; rfl, by omega, fun j hj' => ?_⟩, by omega⟩⟩, fun hge => h1 ?_⟩
 .rcases Nat.lt_or_ge j t with h | h
  .exact hj j h
  .have : j = t := by omega
   subst this; exact Classical.not_not.1 heq
 .refine List.ext_getElem hl fun i i1 i2 => ?_; have := hj i (by omega); unfold vo at this
  rwa [List.getD_eq_getElem?_getD, List.getElem?_eq_getElem i1, List.getD_eq_getElem?_getD, List.getElem?_eq_getElem i2] at this
theorem Jcc {X Y : LL} {Q : Bool -> Prop} (hX : X.length <= 1000000) (hr : ∀ t, t < X.length -> (row X t).length <= 1000000) (h1 : X = Y -> Q true) (h2 : X ≠ Y -> Q false) : YC X Y Q := by
 refine ⟨fun hne => h2 fun e => hne (by rw [e]), fun he => ?_⟩; have hl : X.length = Y.length := by have := Classical.not_not.1 he; omega
 refine ⟨fun z => ∃ t : Nat, z = t /\ t <= X.length /\ ∀ j, j < t -> row X j = row Y j, fun z => (X.length - z).toNat, ⟨0, rfl, Nat.zero_le _, fun j hj => absurd hj (Nat.not_lt_zero j)⟩, ?_⟩; rintro _ ⟨t, rfl, ht, hj⟩; dsimp only; refine ⟨fun hlt => ⟨⟨by omega, by omega⟩, ⟨by omega, by omega⟩, ?_⟩, fun hge => h1 (QV hl fun i hi => hj i (by omega))⟩; have htl : t < X.length := by omega
 by_cases e : row X t = row Y t
 .refine ⟨true, Jcd (hr t htl) (fun _ => rfl) (fun hne => absurd e hne), fun hb => (by cases hb), fun _ => ⟨Jt (by omega) (by omega), ⟨t + 1, by push_cast; rfl, by omega, fun j hj' => ?_⟩, by omega⟩⟩; rcases Nat.lt_or_ge j t with h | h
  .exact hj j h
  .have : j = t := by omega
   subst this; exact e
 .exact ⟨false, Jcd (hr t htl) (fun e' => absurd e' e) (fun _ => rfl), fun _ => h2 fun e' => e (by rw [e']), fun hb => (by cases hb)⟩
theorem Jq1 {Q : Int -> Prop} (h : Q (sck P M mf C X)) : Ja4 P M mf C X Q := by
 refine Jq2 ⟨fun hne => by rw [Jvz hne] at h; exact h, fun he => ?_⟩; have h0 : mck P M mf C X = 0 := Classical.not_not.1 he; obtain ⟨hV, hs, hE⟩ := Jfq h0; obtain ⟨p', m', v', hF, hE'⟩ := hE; refine Jce hF hs hE' ?_; have hcl := Zq (p := p') (m := m') (v := v') hs; refine Jcc (by have := Jen hcl; omega) (fun t ht => by have := ZG hcl ht; have := ZH hs; omega) (fun e => ?_) (fun e => ?_)
 .rw [Jmd h0 ((Jw7 hF hs hE').2 e)] at h; exact ⟨fun hb => (by cases hb), fun _ => h⟩
 .rw [Jv0 h0 (fun hc => e ((Jw7 hF hs hE').1 hc))] at h; exact ⟨fun _ => h, fun hb => by cases hb⟩
end Go.Proofs.YtjgpkljepgcekaaGreat
namespace Go.Proofs.YtjgpkljepgcekaaGreat
/-! ### pivots, reduced words -/
variable {P M : Int} {mf : LI} {p m v g : Nat} {C : Int} {X Y : LL} {F : GFv}
end Go.Proofs.YtjgpkljepgcekaaGreat
namespace Go.Proofs.YtjgpkljepgcekaaGreat
/-! ### two spaces: inclusion, quotient -/
variable {P M : Int} {mf : LI} {p m v g : Nat} {C Ca Cb : Int} {X Y a b : LL} {F : GFv}
/-- What is known of a space over a field. -/
structure Sg (P M : Int) (mf : LI) (p m v : Nat) (C : Int) (X : LL) (q : Nat -> Nat) : Prop where
  f : FV P M mf p m v
  s : shp C X
  e : Els p m X
  q : Cnl C.toNat X q
theorem Sg.mk0 {q : Nat -> Nat} (G : Sg P M mf p m v C X q) : mck P M mf C X = 0 := Jfr ⟨p, m, v, G.f⟩ G.s ((Yy G.f).2 G.e)
theorem Sg.sck {q : Nat -> Nat} (G : Sg P M mf p m v C X q) : sck P M mf C X = 0 := Jmd G.mk0 ⟨q, G.q⟩
theorem shp_of {l : LL} (hC : 0 <= C /\ C <= 256) (hl : l.length <= 256) (hw : ∀ t, t < l.length -> (row l t).length = C.toNat) : shp C l := by
 unfold shp; refine ⟨hC.1, hC.2, by omega, fun r hr => ?_⟩; obtain ⟨t, ht, rfl⟩ := ZO hr; have := hw t ht; omega
theorem shp_C (hs : shp C X) : 0 <= C /\ C <= 256 := by have := ZH hs; omega
end Go.Proofs.YtjgpkljepgcekaaGreat
namespace Go.Proofs.YtjgpkljepgcekaaGreat
/-! ### sums, intersections, duals -/
variable {P M : Int} {mf : LI} {p m v g w : Nat} {C Ca Cb : Int} {X Y a b : LL}
/-- the dual space -/
def nul (p m v : Nat) (C : Int) (X : LL) : LL := Qg p m v C (Jcw p m v C X)
theorem nul_sg (hF : FV P M mf p m v) (hs : shp C X) : Sg P M mf p m v C (nul p m v C X) fun i => (vo (JS p m v C (Jcw p m v C X)) i).toNat :=
 ⟨hF, Zq (YA hs), Jak hF (Zr hF), Jiw hF (YA hs) (Zr hF)⟩
theorem w_Kern {Q : Int × LL × Int -> Prop} (hF : FV P M mf p m v) (hs : shp C X) (he : Els p m X) (h : Q (C, nul p m v C X, 0)) : Jap P M mf C X Q := by
 have h0 : mck P M mf C X = 0 := Jfr ⟨p, m, v, hF⟩ hs ((Yy hF).2 he); refine Jva (fun hh => absurd h0 hh) fun p' m' v' hF' _ _ _ => ?_; obtain ⟨rfl, rfl, rfl⟩ := hF.uniq3 hF'; exact h
end Go.Proofs.YtjgpkljepgcekaaGreat
namespace Go.Proofs.YtjgpkljepgcekaaGreat
/-! ### the words of a set of positions; the examples -/
variable {P M : Int} {mf : LI} {p m v g w : Nat} {C Ca Cb : Int} {X Y a b : LL}
end Go.Proofs.YtjgpkljepgcekaaGreat
namespace Go.Proofs.YtjgpkljepgcekaaGreat
/-! ### the dual of the dual; dimensions -/
variable {P M : Int} {mf : LI} {p m v g w : Nat} {C Ca Cb : Int} {X Y a b : LL}
end Go.Proofs.YtjgpkljepgcekaaGreat
namespace Go.Proofs.YtjgpkljepgcekaaGreat
/-! ### dimensions -/
variable {P M : Int} {mf : LI} {p m v g w : Nat} {C Ca Cb : Int} {X Y a b : LL}
end Go.Proofs.YtjgpkljepgcekaaGreat
namespace Go.Proofs.YtjgpkljepgcekaaGreat
/-! ### package code and its reference -/
section
variable {P M : Int} {mf : LI} {p m v : Nat} {N C : Int} {X Y : LL}
theorem FV.mlen (h : FV P M mf p m v) : mf.length <= 1000 := by
 by_cases h1 : m = 1
 .rw [(h.m1 h1).1]; simp
 .rw [h.m2 h1, J6]; have h2 : 2 <= p := h.pr.two; have := Nat.lt_pow_self (n := m) (show 1 < p by omega); have := h.q; omega
/-- the error of a code -/
noncomputable def cck (P M : Int) (mf : LI) (N : Int) (X : LL) : Int := if ck P M mf ≠ 0 then ck P M mf else if 1 <= N /\ N <= 64 then sck P M mf N X else 4
theorem Je1 {n : Int} {Q : Bool -> Prop} (h : Q (decide (1 <= n /\ n <= 64))) : YX n Q := by
 refine ⟨fun h1 => ?_, fun h1 => ?_⟩
 .have e : decide (1 <= n /\ n <= 64) = decide (n <= 64) := by simp [h1]
  rw [<- e]; exact h
 .have e : decide (1 <= n /\ n <= 64) = false := by simp [h1]
  rw [<- e]; exact h
theorem Ju7 {Q : Int -> Prop} (h : Q (cck P M mf N X)) : Jde P M mf N X Q := by
 unfold cck at h; refine Jph ⟨fun h0 => ?_, fun h0 => Je1 ⟨fun h1 => ?_, fun h1 => ⟨_, Ju0 rfl, ?_⟩⟩⟩
 .rw [if_pos h0] at h; exact h
 .rw [if_neg h0, if_neg (fun hh => by rw [decide_eq_true hh] at h1; cases h1)] at h; exact h
 .rw [if_neg h0, if_pos (of_decide_eq_true (by simpa using h1))] at h; exact h
theorem Jq4 {Q : Int -> Prop} (h : Q (cck P M mf N X)) : Ja7 P M mf N X Q := by
 unfold cck at h; refine Je6 ⟨fun h0 => ?_, fun h0 => ⟨fun h1 => ?_, fun h1 => ⟨fun h2 => ?_, fun h2 => Jq1 ?_⟩⟩⟩
 .rw [if_pos h0] at h; exact h
 .rw [if_neg h0, if_neg (by omega)] at h; exact h
 .rw [if_neg h0, if_neg (by omega)] at h; exact h
 .rw [if_neg h0, if_pos (by omega)] at h; exact h
theorem Jxa {q : Nat -> Nat} (G : Sg P M mf p m v N X q) (h1 : 1 <= N) (h2 : N <= 64) : cck P M mf N X = 0 := by
 unfold cck; rw [if_neg (by rw [Jec ⟨p, m, v, G.f⟩]; simp), if_pos ⟨h1, h2⟩, G.sck]
theorem Jjk {mm : LL} {e : Int} {Q : Option LI × Int -> Prop} (he : e ≠ 0) (h : Q (none, e)) : Jb6 P M mf C mm e Q := ⟨fun _ => h, fun hh => absurd he hh⟩
theorem Jjl {mm : LL} {Q : Option LI × Int -> Prop} (hm : mf.length <= 1000) (h : Q (some mf, 0)) : Jb6 P M mf C mm 0 Q := ⟨fun hh => absurd rfl hh, fun _ => Jch (by omega) h⟩
/-- the error of New -/
noncomputable def nck (P M : Int) (mf : LI) (C : Int) (X : LL) : Int := if mck P M mf C X ≠ 0 then mck P M mf C X else if 1 <= C /\ C <= 64 then 0 else 4
theorem w_cNew {Q : Int × Int × LI × Int × LL × Int -> Prop} (h0 : nck P M mf C X ≠ 0 -> Q (0, 0, [], 0, [], nck P M mf C X))
  (h : ∀ p m v, FV P M mf p m v -> shp C X -> Els p m X -> 1 <= C /\ C <= 64 -> Q (P, M, mf, C, Qg p m v C X, 0)) : Jgg P M mf C X Q := by
 unfold nck at h0; refine Jjo (fun hb => ⟨fun hh => absurd hh hb, fun _ => Jjk hb ?_⟩) fun p m v hF hs he hz => ⟨fun _ => Je1 ?_, fun hh => absurd rfl hh⟩
 .rw [if_pos hb] at h0; exact h0 hb
 .rw [if_neg (fun hh => hh hz)] at h0; by_cases h1 : 1 <= C /\ C <= 64
  .refine ⟨fun z => z = 0, ⟨fun hh => by simp [h1] at hh, fun _ => rfl⟩, ?_⟩; rintro _ rfl; exact Jjl hF.mlen (h p m v hF hs he h1)
  .refine ⟨fun z => z = 4, ⟨fun _ => rfl, fun hh => by simp [h1] at hh⟩, ?_⟩; rintro _ rfl; rw [if_neg h1] at h0; exact Jjk (by decide) (h0 (by decide))
theorem Jq3 {Q : Int × Int × LI -> Prop} (hm : mf.length <= 1000) (h : Q (P, M, mf)) : Ja6 P M mf Q := ⟨by omega, h⟩
theorem Jjj {Q : Int × Int × LI × Int × LL -> Prop} (hF : FV P M mf p m v) (hs : shp C X) (he : Els p m X) (h : Q (P, M, mf, C, Qg p m v C X)) : Jao P M mf X C Q :=
 Jce hF hs he (Jq3 hF.mlen h)
theorem Jpd {Q : Int × Int × LI × Int × LL × Int -> Prop} {q : Nat -> Nat} (G : Sg P M mf p m v N X q) (h1 : 1 <= N /\ N <= 64) (h : Q (P, M, mf, N, nul p m v N X, 0)) : Jbc P M mf N X Q := by
 refine Ju7 ?_; rw [Jxa G h1.1 h1.2]; refine ⟨fun hh => absurd rfl hh, fun _ => ⟨fun a b e => a = N /\ b = nul p m v N X /\ e = 0, ⟨_, _, _, w_Kern G.f G.s G.e rfl, rfl, rfl, rfl⟩, ?_⟩⟩; rintro _ _ _ ⟨rfl, rfl, rfl⟩; exact Jjl G.f.mlen h
theorem Ju3 {P' M' : Int} {mg : LI} {Q : Bool -> Prop} (hl : mf.length <= 1000000) (h1 : P = P' -> M = M' -> mf = mg -> Q true) (h2 : ¬ (P = P' /\ M = M' /\ mf = mg) -> Q false) : Jc6 P M mf P' M' mg Q := by
 refine ⟨fun h => h2 fun e => h e.1, fun hP => ⟨fun h => h2 fun e => h e.2.1, fun hM => ⟨fun h => h2 fun e => h (by rw [e.2.2]), fun hL => ?_⟩⟩⟩; have hP := Classical.not_not.1 hP; have hM := Classical.not_not.1 hM; have hL : mf.length = mg.length := by have := Classical.not_not.1 hL; omega
 refine ⟨fun z => ∃ t : Nat, z = t /\ t <= mf.length /\ ∀ j, j < t -> vo mf j = vo mg j, fun z => (mf.length - z).toNat, ⟨0, rfl, Nat.zero_le _, fun j hj => absurd hj (Nat.not_lt_zero j)⟩, ?_⟩; rintro _ ⟨t, rfl, ht, hj⟩; dsimp only; refine ⟨fun hlt => ⟨⟨by omega, by omega⟩, ⟨by omega, by omega⟩, fun hne => h2 fun e => hne (by rw [e.2.2]), fun heq => ⟨Jt (by omega) (by omega), ⟨t + 1, by push_cast; rfl, by omega, fun j hj' => ?_⟩, by omega⟩⟩, fun hge => h1 hP hM ?_⟩
 .rcases Nat.lt_or_ge j t with h | h
  .exact hj j h
  .have : j = t := by omega
   subst this; exact Classical.not_not.1 heq
 .refine List.ext_getElem hL fun i i1 i2 => ?_; have := hj i (by omega); unfold vo at this
  rwa [List.getD_eq_getElem?_getD, List.getElem?_eq_getElem i1, List.getD_eq_getElem?_getD, List.getElem?_eq_getElem i2] at this
/-- a code compared with itself -/
theorem Zb {Q : Bool -> Prop} (hm : mf.length <= 1000000) (hX : X.length <= 1000000) (hr : ∀ t, t < X.length -> (row X t).length <= 1000000) (h : Q true) : YR P M mf N X P M mf N X Q :=
  Ju3 hm (fun _ _ _ => ⟨fun _ => ⟨fun _ => Jcc hX hr (fun _ => h) (fun hh => absurd rfl hh), fun hh => absurd rfl hh⟩, fun hh => by cases hh⟩) (fun hh => absurd ⟨rfl, rfl, rfl⟩ hh)
theorem Jgi {Q : Bool -> Prop} (h : Q true) : YR 0 0 [] 0 [] 0 0 [] 0 [] Q := Zb (by simp) (by simp) (fun t ht => absurd ht (Nat.not_lt_zero t)) h
theorem Jbk {e : Int} {Q : Bool -> Prop} (hm : mf.length <= 1000000) (hX : X.length <= 1000000) (hr : ∀ t, t < X.length -> (row X t).length <= 1000000) (h : Q true) : YB P M mf N X e P M mf N X e Q :=
 ⟨fun _ => Zb hm hX hr h, fun hh => absurd rfl hh⟩
theorem Jbj {e : Int} {Q : Bool -> Prop} (h : Q true) : YB 0 0 [] 0 [] e 0 0 [] 0 [] e Q := ⟨fun _ => Jgi h, fun hh => absurd rfl hh⟩
theorem Jjy (hs : shp C X) : X.length <= 1000000 /\ ∀ t, t < X.length -> (row X t).length <= 1000000 :=
 ⟨by have := Jen hs; omega, fun t ht => by rw [ZG hs ht]; have := shp_C hs; omega⟩
end
end Go.Proofs.YtjgpkljepgcekaaGreat
namespace Go.Proofs.YtjgpkljepgcekaaGreat
/-! ### monomials, lists compared -/
section
/-- the mask of the first i variables -/
def msk (l : LI) (i : Nat) : Nat := (l.take i).foldl (fun a v => a ||| 2 ^ v.toNat) 0
theorem Jkn {l : LI} {i : Nat} (h : i < l.length) : msk l (i + 1) = msk l i ||| 2 ^ (vo l i).toNat := by
 unfold msk vo; rw [List.take_add_one, List.foldl_append, List.getElem?_eq_getElem h, List.getD_eq_getElem?_getD, List.getElem?_eq_getElem h]; rfl
theorem Jmy {l : LI} {m : Nat} : ∀ i, i <= l.length -> (∀ j, j < i -> 0 <= vo l j /\ vo l j < (m : Int)) -> msk l i < 2 ^ m
 | 0, _, _ => by simp only [msk, List.take_zero, List.foldl_nil]; exact Nat.pos_of_ne_zero (by simp)
 | i + 1, hi, h => by
  rw [Jkn (by omega)]; have := h i (by omega); refine Nat.or_lt_two_pow (Jmy i (by omega) fun j hj => h j (by omega)) ?_; exact Nat.pow_lt_pow_right (by omega) (by omega)
/-- the values of a monomial at all points -/
def evl (m : Nat) (l : LI) : LI := (List.range (2 ^ m)).map fun x => if x &&& msk l l.length = msk l l.length then 1 else 0
theorem Jkp {x : Nat} (h : x <= 6) : QZ 1 (x : Int) = ((2 ^ x : Nat) : Int) := by
 unfold QZ; rw [Int.toNat_natCast, show min x IntKind.i64.bits = x from Nat.min_eq_left (by show x <= 64; omega)]; simp
theorem pow6 {x : Nat} (h : x <= 6) : 1 <= 2 ^ x /\ 2 ^ x <= 64 := ⟨Nat.one_le_two_pow, Nat.pow_le_pow_right (by omega) h⟩
theorem Jjm {m : Nat} {l : LI} {Q : LI -> Prop} (hm : m <= 6) (hl : l.length <= 1000000) (hv : ∀ j, j < l.length -> 0 <= vo l j /\ vo l j < (m : Int)) (h : Q (evl m l)) : Y8 (m : Int) l Q := by
 refine ⟨fun x z => ∃ i : Nat, z = i /\ i <= l.length /\ x = ((msk l i : Nat) : Int), fun _ z => (l.length - z).toNat, ⟨0, rfl, Nat.zero_le _, rfl⟩, ?_⟩; rintro _ _ ⟨i, rfl, hi, rfl⟩; dsimp only; have hp := pow6 hm; refine ⟨fun hlt => ?_, fun hge => ?_⟩
 .have hb := hv i (by omega); obtain ⟨y, hy⟩ := Int.eq_ofNat_of_zero_le hb.1; have hg : gi l (i : Int) = (y : Int) := hy; have hy6 : y <= 6 := by omega
  have hp2 := pow6 hy6; have hk := Jmy (m := m) i hi fun j hj => hv j (by omega); rw [hg, Jkp hy6]; refine ⟨⟨by omega, by omega⟩, ⟨by omega, Jt (by omega) (by omega)⟩, ⟨by omega, by omega, by omega, by omega⟩, Jt (by omega) (by omega), ⟨i + 1, by push_cast; rfl, by omega, ?_⟩, by omega⟩; rw [Jkn (by omega), hy]; simp only [ior, Int.toNat_natCast]
 obtain rfl : i = l.length := by omega
 have hk := Jmy (m := m) l.length (Nat.le_refl _) hv; rw [Jkp hm]; refine ⟨⟨by omega, Jt (by omega) (by omega)⟩, ⟨by omega, by omega, by omega⟩, fun x z => ∃ k : Nat, z = k /\ k <= 2 ^ m /\ x.length = 2 ^ m /\ ∀ j, j < 2 ^ m -> vo x j = if j < k /\ j &&& msk l l.length = msk l l.length then 1 else 0, fun _ z => ((2 ^ m : Nat) - z).toNat, ⟨0, rfl, Nat.zero_le _, by rw [List.length_replicate, Int.toNat_natCast], fun j hj => ?_⟩, ?_⟩
 .rw [if_neg (by omega)]; unfold vo; rw [List.getD_eq_getElem?_getD, List.getElem?_replicate]; split <;> rfl
 rintro x _ ⟨k, rfl, hk2, hx, hx2⟩; dsimp only; refine ⟨fun hlt => ?_, fun hge => ?_⟩
 .refine ⟨fun y => y.length = 2 ^ m /\ ∀ j, j < 2 ^ m -> vo y j = if j < k + 1 /\ j &&& msk l l.length = msk l l.length then 1 else 0, ⟨⟨by omega, by omega, by omega, by omega⟩, fun he => ⟨⟨by omega, by omega⟩, ?_, fun j hj => ?_⟩, fun hne => ⟨hx, fun j hj => ?_⟩⟩, ?_⟩
  .rw [Qn, List.length_set]; exact hx
  .have he' : k &&& msk l l.length = msk l l.length := by
    simp only [Jm4, Int.toNat_natCast] at he; omega
   rw [Qn, J5, hx2 j hj]; by_cases e : k = j
   .subst e; rw [if_pos ⟨rfl, by omega⟩, if_pos ⟨by omega, he'⟩]
   .rw [if_neg (fun hh => e hh.1)]; by_cases e2 : j &&& msk l l.length = msk l l.length
    .by_cases e3 : j < k
     .rw [if_pos ⟨e3, e2⟩, if_pos ⟨by omega, e2⟩]
     .rw [if_neg (fun hh => e3 hh.1), if_neg (fun hh => by omega)]
    .rw [if_neg (fun hh => e2 hh.2), if_neg (fun hh => e2 hh.2)]
  .have hne' : ¬ k &&& msk l l.length = msk l l.length := fun e => hne (by simp only [Jm4, Int.toNat_natCast]; omega); rw [hx2 j hj]; by_cases e2 : j &&& msk l l.length = msk l l.length
   .have : j ≠ k := fun e => hne' (e ▸ e2); by_cases e3 : j < k
    .rw [if_pos ⟨e3, e2⟩, if_pos ⟨by omega, e2⟩]
    .rw [if_neg (fun hh => e3 hh.1), if_neg (fun hh => by omega)]
   .rw [if_neg (fun hh => e2 hh.2), if_neg (fun hh => e2 hh.2)]
  .rintro y ⟨h1, h2⟩; exact ⟨Jt (by omega) (by omega), ⟨k + 1, by push_cast; rfl, by omega, h1, h2⟩, by omega⟩
 have hk3 : k = 2 ^ m := by omega
 subst hk3; have e : x = evl m l := by
  refine List.ext_getElem (by simp [evl, hx]) fun j h1 h2 => ?_; have := hx2 j (by omega); unfold vo at this; rw [List.getD_eq_getElem?_getD, List.getElem?_eq_getElem h1] at this; simp only [Option.getD_some] at this; rw [this]; simp only [evl, List.getElem_map, List.getElem_range]; by_cases e2 : j &&& msk l l.length = msk l l.length
  .rw [if_pos ⟨by omega, e2⟩, if_pos e2]
  .rw [if_neg (fun hh => e2 hh.2), if_neg e2]
 rw [e]; exact h
theorem Jl1 {m : Int} {l : LI} {Q : LI × Int -> Prop} (h6 : ¬ (0 <= m /\ m <= 6) -> Q ([], 6)) (h5 : 0 <= m /\ m <= 6 -> ¬ Asc m.toNat l -> Q ([], 5)) (h0 : 0 <= m /\ m <= 6 -> Asc m.toNat l -> Q (evl m.toNat l, 0)) : Z4 m l Q := by
 refine ⟨fun hh => h6 (by omega), fun h1 => ⟨fun hh => h6 (by omega), fun h2 => ?_⟩⟩; obtain ⟨n, rfl⟩ := Int.eq_ofNat_of_zero_le (show 0 <= m by omega); have hn : n <= 6 := by omega
 rw [Int.toNat_natCast] at h5 h0; have h5 := h5 ⟨by omega, by omega⟩; have h0 := h0 ⟨by omega, by omega⟩; refine ⟨fun z t => ∃ i : Nat, t = i /\ i <= l.length /\ (i : Int) <= z + 1 /\ z < (n : Int) /\ (∀ j, j < i -> 0 <= vo l j /\ vo l j <= z) /\ (∀ a b, a < b -> b < i -> vo l a < vo l b) /\ (0 < i -> z = vo l (i - 1)) /\ -1 <= z /\ (i = 0 -> z = -1), fun _ t => (l.length - t).toNat, ⟨0, rfl, Nat.zero_le _, by omega, by omega, fun j hj => absurd hj (Nat.not_lt_zero _), fun a b _ hb => absurd hb (Nat.not_lt_zero _), fun hh => absurd hh (Nat.lt_irrefl 0), by omega, fun _ => rfl⟩, ?_⟩; rintro z _ ⟨i, rfl, hi, hiz, hzn, ha, hb, hc, hz1, hz0⟩; dsimp only; refine ⟨fun hlt => ⟨⟨by omega, by omega⟩, fun hle => h5 fun hA => ?_, fun hgt => ⟨fun hge => h5 fun hA => ?_, fun hlt2 => ⟨Jt (by omega) (by omega), ⟨i + 1, by push_cast; rfl, by omega, ?_, ?_, fun j hj => ?_, fun a b hab hbi => ?_, fun _ => rfl, ?_, fun hh => absurd hh (Nat.succ_ne_zero _)⟩, by omega⟩⟩⟩, fun hge => ?_⟩
 .have hle' : vo l i <= z := hle; have := hA.1 i (by omega); rcases Nat.eq_zero_or_pos i with e | e
  .have := hz0 e; omega
  .have h1 := hc e; have := hA.2 (i - 1) i (by omega) (by omega); omega
 .have hge' : (n : Int) <= vo l i := hge; have := hA.1 i (by omega); omega
 .have hgt' : ¬ vo l i <= z := hgt; show ((i + 1 : Nat) : Int) <= vo l i + 1; omega
 .have hlt' : ¬ (n : Int) <= vo l i := hlt2; show vo l i < (n : Int)
  omega
 .have hgt' : ¬ vo l i <= z := hgt; show 0 <= vo l j /\ vo l j <= vo l i; rcases Nat.lt_or_ge j i with e | e
  .have := ha j e; omega
  .obtain rfl : j = i := by omega
   omega
 .have hgt' : ¬ vo l i <= z := hgt; rcases Nat.lt_or_ge b i with e | e
  .exact hb a b hab e
  .obtain rfl : b = i := by omega
   have := ha a hab; omega
 .have hgt' : ¬ vo l i <= z := hgt; show -1 <= vo l i; omega
 obtain rfl : i = l.length := by omega
 exact Jjm hn (by omega) (fun j hj => by have := ha j hj; omega) (h0 ⟨fun j hj => by have := ha j hj; omega, hb⟩)
theorem asc01 : Asc (2 : Int).toNat [0, 1] := by
 refine ⟨fun i hi => ?_, fun i j hij hj => ?_⟩
 .match i, hi with
  | 0, _ => exact ⟨by decide, by decide⟩
  | 1, _ => exact ⟨by decide, by decide⟩
 .have hj' : j < 2 := hj; obtain rfl : j = 1 := by omega
  obtain rfl : i = 0 := by omega
  decide
theorem Jgw {Q : Bool -> Prop} (h : Q true) : Zy Q := by
 refine Jl1 (fun hh => absurd ⟨by decide, by decide⟩ hh) (fun _ hh => absurd asc01 hh) fun _ _ => ?_; have e : evl (2 : Int).toNat [0, 1] = [0, 0, 0, 1] := by decide
 rw [e]; exact ⟨fun _ => ⟨fun _ => ⟨⟨by decide, by decide⟩, fun _ => ⟨⟨by decide, by decide⟩, fun _ => ⟨⟨by decide, by decide⟩, fun _ => ⟨⟨by decide, by decide⟩, h⟩, fun hh => absurd rfl hh⟩, fun hh => absurd rfl hh⟩, fun hh => absurd rfl hh⟩, fun hh => absurd rfl hh⟩, fun hh => absurd rfl hh⟩
end
end Go.Proofs.YtjgpkljepgcekaaGreat
namespace Go.Proofs.YtjgpkljepgcekaaGreat
/-! ### the points of a projective space -/
section
variable {P M : Int} {mf : LI} {p m v g : Nat} {F : GFv}
def cdg (q r x : Nat) : LI := (List.range r).map fun k => ((x / q ^ (r - 1 - k) % q : Nat) : Int)
theorem Jqc (q r x : Nat) : (cdg q r x).length = r := by simp [cdg]
theorem Je4 {q r x k : Nat} (h : k < r) : vo (cdg q r x) k = ((x / q ^ (r - 1 - k) % q : Nat) : Int) := by
 unfold vo cdg; rw [List.getD_eq_getElem?_getD, List.getElem?_map, List.getElem?_range h]; rfl
theorem Jz2 {q r x : Nat} {l : LI} (hl : l.length = r) (h : ∀ k, k < r -> vo l k = ((x / q ^ (r - 1 - k) % q : Nat) : Int)) : l = cdg q r x := by
 refine List.ext_getElem (by rw [hl, Jqc]) fun j h1 h2 => ?_; have a := h j (by omega); have b := Je4 (q := q) (x := x) (show j < r by omega); rw [<- b] at a; unfold vo at a
 rwa [List.getD_eq_getElem?_getD, List.getElem?_eq_getElem h1, List.getD_eq_getElem?_getD, List.getElem?_eq_getElem h2] at a
/-- the digits, written from the last to the first -/
def dgI (q r x : Nat) (l : LI) (z t : Int) : Prop := ∃ j : Nat, t = (j : Int) - 1 /\ j <= r /\ l.length = r /\ z = ((x / q ^ (r - j) : Nat) : Int) /\ ∀ k, j <= k -> k < r -> vo l k = ((x / q ^ (r - 1 - k) % q : Nat) : Int)
theorem dgI_0 (q r x : Nat) : dgI q r x (List.replicate r 0) (x : Int) ((r : Int) - 1) := ⟨r, rfl, Nat.le_refl _, by simp, by rw [Nat.sub_self, Nat.pow_zero, Nat.div_one], fun k h1 h2 => by omega⟩
theorem Jkw {q r x : Nat} (hq : 2 <= q) (hq2 : q <= 256) (hr : r <= 64) (hx : x <= 100000000) {l : LI} {z t : Int} (h : dgI q r x l z t) (ht : 0 <= t) :
  (0 <= t /\ t < (r : Nat)) /\ I64 (z.tdiv (q : Int)) /\ I64 (t - 1) /\ dgI q r x (si l t (z.tmod (q : Int))) (z.tdiv (q : Int)) (t - 1) := by
 obtain ⟨j, rfl, hj, hl, rfl, hk⟩ := h; have hj0 : 0 < j := by omega
 have e1 : ((j : Int) - 1) = ((j - 1 : Nat) : Int) := by omega
 have hle : x / q ^ (r - j) / q <= x := Nat.le_trans (Nat.div_le_self _ _) (Nat.div_le_self _ _); have e2 : x / q ^ (r - j) / q = x / q ^ (r - (j - 1)) := by
  rw [Nat.div_div_eq_div_mul, <- Nat.pow_succ, show (r - j).succ = r - (j - 1) by omega]
 refine ⟨⟨by omega, by omega⟩, ?_, Jt (by omega) (by omega), j - 1, by omega, by omega, ?_, ?_, fun k h1 h2 => ?_⟩
 .rw [Jjq]; exact Yb (by omega)
 .rw [e1, Qn, List.length_set]; exact hl
 .rw [Jjq, e2]
 .rw [e1, Qn, J5, Jci]; by_cases e : j - 1 = k
  .subst e; rw [if_pos ⟨rfl, by omega⟩, show r - 1 - (j - 1) = r - j by omega]
  .rw [if_neg (fun hh => e hh.1)]; exact hk k (by omega) h2
theorem Jp9 {q r x : Nat} {l : LI} {z t : Int} (h : dgI q r x l z t) (ht : ¬ 0 <= t) : l = cdg q r x := by
 obtain ⟨j, rfl, hj, hl, rfl, hk⟩ := h; exact Jz2 hl fun k h => hk k (by omega) h
theorem Jq6 {q r x : Nat} {Q : LI -> Prop} (hq : 2 <= q) (hq2 : q <= 256) (hr : r <= 64) (hx : x <= 100000000) (h : Q (cdg q r x)) : Jbb (q : Int) (r : Int) (x : Int) Q := by
 refine ⟨⟨by omega, by omega, by omega⟩, Jt (by omega) (by omega), fun l z t => dgI q r x l z t, fun _ _ t => (t + 1).toNat, by rw [Int.toNat_natCast]; exact dgI_0 q r x, ?_⟩; intro l z t hI; refine ⟨fun ht => ?_, fun ht => by rw [Jp9 hI ht]; exact h⟩; obtain ⟨h1, h2, h3, h4⟩ := Jkw hq hq2 hr hx hI ht; exact ⟨by omega, by rw [Int.toNat_natCast]; exact h1, ⟨by omega, h2⟩, h3, h4, by dsimp only; omega⟩
/-- how many points there are -/
def cnt (q : Nat) : Nat -> Nat
  | 0 => 0
  | r + 1 => cnt q r * q + 1
theorem YF (q : Nat) : ∀ r, cnt q (r + 1) = cnt q r + q ^ r
 | 0 => by simp [cnt]
 | r + 1 => by
  have ih := YF q r; rw [show cnt q (r + 1 + 1) = cnt q (r + 1) * q + 1 from rfl]; have e : q ^ r * q = q ^ (r + 1) := (Nat.pow_succ ..).symm; rw [ih, Nat.add_mul, e]; have : cnt q (r + 1) = cnt q r * q + 1 := rfl; omega
theorem YO (q : Nat) {a b : Nat} (h : a <= b) : cnt q a <= cnt q b := by
 induction h with
 | refl => exact Nat.le_refl _
 | step _ ih => rw [YF]; omega
theorem Zf {q : Nat} (hq : 1 <= q) : ∀ r, r <= cnt q r
 | 0 => Nat.le_refl _
 | r + 1 => by
  have := Zf hq r; have h1 : cnt q r * 1 <= cnt q r * q := Nat.mul_le_mul_left _ hq; show r + 1 <= cnt q r * q + 1; omega
/-- some count up to r is beyond 64 -/
theorem Ju8 {q : Nat} {r : Int} {Q : Bool -> Prop} (hq : 2 <= q) (hq2 : q <= 256) (hr : 1 <= r) (h1 : cnt q r.toNat <= 64 -> Q true) (h2 : ¬ cnt q r.toNat <= 64 -> Q false) : Jdf (q : Int) r Q := by
  obtain ⟨n, rfl⟩ := Int.eq_ofNat_of_zero_le (show 0 <= r by omega)
  rw [Int.toNat_natCast] at h1 h2
  refine ⟨fun z t => ∃ j : Nat, t = j /\ j <= n /\ z = ((cnt q j : Nat) : Int) /\ cnt q j <= 64, fun _ t => (n - t).toNat, ⟨0, rfl, Nat.zero_le _, rfl, by simp [cnt]⟩, ?_⟩
  rintro _ _ ⟨j, rfl, hj, rfl, hc⟩
  dsimp only
  have hb : cnt q j * q <= 64 * 256 := Nat.mul_le_mul hc hq2
  have hj64 := Zf (show 1 <= q by omega) j
  have e : ((cnt q j : Nat) : Int) * (q : Int) = ((cnt q j * q : Nat) : Int) := by push_cast; rfl
  rw [e]
  refine ⟨fun hlt => ⟨Yb (by omega), Jt (by omega) (by omega), fun hgt => h2 fun hle => ?_, fun hle => ⟨Jt (by omega) (by omega), ⟨j + 1, by push_cast; rfl, by omega, by show _ = ((cnt q j * q + 1 : Nat) : Int); push_cast; rfl, by show cnt q j * q + 1 <= 64; omega⟩, by omega⟩⟩, fun hge => ?_⟩
  . have := YO q (show j + 1 <= n by omega)
    have e3 : cnt q (j + 1) = cnt q j * q + 1 := rfl
    omega
  . obtain rfl : j = n := by omega
    exact h1 hc
/-- the numbers of the points -/
def pnl (q : Nat) : Nat -> List Nat
  | 0 => []
  | i + 1 => pnl q i ++ List.range' (q ^ i) (q ^ i)
def pts (q r : Nat) : LL := (pnl q r).map (cdg q r)
theorem Y0 (q : Nat) : ∀ i, (pnl q i).length = cnt q i
 | 0 => rfl
 | i + 1 => by rw [pnl, List.length_append, List.length_range', Y0 q i, YF]
theorem Jaw (q r : Nat) : (pts q r).length = cnt q r := by rw [pts, List.length_map, Y0]
theorem Jy8 {q : Nat} (hq : 2 <= q) {i r : Nat} (hi : i < r) (h : cnt q r <= 64) : q ^ i <= 64 /\ 1 <= q ^ i := by
 have := YO q (show i + 1 <= r by omega); rw [YF] at this; exact ⟨by omega, Nat.pos_of_ne_zero (fun e => by have := Nat.pow_eq_zero.1 e; omega)⟩
theorem Jd6 {q r t : Nat} (h : t < (pts q r).length) : (row (pts q r) t).length = r := by
 unfold row pts; rw [List.getD_eq_getElem?_getD, List.getElem?_map, List.getElem?_eq_getElem (by rw [pts, List.length_map] at h; exact h)]; exact Jqc _ _ _
theorem Ju9 {r : Int} {Q : LL × Int -> Prop} (h1 : ¬ Qt P M mf -> Q ([], 1)) (h6 : Qt P M mf -> r < 1 -> Q ([], 6))
  (h : ∀ p m v, FV P M mf p m v -> 1 <= r -> (¬ cnt (p ^ m) r.toNat <= 64 -> Q ([], 4)) /\ (cnt (p ^ m) r.toNat <= 64 -> Q (pts (p ^ m) r.toNat, 0))) : Jdg P M mf r Q := by
 refine v_New (fun hn => ⟨fun _ => h1 hn, fun hh => absurd (by decide) hh⟩) fun F p m v g K e1 e2 e3 => ⟨fun hh => absurd rfl hh, fun _ => ⟨fun hr => ?_, fun hr => ?_⟩⟩
 .subst e1 e2 e3; exact h6 ⟨p, m, v, K.fv⟩ hr
 have hF : FV P M mf p m v := by subst e1 e2 e3; exact K.fv
 obtain ⟨h4, h0⟩ := h p m v hF (by omega); have hq : 2 <= p ^ m := hF.ring.q2; have hq2 := hF.q; unfold Jbd; rw [K.q]; dsimp only; refine Ju8 hq hq2 (by omega) (fun hc => ⟨(fun hh => by cases hh), fun _ => ?_⟩) (fun hc => ⟨fun _ => h4 hc, (fun hh => by cases hh)⟩); have h0 := h0 hc; obtain ⟨n, rfl⟩ := Int.eq_ofNat_of_zero_le (show 0 <= r by omega); rw [Int.toNat_natCast] at h0 hc; generalize p ^ m = q at *
 have hn : n <= 64 := Nat.le_trans (Zf (by omega) n) hc; refine ⟨fun x z t => ∃ i : Nat, t = i /\ i <= n /\ z = ((q ^ i : Nat) : Int) /\ x = (pnl q i).map (cdg q n), fun _ _ t => (n - t).toNat, ⟨0, rfl, Nat.zero_le _, by simp, rfl⟩, ?_⟩; rintro _ _ _ ⟨i, rfl, hi, rfl, rfl⟩; dsimp only; refine ⟨fun hlt => ?_, fun hge => ?_⟩
 .obtain ⟨hp1, hp2⟩ := Jy8 hq (show i < n by omega) hc; have hci := YO q (show i <= n by omega); refine ⟨fun x z => ∃ k : Nat, z = ((q ^ i + k : Nat) : Int) /\ k <= q ^ i /\ x = (pnl q i).map (cdg q n) ++ (List.range' (q ^ i) k).map (cdg q n), fun _ z => ((2 * q ^ i : Nat) - z).toNat, ⟨0, rfl, Nat.zero_le _, by simp⟩, ?_⟩; rintro _ _ ⟨k, rfl, hk, rfl⟩; dsimp only; refine ⟨Jt (by omega) (by omega), fun hlt2 => ?_, fun hge2 => ?_⟩
  .refine Jq6 hq hq2 hn (by omega) ⟨?_, Jt (by omega) (by omega), ⟨k + 1, by generalize q ^ i = w at *; push_cast; omega, by omega, ?_⟩, by generalize q ^ i = w at *; omega⟩
   .rw [List.length_append, List.length_map, List.length_map, Y0, List.length_range']; omega
   .rw [List.range'_1_concat, List.map_append, List.append_assoc]; rfl
  .obtain rfl : k = q ^ i := by omega
   have hb : q ^ i * q <= 64 * 256 := Nat.mul_le_mul hp1 hq2; have e : ((q ^ i : Nat) : Int) * (q : Int) = ((q ^ i * q : Nat) : Int) := by push_cast; rfl
   rw [e]; exact ⟨Yb (by omega), Jt (by omega) (by omega), ⟨i + 1, by push_cast; rfl, by omega, by rw [Nat.pow_succ], by rw [pnl, List.map_append]⟩, by omega⟩
 .obtain rfl : i = n := by omega
  exact h0
end
end Go.Proofs.YtjgpkljepgcekaaGreat
namespace Go.Proofs.YtjgpkljepgcekaaGreat
/-! ### the reference's points; the law of points -/
section
variable {P M : Int} {mf : LI} {p m v g : Nat} {F : GFv}
/-- the first digit other than 0 is 1 -/
def isP (q r x : Nat) : Bool := decide (∃ i, i < r /\ q ^ i <= x /\ x < 2 * q ^ i)
theorem Jr2 {q r i : Nat} (hq : 2 <= q) (hi : i < r) : (List.range' (q ^ i) (q ^ (i + 1) - q ^ i)).filter (isP q r) = List.range' (q ^ i) (q ^ i) := by
 have hp : 1 <= q ^ i := Nat.pos_of_ne_zero (fun e => by have := Nat.pow_eq_zero.1 e; omega); have hs : q ^ (i + 1) = q ^ i * q := Nat.pow_succ ..; have h2 : q ^ i * 2 <= q ^ i * q := Nat.mul_le_mul_left _ hq; have e : List.range' (q ^ i) (q ^ (i + 1) - q ^ i) = List.range' (q ^ i) (q ^ i) ++ List.range' (q ^ i + q ^ i) (q ^ (i + 1) - q ^ i - q ^ i) := by
  have := List.range'_append_1 (s := q ^ i) (m := q ^ i) (n := q ^ (i + 1) - q ^ i - q ^ i); rw [this]; congr 1; omega
 rw [e, List.filter_append, List.filter_eq_self.2, List.filter_eq_nil_iff.2, List.append_nil]
 .intro x hx; rw [List.mem_range'_1] at hx; simp only [isP, decide_eq_true_eq]; rintro ⟨j, hj, h3, h4⟩; rcases Nat.lt_trichotomy j i with h | h | h
  .have h5 : q ^ (j + 1) <= q ^ i := Nat.pow_le_pow_right (by omega) h; have h6 : q ^ (j + 1) = q ^ j * q := Nat.pow_succ ..; have h7 : q ^ j * 2 <= q ^ j * q := Nat.mul_le_mul_left _ hq; omega
  .subst h; omega
  .have h5 : q ^ (i + 1) <= q ^ j := Nat.pow_le_pow_right (by omega) h; omega
 .intro x hx; rw [List.mem_range'_1] at hx; simp only [isP, decide_eq_true_eq]; exact ⟨i, hi, hx.1, by omega⟩
theorem Jku {q r : Nat} (hq : 2 <= q) : ∀ i, i <= r -> (List.range' 1 (q ^ i - 1)).filter (isP q r) = pnl q i
 | 0, _ => by simp [pnl]
 | i + 1, hi => by
  have hp : 1 <= q ^ i := Nat.pos_of_ne_zero (fun e => by have := Nat.pow_eq_zero.1 e; omega); have hs : q ^ (i + 1) = q ^ i * q := Nat.pow_succ ..; have h2 : q ^ i * 2 <= q ^ i * q := Nat.mul_le_mul_left _ hq; have e : List.range' 1 (q ^ (i + 1) - 1) = List.range' 1 (q ^ i - 1) ++ List.range' (q ^ i) (q ^ (i + 1) - q ^ i) := by
   have := List.range'_append_1 (s := 1) (m := q ^ i - 1) (n := q ^ (i + 1) - q ^ i); rw [show 1 + (q ^ i - 1) = q ^ i by omega] at this; rw [this]; congr 1; omega
  rw [e, List.filter_append, Jku hq i (by omega), Jr2 hq (by omega)]; rfl
/-- what the scan of the digits finds -/
theorem Jzo {q r x : Nat} (hq : 2 <= q) (hx : 1 <= x) (hxr : x < q ^ r) {z : Int} (hz : ∀ k, k < r -> (∀ k', k' < k -> vo (cdg q r x) k' = 0) -> vo (cdg q r x) k ≠ 0 -> z = vo (cdg q r x) k) : (z = 1 ↔ isP q r x = true) := by
  obtain ⟨i, h1, h2⟩ : ∃ i, q ^ i <= x /\ x < q ^ (i + 1) := by
    have key : ∀ n, x < q ^ n -> ∃ i, q ^ i <= x /\ x < q ^ (i + 1) := by
      intro n
      induction n with
      | zero => intro h; simp at h; omega
      | succ n ih =>
        intro h
        rcases Nat.lt_or_ge x (q ^ n) with h3 | h3
        . exact ih h3
        . exact ⟨n, h3, h⟩
    exact key r hxr
  have hir : i < r := by
    rcases Nat.lt_or_ge i r with h | h
    . exact h
    . have : q ^ r <= q ^ i := Nat.pow_le_pow_right (by omega) h
      omega
  have hp : 1 <= q ^ i := Nat.pos_of_ne_zero (fun e => by have := Nat.pow_eq_zero.1 e; omega)
  have hs : q ^ (i + 1) = q ^ i * q := Nat.pow_succ ..
  have hdl : x / q ^ i < q := Nat.div_lt_of_lt_mul (by omega)
  have hd1 : 1 <= x / q ^ i := (Nat.one_le_div_iff (by omega)).2 h1
  have hv : vo (cdg q r x) (r - 1 - i) = ((x / q ^ i : Nat) : Int) := by
    rw [Je4 (by omega), show r - 1 - (r - 1 - i) = i by omega, Nat.mod_eq_of_lt hdl]
  have hz' := hz (r - 1 - i) (by omega) (fun k' hk' => by
    rw [Je4 (by omega)]
    have : q ^ (i + 1) <= q ^ (r - 1 - k') := Nat.pow_le_pow_right (by omega) (by omega)
    rw [Nat.div_eq_of_lt (by omega)]; simp) (by rw [hv]; omega)
  rw [hz', hv]
  simp only [isP, decide_eq_true_eq]
  constructor
  . intro h
    have h3 : x / q ^ i = 1 := by omega
    refine ⟨i, hir, h1, ?_⟩
    have := Nat.div_add_mod x (q ^ i)
    have := Nat.mod_lt x (show 0 < q ^ i by omega)
    rw [h3] at *
    omega
  . rintro ⟨j, hj, h3, h4⟩
    have hji : j = i := by
      rcases Nat.lt_trichotomy j i with h | h | h
      . have h5 : q ^ (j + 1) <= q ^ i := Nat.pow_le_pow_right (by omega) h
        have h6 : q ^ (j + 1) = q ^ j * q := Nat.pow_succ ..
        have h7 : q ^ j * 2 <= q ^ j * q := Nat.mul_le_mul_left _ hq
        omega
      . exact h
      . have h5 : q ^ (i + 1) <= q ^ j := Nat.pow_le_pow_right (by omega) h
        omega
    subst hji
    have : x / q ^ j = 1 := by
      have h5 : x / q ^ j < 2 := Nat.div_lt_of_lt_mul (by omega)
      omega
    omega
theorem Jq5 {r : Int} {Q : LL × Int -> Prop} (h1 : ¬ Qt P M mf -> Q ([], 1)) (h6 : Qt P M mf -> r < 1 -> Q ([], 6))
  (h : ∀ p m v, FV P M mf p m v -> 1 <= r -> (¬ cnt (p ^ m) r.toNat <= 64 -> Q ([], 4)) /\ (cnt (p ^ m) r.toNat <= 64 -> Q (pts (p ^ m) r.toNat, 0))) : Ja8 P M mf r Q := by
 refine Je6 ⟨fun h0 => h1 fun hV => h0 (Jec hV), fun h0 => ⟨fun hr => h6 (Classical.byContradiction fun hV => h0 (by rw [Yi hV]; decide)) hr, fun hr => ?_⟩⟩; obtain ⟨p, m, v, hF⟩ : Qt P M mf := Classical.byContradiction fun hV => h0 (by rw [Yi hV]; decide); obtain ⟨h4, h0⟩ := h p m v hF (by omega); refine Jcg ?_; rw [hF.ord]; have hq : 2 <= p ^ m := hF.ring.q2; have hq2 := hF.q; obtain ⟨n, rfl⟩ := Int.eq_ofNat_of_zero_le (show 0 <= r by omega); rw [Int.toNat_natCast] at h0 h4; generalize p ^ m = q at *
 refine ⟨fun a b t => ∃ i : Nat, t = i /\ i <= n /\ a = ((cnt q i : Nat) : Int) /\ b = ((q ^ i : Nat) : Int) /\ cnt q i <= 64, fun _ _ t => (n - t).toNat, ⟨0, rfl, Nat.zero_le _, rfl, by simp, by simp [cnt]⟩, ?_⟩; rintro _ _ _ ⟨i, rfl, hi, rfl, rfl, hc⟩; dsimp only; have hb : ∀ j, cnt q j <= 64 -> q ^ j <= 64 * 256 := by
  intro j hj; cases j with
  | zero => simp
  | succ j =>
   rw [YF] at hj; rw [Nat.pow_succ]; exact Nat.mul_le_mul (by omega) hq2
 have hbi := hb i hc; have hsi : q ^ i * q <= 64 * 256 * 256 := Nat.mul_le_mul hbi hq2; have hin := Zf (show 1 <= q by omega) i; have hcs := YF q i; have e : ((q ^ i : Nat) : Int) * (q : Int) = ((q ^ i * q : Nat) : Int) := by push_cast; rfl
 refine ⟨fun hlt => ⟨Jt (by omega) (by omega), fun hgt => h4 fun hle => ?_, fun hle => ?_⟩, fun hge => ?_⟩
 .have := YO q (show i + 1 <= n by omega); omega
 .rw [e]; refine ⟨Yb (by omega), Jt (by omega) (by omega), ⟨i + 1, by push_cast; rfl, by omega, by rw [hcs]; push_cast; rfl, by rw [Nat.pow_succ], by omega⟩, by omega⟩
 obtain rfl : i = n := by omega
 have h0 := h0 hc; have hp : 1 <= q ^ i := Nat.pos_of_ne_zero (fun e => by have := Nat.pow_eq_zero.1 e; omega); refine ⟨fun x z => ∃ k : Nat, z = ((1 + k : Nat) : Int) /\ 1 + k <= q ^ i /\ x = ((List.range' 1 k).filter (isP q i)).map (cdg q i), fun _ z => ((q ^ i : Nat) - z).toNat, ⟨0, rfl, by omega, by simp⟩, ?_⟩; rintro _ _ ⟨k, rfl, hk, rfl⟩; dsimp only; refine ⟨fun hlt => ?_, fun hge => ?_⟩
 .have hk2 : 1 + k < q ^ i := by omega
  have hfl : ((List.range' 1 k).filter (isP q i)).length <= k := by
   have := List.length_filter_le (isP q i) (List.range' 1 k); rw [List.length_range'] at this; exact this
  have hsucc : ((List.range' 1 (k + 1)).filter (isP q i)).map (cdg q i) = ((List.range' 1 k).filter (isP q i)).map (cdg q i) ++ (if isP q i (1 + k) = true then [cdg q i (1 + k)] else []) := by
   rw [List.range'_1_concat, List.filter_append, List.map_append]
   congr 1
   by_cases e1 : isP q i (1 + k) = true
   .rw [if_pos e1, List.filter_cons_of_pos e1]; rfl
   .rw [if_neg e1, List.filter_cons_of_neg e1]; rfl
  refine ⟨fun x _ _ _ _ _ _ _ => x = ((List.range' 1 (k + 1)).filter (isP q i)).map (cdg q i), ⟨⟨by omega, by omega, by omega⟩, Jt (by omega) (by omega), fun l z t => dgI q i (1 + k) l z t, fun _ _ t => (t + 1).toNat, by rw [Int.toNat_natCast]; exact dgI_0 q i (1 + k), ?_⟩, ?_⟩
  .intro l z t hI; refine ⟨fun ht => ?_, fun ht => ?_⟩
   .obtain ⟨g1, g2, g3, g4⟩ := Jkw hq hq2 (by omega) (by omega) hI ht; exact ⟨by omega, by rw [Int.toNat_natCast]; exact g1, ⟨by omega, g2⟩, g3, g4, by dsimp only; omega⟩
   obtain rfl := Jp9 hI ht; refine ⟨Jt (by omega) (by omega), fun a t => ∃ j : Nat, t = (j : Int) - 1 /\ j <= i /\ ∀ c, j <= c -> c < i -> (∀ c', j <= c' -> c' < c -> vo (cdg q i (1 + k)) c' = 0) -> vo (cdg q i (1 + k)) c ≠ 0 -> a = vo (cdg q i (1 + k)) c, fun _ t => (t + 1).toNat, ⟨i, rfl, Nat.le_refl _, fun c c1 c2 => by omega⟩, ?_⟩; rintro a _ ⟨j, rfl, hj, ha⟩; dsimp only; refine ⟨fun ht => ?_, fun ht => ?_⟩
   .have e1 : (j : Int) - 1 = ((j - 1 : Nat) : Int) := by omega
    have hgi : gi (cdg q i (1 + k)) ((j : Int) - 1) = vo (cdg q i (1 + k)) (j - 1) := by rw [e1]; rfl
    rw [hgi]; refine ⟨fun y => y = if vo (cdg q i (1 + k)) (j - 1) ≠ 0 then vo (cdg q i (1 + k)) (j - 1) else a, ⟨⟨by omega, by omega⟩, fun hne => ⟨⟨by omega, by omega⟩, (if_pos hne).symm⟩, fun he => (if_neg he).symm⟩, ?_⟩; rintro _ rfl; refine ⟨Jt (by omega) (by omega), ⟨j - 1, by omega, by omega, fun c c1 c2 c3 c4 => ?_⟩, by omega⟩; rcases Nat.eq_or_lt_of_le c1 with c5 | c5
    .subst c5; rw [if_pos c4]
    .have h0 := c3 (j - 1) (Nat.le_refl _) c5; rw [if_neg (fun hh => hh h0)]; exact ha c (by omega) c2 (fun c' d1 d2 => c3 c' (by omega) d2) c4
   obtain rfl : j = 0 := by omega
   have hl := Jzo hq (show 1 <= 1 + k by omega) hk2 (z := a) fun c c1 c2 c3 => ha c (Nat.zero_le _) c1 (fun c' _ d2 => c2 c' d2) c3; refine ⟨fun h1 => ⟨by rw [List.length_map]; omega, ?_⟩, fun h1 => ?_⟩
   .rw [hsucc, if_pos (hl.1 h1)]
   .rw [hsucc, if_neg (fun hh => h1 (hl.2 hh)), List.append_nil]
  .rintro _ _ _ _ _ _ _ _ rfl; exact ⟨Jt (by omega) (by omega), ⟨k + 1, by push_cast; omega, by omega, rfl⟩, by omega⟩
 .obtain rfl : k = q ^ i - 1 := by omega
  rw [Jku hq i (Nat.le_refl _)]; exact h0
end
end Go.Proofs.YtjgpkljepgcekaaGreat
namespace Go.Proofs.YtjgpkljepgcekaaGreat
/-! ### repetition and parity codes -/
section
variable {P M : Int} {mf : LI} {p m v : Nat} {N C n : Int} {X Y : LL}
theorem Ju2 {Q : Int × Int × LI × Int × LL × Int -> Prop} {q : Nat -> Nat} (G : Sg P M mf p m v N X q) (h1 : 1 <= N /\ N <= 64) (h : Q (P, M, mf, N, nul p m v N X, 0)) : Jc5 P M mf N X Q := by
 refine Jq4 ?_; rw [Jxa G h1.1 h1.2]; refine ⟨fun hh => absurd rfl hh, fun _ => ⟨_, Jyp G.f G.s G.e rfl, ?_⟩⟩; refine Jjj G.f (Zq (YA G.s)) (Jak G.f (Zr G.f)) ?_; have e := (Jqe G.f (YA (p := p) (m := m) (v := v) G.s) (Zr G.f)).1; show Q (P, M, mf, N, Qg p m v N (Qg p m v N (Jcw p m v N X)), 0); rw [e]; exact h
theorem Jma (hF : FV P M mf p m v) (hs : shp C X) (he : Els p m X) : ∃ q, Sg P M mf p m v C (Qg p m v C X) q :=
 ⟨_, hF, Zq hs, Jak hF he, Jiw hF hs he⟩
end
end Go.Proofs.YtjgpkljepgcekaaGreat
namespace Go.Proofs.YtjgpkljepgcekaaGreat
/-! ### Hamming and simplex codes -/
section
variable {P M : Int} {mf : LI} {p m v : Nat} {N C r : Int} {X Y : LL}
/-- a column -/
def cl (A : LL) (c k : Nat) : LI := (List.range k).map fun t => vo (row A t) c
theorem Jw8 (A : LL) (c k : Nat) : (cl A c k).length = k := by simp [cl]
theorem Jqb (A : LL) (c k : Nat) : cl A c (k + 1) = cl A c k ++ [vo (row A k) c] := by simp [cl, List.range_succ]
theorem vo_cl {A : LL} {c k t : Nat} (h : t < k) : vo (cl A c k) t = vo (row A t) c := by
 unfold cl; conv => lhs; unfold vo
 rw [List.getD_eq_getElem?_getD, List.getElem?_map, List.getElem?_range h]; rfl
theorem Jyo {n : Nat} {A : LL} {Q : LL -> Prop} (hn : n <= 1000) (hA : A.length <= 1000) (hr : ∀ t, t < A.length -> n <= (row A t).length) (h : Q (tr n A)) : Jew A (n : Int) Q := by
 refine ⟨fun x z => ∃ i : Nat, z = i /\ i <= n /\ x = (List.range i).map fun c => cl A c A.length, fun _ z => (n - z).toNat, ⟨0, rfl, Nat.zero_le _, rfl⟩, ?_⟩; rintro _ _ ⟨i, rfl, hi, rfl⟩; dsimp only; refine ⟨fun hlt => ⟨fun x z => ∃ k : Nat, z = k /\ k <= A.length /\ x = cl A i k, fun _ z => (A.length - z).toNat, ⟨0, rfl, Nat.zero_le _, rfl⟩, ?_⟩, fun hge => ?_⟩
 .rintro _ _ ⟨k, rfl, hk, rfl⟩; dsimp only; refine ⟨fun hlt2 => ?_, fun hge2 => ?_⟩
  .have hrk := hr k (by omega); exact ⟨⟨by omega, by omega⟩, ⟨by omega, by show (i : Int) < ((row A k).length : Nat); omega⟩, by rw [Jw8]; omega, Jt (by omega) (by omega), ⟨k + 1, by push_cast; rfl, by omega, by rw [Jqb]; rfl⟩, by omega⟩
  .obtain rfl : k = A.length := by omega
   exact ⟨by simp; omega, Jt (by omega) (by omega), ⟨i + 1, by push_cast; rfl, by omega, by rw [List.range_succ, List.map_append]; rfl⟩, by omega⟩
 .obtain rfl : i = n := by omega
  exact h
/-- the generating rows of a simplex code -/
def smx (q r : Nat) : LL := tr r (pts q r)
theorem Jat (q r : Nat) : (smx q r).length = r := tr_len _ _
theorem ZE {q r : Nat} (hr : r <= 64) (hc : cnt q r <= 64) : shp ((cnt q r : Nat) : Int) (smx q r) :=
 shp_of ⟨by omega, by omega⟩ (by rw [Jat]; omega) fun t ht => by rw [Jat] at ht; rw [smx, Jl6 ht, Jaw, Int.toNat_natCast]
theorem Jpr {q r t : Nat} (h : t < (pnl q r).length) : row (pts q r) t = cdg q r ((pnl q r).getD t 0) := by
 unfold row pts; rw [List.getD_eq_getElem?_getD, List.getElem?_map, List.getElem?_eq_getElem h, List.getD_eq_getElem?_getD, List.getElem?_eq_getElem h]; rfl
theorem vo_smx {q r i t : Nat} (hi : i < r) (ht : t < cnt q r) : vo (row (smx q r) i) t = (((pnl q r).getD t 0 / q ^ (r - 1 - i) % q : Nat) : Int) := by
 have h1 : t < (pnl q r).length := by rw [Y0]; exact ht
 rw [smx, Jme hi]; have := vo_cl (A := pts q r) (c := i) (k := (pts q r).length) (t := t) (by rw [Jaw]; exact ht); unfold cl at this; rw [this, Jpr h1, Je4 hi]
theorem ZF (hF : FV P M mf p m v) (r : Nat) : Els p m (smx (p ^ m) r) := by
 have q2 : 2 <= p ^ m := hF.ring.q2; refine fun l hl x hx => ?_; simp only [smx, tr, List.mem_map, List.mem_range] at hl; obtain ⟨c, hc, rfl⟩ := hl; simp only [List.mem_map, List.mem_range] at hx; obtain ⟨t, ht, rfl⟩ := hx; rw [Jaw, <- Y0] at ht; rw [Jpr ht, Je4 hc]; have := Nat.mod_lt ((pnl (p ^ m) r).getD t 0 / (p ^ m) ^ (r - 1 - c)) (show 0 < p ^ m by omega); exact ⟨Int.natCast_nonneg _, Int.ofNat_lt.2 this⟩
theorem Jwc {q : Nat} (hq : 2 <= q) {j : Nat} : ∀ r, j < r -> (pnl q r).getD (cnt q j) 0 = q ^ j
 | 0, h => absurd h (Nat.not_lt_zero _)
 | r + 1, h => by
  rcases Nat.lt_or_ge j r with h2 | h2
  .have := Jwc hq r h2; have hc := YO q (show j + 1 <= r by omega); rw [YF] at hc; have hp : 1 <= q ^ j := Nat.pos_of_ne_zero (fun e => by have := Nat.pow_eq_zero.1 e; omega); rw [pnl, List.getD_eq_getElem?_getD, List.getElem?_append_left (by rw [Y0]; omega), <- List.getD_eq_getElem?_getD]; exact this
  .obtain rfl : j = r := by omega
   have hp : 1 <= q ^ j := Nat.pos_of_ne_zero (fun e => by have := Nat.pow_eq_zero.1 e; omega); rw [pnl, List.getD_eq_getElem?_getD, List.getElem?_append_right (by rw [Y0]; exact Nat.le_refl _), Y0, Nat.sub_self, List.getElem?_range' (by omega)]; simp
theorem Jvw (hF : FV P M mf p m v) {r : Nat} (hr : r <= 64) (hc : cnt (p ^ m) r <= 64) : (Qg p m v ((cnt (p ^ m) r : Nat) : Int) (smx (p ^ m) r)).length = r := by
 have q2 : 2 <= p ^ m := hF.ring.q2; have hs := ZE (q := p ^ m) hr hc; have h1 := Jld hF hs (ZF hF r) (fun j => cnt (p ^ m) (r - 1 - j)) (fun j hj => by
  rw [Jat] at hj; rw [Int.toNat_natCast]; have := YO (p ^ m) (show r - 1 - j + 1 <= r by omega); rw [YF] at this; have hp : 1 <= (p ^ m) ^ (r - 1 - j) := Nat.pos_of_ne_zero (fun e => by have := Nat.pow_eq_zero.1 e; omega); omega) (fun i j hi hj => by
  rw [Jat] at hi hj; have hcl := YO (p ^ m) (show r - 1 - j + 1 <= r by omega); rw [YF] at hcl; have hp : ∀ k, 1 <= (p ^ m) ^ k := fun k => Nat.pos_of_ne_zero (fun e => by have := Nat.pow_eq_zero.1 e; omega); have hpj := hp (r - 1 - j); rw [vo_smx hi (by omega), Jwc q2 r (by omega)]; generalize p ^ m = q at *
  rcases Nat.lt_trichotomy i j with h | h | h
  .rw [if_neg (by omega)]; have : q ^ (r - 1 - j) < q ^ (r - 1 - i) := Nat.pow_lt_pow_right (by omega) (by omega); rw [Nat.div_eq_of_lt this]; simp
  .subst h; rw [if_pos rfl, Nat.div_self (hp _), Nat.mod_eq_of_lt (by omega)]; rfl
  .rw [if_neg (by omega)]; have e : q ^ (r - 1 - j) = q ^ (r - 1 - i) * (q ^ (i - j - 1) * q) := by
    rw [<- Nat.pow_succ, <- Nat.pow_add]; congr 1; omega
   rw [e, Nat.mul_div_cancel_left _ (hp _), Nat.mul_mod_left]; rfl)
 rw [Jat] at h1; rw [QQ hs]; exact h1
end
end Go.Proofs.YtjgpkljepgcekaaGreat
namespace Go.Proofs.YtjgpkljepgcekaaGreat
section
variable {P M : Int} {mf : LI} {p m v : Nat} {N C r : Int} {X Y : LL}
/-- rows of which the first i are whole, and the next one is so up to k -/
def smI (A : LL) (n i k : Nat) (x : LL) : Prop := x.length = n /\ (∀ t, t < i -> row x t = cl A t A.length) /\ (i < n -> row x i = cl A i k) /\ ∀ t, i < t -> t < n -> row x t = []
theorem Jhs {ls : LL} {i t : Nat} {l : LI} : row (sll ls (i : Int) l) t = if i = t /\ i < ls.length then l else row ls t := Q4 ls i t l
theorem Zi {Q : Int × Int × LI × Int × LL × Int -> Prop} (h1 : ¬ Qt P M mf -> Q (0, 0, [], 0, [], 1)) (h6 : Qt P M mf -> r < 1 -> Q (0, 0, [], 0, [], 6))
  (h : ∀ p m v, FV P M mf p m v -> 1 <= r -> (¬ cnt (p ^ m) r.toNat <= 64 -> Q (0, 0, [], 0, [], 4)) /\ (cnt (p ^ m) r.toNat <= 64 -> Q (P, M, mf, ((cnt (p ^ m) r.toNat : Nat) : Int), Qg p m v ((cnt (p ^ m) r.toNat : Nat) : Int) (smx (p ^ m) r.toNat), 0))) : Zz P M mf r Q := by
 refine Ju9 (fun hn => ⟨fun _ => h1 hn, fun hh => absurd (by decide) hh⟩) (fun hV hr => ⟨fun _ => h6 hV hr, fun hh => absurd (by decide) hh⟩) fun p m v hF hr => ⟨fun hc => ⟨fun _ => (h p m v hF hr).1 hc, fun hh => absurd (by decide) hh⟩, fun hc => ⟨fun hh => absurd rfl hh, fun _ => ?_⟩⟩
 have h := (h p m v hF hr).2 hc; have hq : 2 <= p ^ m := hF.ring.q2; have hq2 := hF.q; obtain ⟨n, rfl⟩ := Int.eq_ofNat_of_zero_le (show 0 <= r by omega); rw [Int.toNat_natCast] at *
 have hn : n <= 64 := Nat.le_trans (Zf (by omega) n) hc; have hpl := Jaw (p ^ m) n; have hrl : ∀ t, t < (pts (p ^ m) n).length -> (row (pts (p ^ m) n) t).length = n := fun t ht => Jd6 ht; have hfin : ∀ x, smI (pts (p ^ m) n) n n 0 x -> x = smx (p ^ m) n := fun x hx => by
  refine QV (by rw [hx.1, Jat]) fun i hi => ?_; rw [hx.1] at hi; rw [hx.2.1 i hi, smx, Jme hi]; rfl
 have hNew : Jgg P M mf (((pts (p ^ m) n).length : Nat) : Int) (smx (p ^ m) n) Q := by
  rw [hpl]; have hs := ZE (q := p ^ m) hn hc; have he := ZF hF n; refine w_cNew (fun hh => ?_) fun p' m' v' hF' _ _ _ => ?_
  .have := Zf (show 1 <= p ^ m by omega) n; unfold nck at hh; rw [Jfr ⟨p, m, v, hF⟩ hs ((Yy hF).2 he), if_neg (fun h => h rfl), if_pos (by omega)] at hh; exact absurd rfl hh
  .obtain ⟨rfl, rfl, rfl⟩ := hF.uniq3 hF'; exact h
 clear h; generalize hA : pts (p ^ m) n = A at *
 refine ⟨⟨by omega, by omega, by omega⟩, fun x z => ∃ i : Nat, z = i /\ i <= n /\ smI A n i 0 x, fun _ z => (n - z).toNat, ⟨0, rfl, Nat.zero_le _, by simp, fun t ht => absurd ht (Nat.not_lt_zero _), fun h0 => ?_, fun t _ ht => ?_⟩, ?_⟩
 .unfold row; rw [List.getD_eq_getElem?_getD, List.getElem?_replicate]; simp [h0, cl]
 .unfold row; rw [List.getD_eq_getElem?_getD, List.getElem?_replicate]; simp [ht]
 rintro x _ ⟨i, rfl, hi, hx⟩; dsimp only; refine ⟨fun hlt => ?_, fun hge => ?_⟩
 .have hin : i < n := by omega
  refine ⟨fun y z => ∃ k : Nat, z = k /\ k <= A.length /\ smI A n i k y, fun _ z => (A.length - z).toNat, ⟨0, rfl, Nat.zero_le _, hx⟩, ?_⟩; rintro y _ ⟨k, rfl, hk, hy⟩; dsimp only; refine ⟨fun hlt2 => ?_, fun hge2 => ?_⟩
  .have hgk : gl A (k : Int) = row A k := rfl; have hgi : gl y (i : Int) = cl A i k := hy.2.2.1 hin; have hrk := hrl k (by omega); rw [hgk, hgi]; refine ⟨fun z => smI A n i (k + 1) z, ⟨⟨by omega, by omega⟩, ⟨by omega, by omega⟩, ⟨by omega, by rw [hrk]; omega⟩, by rw [Jw8]; omega, ⟨by omega, by omega⟩, ?_, fun t ht => ?_, fun _ => ?_, fun t h3 h4 => ?_⟩, fun z hz => ⟨Jt (by omega) (by omega), ⟨k + 1, by push_cast; rfl, by omega, hz⟩, by omega⟩⟩
   .show (y.set _ _).length = n; rw [List.length_set]; exact hy.1
   .rw [Jhs, if_neg (fun hh => by omega)]; exact hy.2.1 t ht
   .rw [Jhs, if_pos ⟨rfl, by rw [hy.1]; exact hin⟩, Jqb]; rfl
   .rw [Jhs, if_neg (fun hh => by omega)]; exact hy.2.2.2 t h3 h4
  .obtain rfl : k = A.length := by omega
   refine ⟨Jt (by omega) (by omega), ⟨i + 1, by push_cast; rfl, by omega, hy.1, fun t ht => ?_, fun h4 => ?_, fun t h3 h4 => hy.2.2.2 t (by omega) h4⟩, by omega⟩
   .rcases Nat.lt_or_ge t i with h5 | h5
    .exact hy.2.1 t h5
    .obtain rfl : t = i := by omega
     exact hy.2.2.1 hin
   .rw [hy.2.2.2 (i + 1) (by omega) h4]; rfl
 .obtain rfl : i = n := by omega
  rw [hfin x hx]; exact hNew
theorem YJ {Q : Int × Int × LI × Int × LL × Int -> Prop} (h1 : ¬ Qt P M mf -> Q (0, 0, [], 0, [], 1)) (h6 : Qt P M mf -> r < 1 -> Q (0, 0, [], 0, [], 6))
  (h : ∀ p m v, FV P M mf p m v -> 1 <= r -> (¬ cnt (p ^ m) r.toNat <= 64 -> Q (0, 0, [], 0, [], 4)) /\ (cnt (p ^ m) r.toNat <= 64 -> Q (P, M, mf, ((cnt (p ^ m) r.toNat : Nat) : Int), Qg p m v ((cnt (p ^ m) r.toNat : Nat) : Int) (smx (p ^ m) r.toNat), 0))) : YT P M mf r Q := by
 refine Jq5 (fun hn => ⟨fun _ => h1 hn, fun hh => absurd (by decide) hh⟩) (fun hV hr => ⟨fun _ => h6 hV hr, fun hh => absurd (by decide) hh⟩) fun p m v hF hr => ⟨fun hc => ⟨fun _ => (h p m v hF hr).1 hc, fun hh => absurd (by decide) hh⟩, fun hc => ⟨fun hh => absurd rfl hh, fun _ => ?_⟩⟩
 have h := (h p m v hF hr).2 hc; have hq : 2 <= p ^ m := hF.ring.q2; obtain ⟨n, rfl⟩ := Int.eq_ofNat_of_zero_le (show 0 <= r by omega); rw [Int.toNat_natCast] at *
 have hn : n <= 64 := Nat.le_trans (Zf (by omega) n) hc; refine ⟨smx (p ^ m) n, Jyo (by omega) (by rw [Jaw]; omega) (fun t ht => by rw [Jd6 ht]; exact Nat.le_refl _) rfl, ?_⟩; rw [Jaw]; exact Jjj hF (ZE hn hc) (ZF hF n) h
/-- the Hamming code of a simplex code -/
def hmg (p m v n : Nat) : LL := nul p m v ((cnt (p ^ m) n : Nat) : Int) (Qg p m v ((cnt (p ^ m) n : Nat) : Int) (smx (p ^ m) n))
theorem Jiu {q n : Nat} (hn : 1 <= n) : 1 <= cnt q n := by
 cases n with
 | zero => omega
 | succ n => show 1 <= cnt q n * q + 1; omega
theorem Jar {Q : Int × Int × LI × Int × LL × Int -> Prop} (h1 : ¬ Qt P M mf -> Q (0, 0, [], 0, [], 1)) (h6 : Qt P M mf -> r < 1 -> Q (0, 0, [], 0, [], 6))
  (h : ∀ p m v, FV P M mf p m v -> 1 <= r -> (¬ cnt (p ^ m) r.toNat <= 64 -> Q (0, 0, [], 0, [], 4)) /\ (cnt (p ^ m) r.toNat <= 64 -> Q (P, M, mf, ((cnt (p ^ m) r.toNat : Nat) : Int), hmg p m v r.toNat, 0))) : Jbe P M mf r Q := by
 refine Zi (fun hn => ⟨fun _ => h1 hn, fun hh => absurd (by decide) hh⟩) (fun hV hr => ⟨fun _ => h6 hV hr, fun hh => absurd (by decide) hh⟩) fun p m v hF hr => ⟨fun hc => ⟨fun _ => (h p m v hF hr).1 hc, fun hh => absurd (by decide) hh⟩, fun hc => ⟨fun hh => absurd rfl hh, fun _ => ?_⟩⟩
 have hn : r.toNat <= 64 := Nat.le_trans (Zf (by have := hF.ring.q2; omega) _) hc; have hp := Jiu (q := p ^ m) (show 1 <= r.toNat by omega); obtain ⟨q, G⟩ := Jma hF (ZE (q := p ^ m) hn hc) (ZF hF r.toNat); exact Jpd G (by omega) ((h p m v hF hr).2 hc)
theorem ZC {Q : Int × Int × LI × Int × LL × Int -> Prop} (h1 : ¬ Qt P M mf -> Q (0, 0, [], 0, [], 1)) (h6 : Qt P M mf -> r < 1 -> Q (0, 0, [], 0, [], 6))
  (h : ∀ p m v, FV P M mf p m v -> 1 <= r -> (¬ cnt (p ^ m) r.toNat <= 64 -> Q (0, 0, [], 0, [], 4)) /\ (cnt (p ^ m) r.toNat <= 64 -> Q (P, M, mf, ((cnt (p ^ m) r.toNat : Nat) : Int), hmg p m v r.toNat, 0))) : ZY P M mf r Q := by
 refine YJ (fun hn => ⟨fun _ => h1 hn, fun hh => absurd (by decide) hh⟩) (fun hV hr => ⟨fun _ => h6 hV hr, fun hh => absurd (by decide) hh⟩) fun p m v hF hr => ⟨fun hc => ⟨fun _ => (h p m v hF hr).1 hc, fun hh => absurd (by decide) hh⟩, fun hc => ⟨fun hh => absurd rfl hh, fun _ => ?_⟩⟩
 have hn : r.toNat <= 64 := Nat.le_trans (Zf (by have := hF.ring.q2; omega) _) hc; have hp := Jiu (q := p ^ m) (show 1 <= r.toNat by omega); obtain ⟨q, G⟩ := Jma hF (ZE (q := p ^ m) hn hc) (ZF hF r.toNat); exact Ju2 G (by omega) ((h p m v hF hr).2 hc)
theorem Jzt (hF : FV P M mf p m v) {n : Nat} (hn : n <= 64) (hc : cnt (p ^ m) n <= 64) : (hmg p m v n).length + n = cnt (p ^ m) n := by
 have hs := ZE (q := p ^ m) hn hc; have he := ZF hF n; have h1 := Jxi hF (Zq (p := p) (m := m) (v := v) hs) (Jak (C := ((cnt (p ^ m) n : Nat) : Int)) hF he); rw [(Jqe hF hs he).2, <- QQ hs, Jvw hF hn hc, Int.toNat_natCast] at h1; exact h1
theorem Jbw (P M : Int) (mf : LI) (r : Int) : Jca P M mf r (fun b => b = true) := by
 have zz : ∀ e : Int, e ≠ 0 -> YB 0 0 [] 0 [] e 0 0 [] 0 [] e (fun r82 => (((!r82) = true) -> false = true) /\ ((!r82) = false -> (YB 0 0 [] 0 [] e 0 0 [] 0 [] e (fun r85 => (((!r85) = true) -> false = true) /\ ((!r85) = false -> (∃ J87 : Prop, (((e = (0 : Int)) -> (Jbc 0 0 [] 0 [] (fun q => match q with | (r90, r91, x92, c93, x94, r95) => ((r95 ≠ (0 : Int)) -> false = true) /\ (¬ (r95 ≠ (0 : Int)) -> (YR r90 r91 x92 c93 x94 0 0 [] 0 [] (fun r108 => (((!r108) = true) -> false = true) /\ ((!r108) = false -> ((I64 (0 - r)) /\ ((((([] : LL).length : Nat) : Int) ≠ (0 - r)) -> false = true) /\ (¬ (((([] : LL).length : Nat) : Int) ≠ (0 - r)) -> J87))))))))) /\ (¬ (e = (0 : Int)) -> J87)) /\ (J87 -> (Zy  (fun r114 => r114 = true))))))))) :=
  fun e he => Jbj ⟨(fun hh => by cases hh), fun _ => Jbj ⟨(fun hh => by cases hh), fun _ => ⟨True, ⟨fun hh => absurd hh he, fun _ => trivial⟩, fun _ => Jgw rfl⟩⟩⟩
 by_cases hV : Qt P M mf
 .by_cases hr : r < 1
  .have no : ∀ {G : Prop}, 1 <= r -> G := fun h => by omega
   exact Jar (fun hn => absurd hV hn) (fun _ _ => ZC (fun hn => absurd hV hn) (fun _ _ => Zi (fun hn => absurd hV hn) (fun _ _ => YJ (fun hn => absurd hV hn) (fun _ _ => zz 6 (by decide)) fun p m v hF h => no h) fun p m v hF h => no h) fun p m v hF h => no h) fun p m v hF h => no h
  .obtain ⟨p, m, v, hF⟩ := hV; have hV : Qt P M mf := ⟨p, m, v, hF⟩
   have hq := hF.ring.q2; have U : ∀ {p' m' v' : Nat}, FV P M mf p' m' v' -> p' ^ m' = p ^ m /\ hmg p' m' v' r.toNat = hmg p m v r.toNat /\ ∀ C X, Qg p' m' v' C X = Qg p m v C X := fun h => by
    obtain ⟨rfl, rfl, rfl⟩ := hF.uniq3 h; exact ⟨rfl, rfl, fun _ _ => rfl⟩
   by_cases hc : cnt (p ^ m) r.toNat <= 64
   .refine Jar (fun hn => absurd hV hn) (fun _ h => absurd h hr) fun p1 m1 v1 h1 _ => ?_; obtain ⟨a1, b1, c1⟩ := U h1; rw [a1, b1]; refine ⟨fun h => absurd hc h, fun _ => ZC (fun hn => absurd hV hn) (fun _ h => absurd h hr) fun p2 m2 v2 h2 _ => ?_⟩; obtain ⟨a2, b2, c2⟩ := U h2; rw [a2, b2]; refine ⟨fun h => absurd hc h, fun _ => Zi (fun hn => absurd hV hn) (fun _ h => absurd h hr) fun p3 m3 v3 h3 _ => ?_⟩; obtain ⟨a3, b3, c3⟩ := U h3; rw [a3, c3]; refine ⟨fun h => absurd hc h, fun _ => YJ (fun hn => absurd hV hn) (fun _ h => absurd h hr) fun p4 m4 v4 h4 _ => ?_⟩; obtain ⟨a4, b4, c4⟩ := U h4; rw [a4, c4]; refine ⟨fun h => absurd hc h, fun _ => ?_⟩; have hn : r.toNat <= 64 := Nat.le_trans (Zf (by omega) _) hc; have hp := Jiu (q := p ^ m) (show 1 <= r.toNat by omega); obtain ⟨q, G⟩ := Jma hF (ZE (q := p ^ m) hn hc) (ZF hF r.toNat); have hm := hF.mlen; have l1 := Jjy G.s; have l2 := Jjy (nul_sg (p := p) (m := m) (v := v) hF G.s).s; have hl := Jzt hF hn hc; have hrn : ((r.toNat : Nat) : Int) = r := by omega
    exact Jbk (by omega) l2.1 l2.2 ⟨(fun hh => by cases hh), fun _ => Jbk (by omega) l1.1 l1.2 ⟨(fun hh => by cases hh), fun _ => ⟨True, ⟨fun _ => Jpd G (by omega) ⟨fun hh => absurd rfl hh, fun _ => Zb (by omega) l2.1 l2.2 ⟨(fun hh => by cases hh), fun _ => ⟨Jt (by omega) (by omega), fun hh => absurd (by omega) hh, fun _ => trivial⟩⟩⟩, fun hh => absurd rfl hh⟩, fun _ => Jgw rfl⟩⟩⟩
   .have no : ∀ {G : Prop} {p' m' v' : Nat}, FV P M mf p' m' v' -> cnt (p' ^ m') r.toNat <= 64 -> G := fun h h2 => by rw [(U h).1] at h2; exact absurd h2 hc
    exact Jar (fun hn => absurd hV hn) (fun _ h => absurd h hr) fun p m v h1 _ => ⟨fun _ => ZC (fun hn => absurd hV hn) (fun _ h => absurd h hr) fun p m v h1 _ => ⟨fun _ => Zi (fun hn => absurd hV hn) (fun _ h => absurd h hr) fun p m v h1 _ => ⟨fun _ => YJ (fun hn => absurd hV hn) (fun _ h => absurd h hr) fun p m v h1 _ => ⟨fun _ => zz 4 (by decide), fun h => no h1 h⟩, fun h => no h1 h⟩, fun h => no h1 h⟩, fun h => no h1 h⟩
 .have no : ∀ {G : Prop} (p m v : Nat), FV P M mf p m v -> 1 <= r -> G := fun p m v h => absurd ⟨p, m, v, h⟩ hV; exact Jar (fun _ => ZC (fun _ => Zi (fun _ => YJ (fun _ => zz 1 (by decide)) (fun h => absurd h hV) fun p m v h h2 => no p m v h h2) (fun h => absurd h hV) fun p m v h h2 => no p m v h h2) (fun h => absurd h hV) fun p m v h h2 => no p m v h h2) (fun h => absurd h hV) fun p m v h h2 => no p m v h h2
end
end Go.Proofs.YtjgpkljepgcekaaGreat
