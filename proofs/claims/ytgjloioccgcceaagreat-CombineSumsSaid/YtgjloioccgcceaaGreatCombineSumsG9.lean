/- Contracts of functions of the program, and what they lean on: S5, S6, S7, S9, S10, C1, C20, C21, C22, C23. -/
import Derived.Test.YtgjloioccgcceaaGreatCombineSumsG8
set_option linter.unusedVariables false
set_option linter.unusedSimpArgs false
namespace Go.Proofs.YtgjloioccgcceaaGreat
/-! ### two spaces: inclusion, quotient -/
variable {P M : Int} {mf : LI} {p m v g : Nat} {C Ca Cb : Int} {X Y a b : LL} {F : GFv}
/-- What is known of a space over a field. -/
structure Sg (P M : Int) (mf : LI) (p m v : Nat) (C : Int) (X : LL) (q : Nat -> Nat) : Prop where
  f : FV P M mf p m v
  s : shp C X
  e : Els p m X
  q : Cnl C.toNat X q
theorem Jvx (h : sck P M mf C X = 0) : ∃ p m v q, Sg P M mf p m v C X q := by
 obtain ⟨h0, q, hq⟩ := Js1 h; obtain ⟨hV, hs, p, m, v, hF, hE⟩ := Jbe h0; exact ⟨p, m, v, q, hF, hs, hE, hq⟩
theorem Jsz {l : LL} (hC : 0 <= C /\ C <= 256) (hl : l.length <= 256) (hw : ∀ t, t < l.length -> (row l t).length = C.toNat) : shp C l := by
 unfold shp; refine ⟨hC.1, hC.2, by omega, fun r hr => ?_⟩; obtain ⟨t, ht, rfl⟩ := Zi hr; have := hw t ht; omega
theorem shp_C (hs : shp C X) : 0 <= C /\ C <= 256 := by have := Jb1 hs; omega
end Go.Proofs.YtgjloioccgcceaaGreat
namespace Go.Proofs.YtgjloioccgcceaaGreat
/-! ### sums, intersections, duals -/
variable {P M : Int} {mf : LI} {p m v g w : Nat} {C Ca Cb : Int} {X Y a b : LL}
theorem Jv1 (A B : LL) (t : Nat) : row (A ++ B) t = if t < A.length then row A t else row B (t - A.length) := by
 unfold row; rw [List.getD_eq_getElem?_getD, List.getElem?_append]; split <;> rw [List.getD_eq_getElem?_getD]
theorem Jng {A B : LL} (hA : shp C A) (hB : shp C B) (h : A.length + B.length <= 256) : shp C (A ++ B) :=
 Jsz (shp_C hA) (by rw [List.length_append]; exact h) fun t ht => by
  rw [List.length_append] at ht; rw [Jv1]; split
  .exact Qk hA (by assumption)
  .exact Qk hB (by omega)
theorem Jnh {A B : LL} (hA : Els p m A) (hB : Els p m B) : Els p m (A ++ B) := fun r hr => by
 rcases List.mem_append.1 hr with h | h
 .exact hA r h
 .exact hB r h
end Go.Proofs.YtgjloioccgcceaaGreat
namespace Go.Proofs.YtgjloioccgcceaaGreat
/-! ### the words of a set of positions; the examples -/
variable {P M : Int} {mf : LI} {p m v g w : Nat} {C Ca Cb : Int} {X Y a b : LL}
end Go.Proofs.YtgjloioccgcceaaGreat
namespace Go.Proofs.YtgjloioccgcceaaGreat
/-! ### the dual of the dual; dimensions -/
variable {P M : Int} {mf : LI} {p m v g w : Nat} {C Ca Cb : Int} {X Y a b : LL}
end Go.Proofs.YtgjloioccgcceaaGreat
namespace Go.Proofs.YtgjloioccgcceaaGreat
/-! ### dimensions -/
variable {P M : Int} {mf : LI} {p m v g w : Nat} {C Ca Cb : Int} {X Y a b : LL}
end Go.Proofs.YtgjloioccgcceaaGreat
namespace Go.Proofs.YtgjloioccgcceaaGreat
/-! ### package code and its reference -/
section
variable {P M : Int} {mf : LI} {p m v : Nat} {N C : Int} {X Y : LL}
theorem FV.mlen (h : FV P M mf p m v) : mf.length <= 1000 := by
 by_cases h1 : m = 1
 .rw [(h.m1 h1).1]; simp
 .rw [h.m2 h1, JZ]; have h2 : 2 <= p := h.pr.two; have := Nat.lt_pow_self (n := m) (show 1 < p by omega); have := h.q; omega
/-- the error of a code -/
noncomputable def cck (P M : Int) (mf : LI) (N : Int) (X : LL) : Int := if ck P M mf ≠ 0 then ck P M mf else if 1 <= N /\ N <= 64 then sck P M mf N X else 4
theorem Jdq {n : Int} {Q : Bool -> Prop} (h : Q (decide (1 <= n /\ n <= 64))) : YF n Q := by
 refine ⟨fun h1 => ?_, fun h1 => ?_⟩
 .have e : decide (1 <= n /\ n <= 64) = decide (n <= 64) := by simp [h1]
  rw [<- e]; exact h
 .have e : decide (1 <= n /\ n <= 64) = false := by simp [h1]
  rw [<- e]; exact h
theorem Jia {Q : Int -> Prop} (h : Q (cck P M mf N X)) : Jbw P M mf N X Q := by
 unfold cck at h; refine Jme ⟨fun h0 => ?_, fun h0 => Jdq ⟨fun h1 => ?_, fun h1 => ⟨_, Jr7 rfl, ?_⟩⟩⟩
 .rw [if_pos h0] at h; exact h
 .rw [if_neg h0, if_neg (fun hh => by rw [decide_eq_true hh] at h1; cases h1)] at h; exact h
 .rw [if_neg h0, if_pos (of_decide_eq_true (by simpa using h1))] at h; exact h
theorem Jfb {Q : Int -> Prop} (h : Q (cck P M mf N X)) : Y5 P M mf N X Q := by
 unfold cck at h; refine Jid ⟨fun h0 => ?_, fun h0 => ⟨fun h1 => ?_, fun h1 => ⟨fun h2 => ?_, fun h2 => Jnw ?_⟩⟩⟩
 .rw [if_pos h0] at h; exact h
 .rw [if_neg h0, if_neg (by omega)] at h; exact h
 .rw [if_neg h0, if_neg (by omega)] at h; exact h
 .rw [if_neg h0, if_pos (by omega)] at h; exact h
theorem Jhc (h : cck P M mf N X = 0) : (1 <= N /\ N <= 64) /\ ∃ p m v q, Sg P M mf p m v N X q := by
 unfold cck at h; by_cases h0 : ck P M mf ≠ 0
 .rw [if_pos h0] at h; exact absurd h h0
 .rw [if_neg h0] at h; by_cases h1 : 1 <= N /\ N <= 64
  .rw [if_pos h1] at h; exact ⟨h1, Jvx h⟩
  .rw [if_neg h1] at h; exact absurd h (by decide)
theorem Jh7 {mm : LL} {e : Int} {Q : Option LI × Int -> Prop} (he : e ≠ 0) (h : Q (none, e)) : Jcm P M mf C mm e Q := ⟨fun _ => h, fun hh => absurd he hh⟩
theorem Jsb {mm : LL} {Q : Option LI × Int -> Prop} (hm : mf.length <= 1000) (h : Q (some mf, 0)) : Jcm P M mf C mm 0 Q := ⟨fun hh => absurd rfl hh, fun _ => Ja5 (by omega) h⟩
/-- the error of New -/
noncomputable def nck (P M : Int) (mf : LI) (C : Int) (X : LL) : Int := if mck P M mf C X ≠ 0 then mck P M mf C X else if 1 <= C /\ C <= 64 then 0 else 4
theorem w_cNew {Q : Int × Int × LI × Int × LL × Int -> Prop} (h0 : nck P M mf C X ≠ 0 -> Q (0, 0, [], 0, [], nck P M mf C X))
  (h : ∀ p m v, FV P M mf p m v -> shp C X -> Els p m X -> 1 <= C /\ C <= 64 -> Q (P, M, mf, C, YA p m v C X, 0)) : Jho P M mf C X Q := by
 unfold nck at h0; refine Jib (fun hb => ⟨fun hh => absurd hh hb, fun _ => Jh7 hb ?_⟩) fun p m v hF hs he hz => ⟨fun _ => Jdq ?_, fun hh => absurd rfl hh⟩
 .rw [if_pos hb] at h0; exact h0 hb
 .rw [if_neg (fun hh => hh hz)] at h0; by_cases h1 : 1 <= C /\ C <= 64
  .refine ⟨fun z => z = 0, ⟨fun hh => by simp [h1] at hh, fun _ => rfl⟩, ?_⟩; rintro _ rfl; exact Jsb hF.mlen (h p m v hF hs he h1)
  .refine ⟨fun z => z = 4, ⟨fun _ => rfl, fun hh => by simp [h1] at hh⟩, ?_⟩; rintro _ rfl; rw [if_neg h1] at h0; exact Jh7 (by decide) (h0 (by decide))
theorem Jny {Q : Int × Int × LI -> Prop} (hm : mf.length <= 1000) (h : Q (P, M, mf)) : Z7 P M mf Q := ⟨by omega, h⟩
theorem Jh3 {Q : Int × Int × LI × Int × LL -> Prop} (hF : FV P M mf p m v) (hs : shp C X) (he : Els p m X) (h : Q (P, M, mf, C, YA p m v C X)) : ZL P M mf X C Q :=
 Jh6 hF hs he (Jny hF.mlen h)
theorem Jh5 {P' M' : Int} {mg : LI} {Q : Bool -> Prop} (hl : mf.length <= 1000000) (h1 : P = P' -> M = M' -> mf = mg -> Q true) (h2 : ¬ (P = P' /\ M = M' /\ mf = mg) -> Q false) : ZM P M mf P' M' mg Q := by
 refine ⟨fun h => h2 fun e => h e.1, fun hP => ⟨fun h => h2 fun e => h e.2.1, fun hM => ⟨fun h => h2 fun e => h (by rw [e.2.2]), fun hL => ?_⟩⟩⟩; have hP := Classical.not_not.1 hP; have hM := Classical.not_not.1 hM; have hL : mf.length = mg.length := by have := Classical.not_not.1 hL; omega
 refine ⟨fun z => ∃ t : Nat, z = t /\ t <= mf.length /\ ∀ j, j < t -> vo mf j = vo mg j, fun z => (mf.length - z).toNat, ⟨0, rfl, Nat.zero_le _, fun j hj => absurd hj (Nat.not_lt_zero j)⟩, ?_⟩; rintro _ ⟨t, rfl, ht, hj⟩; dsimp only; refine ⟨fun hlt => ⟨⟨by omega, by omega⟩, ⟨by omega, by omega⟩, fun hne => h2 fun e => hne (by rw [e.2.2]), fun heq => ⟨Js (by omega) (by omega), ⟨t + 1, by push_cast; rfl, by omega, fun j hj' => ?_⟩, by omega⟩⟩, fun hge => h1 hP hM ?_⟩
 .rcases Nat.lt_or_ge j t with h | h
  .exact hj j h
  .have : j = t := by omega
   subst this; exact Classical.not_not.1 heq
 .refine List.ext_getElem hL fun i i1 i2 => ?_; have := hj i (by omega); unfold vo at this
  rwa [List.getD_eq_getElem?_getD, List.getElem?_eq_getElem i1, List.getD_eq_getElem?_getD, List.getElem?_eq_getElem i2] at this
/-- a code compared with itself -/
theorem Je1 {Q : Bool -> Prop} (hm : mf.length <= 1000000) (hX : X.length <= 1000000) (hr : ∀ t, t < X.length -> (row X t).length <= 1000000) (h : Q true) : Jbp P M mf N X P M mf N X Q :=
  Jh5 hm (fun _ _ _ => ⟨fun _ => ⟨fun _ => Ja2 hX hr (fun _ => h) (fun hh => absurd rfl hh), fun hh => absurd rfl hh⟩, fun hh => by cases hh⟩) (fun hh => absurd ⟨rfl, rfl, rfl⟩ hh)
theorem Jsy (hs : shp C X) : X.length <= 1000000 /\ ∀ t, t < X.length -> (row X t).length <= 1000000 :=
 ⟨by have := Jf9 hs; omega, fun t ht => by rw [Qk hs ht]; have := shp_C hs; omega⟩
end
end Go.Proofs.YtgjloioccgcceaaGreat
namespace Go.Proofs.YtgjloioccgcceaaGreat
/-! ### two codes: their errors; codes generated by rows -/
section
variable {P M P' M' : Int} {mf mg : LI} {p m v : Nat} {N C Na Nb n d : Int} {X Y a b : LL}
theorem Juf (h : cck P M mf N X = 0) : ∃ p m v, FV P M mf p m v := by
 obtain ⟨_, p, m, v, q, G⟩ := Jhc h; exact ⟨p, m, v, G.f⟩
theorem Jnz {Q : Int -> Prop} (h : Q (if cck P M mf Na a ≠ 0 then cck P M mf Na a else cck P' M' mg Nb b)) : Zb [(P, M, mf, Na, a), (P', M', mg, Nb, b)] Q := by
 refine ⟨fun z => z = 0 ∨ (z = 1 /\ cck P M mf Na a = 0) ∨ (z = 2 /\ cck P M mf Na a = 0 /\ cck P' M' mg Nb b = 0), fun z => (2 - z).toNat, .inl rfl, ?_⟩; rintro z (rfl | ⟨rfl, h0⟩ | ⟨rfl, h0, h1⟩)
 .refine ⟨fun _ => ⟨⟨by first | decide | simp, by first | decide | simp⟩, Jia ⟨fun h0 => ?_, fun h0 => ⟨Js (by first | decide | simp) (by first | decide | simp), .inr (.inl ⟨rfl, Classical.not_not.1 h0⟩), by first | decide | simp⟩⟩⟩, fun hh => absurd (by first | decide | simp) hh⟩; have h0' : cck P M mf Na a ≠ 0 := h0; rw [if_pos h0'] at h; exact h
 .refine ⟨fun _ => ⟨⟨by first | decide | simp, by first | decide | simp⟩, Jia ⟨fun h1 => ?_, fun h1 => ⟨Js (by first | decide | simp) (by first | decide | simp), .inr (.inr ⟨rfl, h0, Classical.not_not.1 h1⟩), by first | decide | simp⟩⟩⟩, fun hh => absurd (by first | decide | simp) hh⟩; rw [if_neg (fun hh => hh h0)] at h; exact h
 .refine ⟨fun hh => absurd hh (by first | decide | simp), fun _ => ?_⟩; rw [if_neg (fun hh => hh h0), h1] at h; exact h
theorem w_same {Q : Bool -> Prop} (hl : mf.length <= 1000000) (h1 : P = P' -> M = M' -> mf = mg -> Q true) (h2 : ¬ (P = P' /\ M = M' /\ mf = mg) -> Q false) : Jcj P M mf P' M' mg Q := by
 refine ⟨fun hP => ⟨fun hM => ⟨fun hne => h2 fun e => hne (by rw [e.2.2]), fun hL => ?_⟩, fun h => h2 fun e => h e.2.1⟩, fun h => h2 fun e => h e.1⟩; have hL : mf.length = mg.length := by have := Classical.not_not.1 hL; omega
 refine ⟨fun z => ∃ t : Nat, z = t /\ t <= mf.length /\ ∀ j, j < t -> vo mf j = vo mg j, fun z => (mf.length - z).toNat, ⟨0, rfl, Nat.zero_le _, fun j hj => absurd hj (Nat.not_lt_zero j)⟩, ?_⟩; rintro _ ⟨t, rfl, ht, hj⟩; dsimp only; refine ⟨fun hlt => ⟨⟨by omega, by omega⟩, ⟨by omega, by omega⟩, fun hne => h2 fun e => hne (by rw [e.2.2]), fun heq => ⟨Js (by omega) (by omega), ⟨t + 1, by push_cast; rfl, by omega, fun j hj' => ?_⟩, by omega⟩⟩, fun hge => h1 hP hM ?_⟩
 .rcases Nat.lt_or_ge j t with h | h
  .exact hj j h
  .have : j = t := by omega
   subst this; exact Classical.not_not.1 heq
 .refine List.ext_getElem hL fun i i1 i2 => ?_; have := hj i (by omega); unfold vo at this
  rwa [List.getD_eq_getElem?_getD, List.getElem?_eq_getElem i1, List.getD_eq_getElem?_getD, List.getElem?_eq_getElem i2] at this
/-- two codes that fit, or an error -/
theorem Jvl {Q : Int -> Prop} (h1 : cck P M mf Na a ≠ 0 -> Q (cck P M mf Na a)) (h2 : cck P M mf Na a = 0 -> cck P' M' mg Nb b ≠ 0 -> Q (cck P' M' mg Nb b))
    (h3 : cck P M mf Na a = 0 -> cck P' M' mg Nb b = 0 -> ¬ (P = P' /\ M = M' /\ mf = mg) -> Q 10) (h4 : cck P M mf Na a = 0 -> cck P' M' mg Nb b = 0 -> P = P' -> M = M' -> mf = mg -> Q 0) : Z8 P M mf Na a P' M' mg Nb b Q := by
  refine Jfb ⟨fun z => (cck P M mf Na a ≠ 0 /\ z = cck P M mf Na a) ∨ (cck P M mf Na a = 0 /\ z = cck P' M' mg Nb b), ⟨fun h0 => Jfb (.inr ⟨h0, rfl⟩), fun h0 => .inl ⟨h0, rfl⟩⟩, ?_⟩
  rintro _ (⟨h0, rfl⟩ | ⟨h0, rfl⟩)
  . exact ⟨fun hh => absurd hh h0, fun _ => h1 h0⟩
  . refine ⟨fun h5 => ?_, fun h5 => h2 h0 h5⟩
    rw [h5]
    obtain ⟨p, m, v, hF⟩ := Juf h0
    exact Jh5 (by have := hF.mlen; omega) (fun e1 e2 e3 => ⟨(fun hh => by cases hh), fun _ => h4 h0 h5 e1 e2 e3⟩) fun hne => ⟨fun _ => h3 h0 h5 hne, (fun hh => by cases hh)⟩
theorem Jcq {Q : Int × Int × LI × Int × LL × Int -> Prop} (hF : FV P M mf p m v) (hs : shp C X) (he : Els p m X) (hC : 1 <= C /\ C <= 64) (h : Q (P, M, mf, C, YA p m v C X, 0)) : Yv P M mf C X Q := by
 refine w_cNew (fun hh => ?_) fun p' m' v' hF' _ _ _ => ?_
 .unfold nck at hh; rw [Jkx ⟨p, m, v, hF⟩ hs ((YZ hF).2 he), if_neg (fun h => h rfl), if_pos hC] at hh; exact absurd rfl hh
 .obtain ⟨rfl, rfl, rfl⟩ := hF.uniq3 hF'; exact h
theorem Jdr {e : Int} {Q : Bool -> Prop} (hm : mf.length <= 1000000) (hX : X.length <= 1000000) (hr : ∀ t, t < X.length -> (row X t).length <= 1000000) (h : Q true) : Yi P M mf N X e P M mf N X e Q :=
 ⟨fun _ => Je1 hm hX hr h, fun hh => absurd rfl hh⟩
theorem w_few2 {Q : Bool -> Prop} (h1 : Q true) (h2 : Q false) : Jdo [(P, M, mf, Na, a), (P', M', mg, Nb, b)] Q := by
 refine ⟨fun z => z = 0 ∨ z = 1 ∨ z = 2, fun z => (2 - z).toNat, .inl rfl, ?_⟩; rintro z (rfl | rfl | rfl)
 .exact ⟨fun _ => ⟨⟨by first | decide | simp, by first | decide | simp⟩, fun _ => h2, fun h0 => ⟨⟨by first | decide | simp, by first | decide | simp⟩, Jr9 (by omega) (fun _ _ _ => ⟨(fun hh => by cases hh), fun _ => ⟨Js (by first | decide | simp) (by first | decide | simp), .inr (.inl rfl), by first | decide | simp⟩⟩) ⟨fun _ => h2, (fun hh => by cases hh)⟩⟩⟩, fun hh => absurd (by first | decide | simp) hh⟩
 .exact ⟨fun _ => ⟨⟨by first | decide | simp, by first | decide | simp⟩, fun _ => h2, fun h0 => ⟨⟨by first | decide | simp, by first | decide | simp⟩, Jr9 (by omega) (fun _ _ _ => ⟨(fun hh => by cases hh), fun _ => ⟨Js (by first | decide | simp) (by first | decide | simp), .inr (.inr rfl), by first | decide | simp⟩⟩) ⟨fun _ => h2, (fun hh => by cases hh)⟩⟩⟩, fun hh => absurd (by first | decide | simp) hh⟩
 .exact ⟨fun hh => absurd hh (by first | decide | simp), fun _ => h1⟩
/-- two codes over one field -/
theorem ZS (h0 : cck P M mf Na a = 0) (h1 : cck P M mf Nb b = 0) : (1 <= Na /\ Na <= 64) /\ (1 <= Nb /\ Nb <= 64) /\ ∃ p m v, FV P M mf p m v /\ shp Na a /\ Els p m a /\ shp Nb b /\ Els p m b /\ a.length <= 64 /\ b.length <= 64 := by
  obtain ⟨ha, p, m, v, q, G⟩ := Jhc h0
  obtain ⟨hb, p', m', v', q', G'⟩ := Jhc h1
  obtain ⟨rfl, rfl, rfl⟩ := G.f.uniq3 G'.f
  have := G.q.len; have := G'.q.len
  exact ⟨ha, hb, p, m, v, G.f, G.s, G.e, G'.s, G'.e, by omega, by omega⟩
end
end Go.Proofs.YtgjloioccgcceaaGreat
namespace Go.Proofs.YtgjloioccgcceaaGreat
section
variable {P M P' M' : Int} {mf mg : LI} {p m v : Nat} {N C Na Nb n d : Int} {X Y a b : LL}
def jx (a b : LL) (k : Nat) : LL := (List.range k).map fun i => row a i ++ row b i
theorem Ja8 (he : Els p m X) {t : Nat} (ht : t < X.length) : Elr p m (row X t) := he _ (by
 unfold row; rw [List.getD_eq_getElem?_getD, List.getElem?_eq_getElem ht]; exact List.getElem_mem ht)
abbrev QC := Int × Int × LI × Int × LL × Int -> Prop
/-- how Juxtapose ends -/
structure JxE (P M : Int) (mf : LI) (Na : Int) (a : LL) (P' M' : Int) (mg : LI) (Nb : Int) (b : LL) (Q : QC) : Prop where
  e1 : cck P M mf Na a ≠ 0 -> Q (0, 0, [], 0, [], cck P M mf Na a)
  e2 : cck P M mf Na a = 0 -> cck P' M' mg Nb b ≠ 0 -> Q (0, 0, [], 0, [], cck P' M' mg Nb b)
  e3 : cck P M mf Na a = 0 -> cck P' M' mg Nb b = 0 -> ¬ ((P = P' /\ M = M' /\ mf = mg) /\ a.length = b.length) -> Q (0, 0, [], 0, [], 10)
  e4 : cck P M mf Na a = 0 -> cck P' M' mg Nb b = 0 -> (P = P' /\ M = M' /\ mf = mg) /\ a.length = b.length -> 64 < Na + Nb -> Q (0, 0, [], 0, [], 4)
  ok : cck P M mf Na a = 0 -> cck P' M' mg Nb b = 0 -> (P = P' /\ M = M' /\ mf = mg) /\ a.length = b.length -> Na + Nb <= 64 -> ∀ p m v, FV P M mf p m v -> Q (P, M, mf, Na + Nb, YA p m v (Na + Nb) (jx a b a.length), 0)
theorem Ja1 {u y : LI} {Q : LI -> Prop} (hu : u.length <= 1000000) (hy : y.length <= 1000000) (h : Q (u ++ y)) : YC u y Q := ⟨by omega, by simp; omega, by simpa using h⟩
end
end Go.Proofs.YtgjloioccgcceaaGreat
namespace Go.Proofs.YtgjloioccgcceaaGreat
/-! ### what a way to make a code of two codes yields -/
section
variable {P M P' M' : Int} {mf mg : LI} {p m v : Nat} {N C Na Nb n d : Int} {X Y a b : LL}
/-- the canonical rows over a field that is described -/
noncomputable def canE (P M : Int) (mf : LI) (C : Int) (X : LL) : LL := YA P.toNat M.toNat (Classical.epsilon fun v => FV P M mf P.toNat M.toNat v) C X
theorem Jnf (hF : FV P M mf p m v) : canE P M mf C X = YA p m v C X := by
 have h1 : P.toNat = p := by have := hF.eP; omega
 have h2 : M.toNat = m := by have := hF.eM; omega
 unfold canE; rw [h1, h2]; have h3 : FV P M mf p m (Classical.epsilon fun v => FV P M mf p m v) := Classical.epsilon_spec ⟨v, hF⟩; obtain ⟨_, _, h4⟩ := hF.uniq3 h3; rw [<- h4]
abbrev OC := Int × Int × LI × Int × LL × Int
def oz (e : Int) : OC := (0, 0, [], 0, [], e)
open Classical in
noncomputable def oc2 (P M : Int) (mf : LI) (Na : Int) (a : LL) (P' M' : Int) (mg : LI) (Nb : Int) (b : LL) (cond : Prop) (N : Int) (R : LL) : OC :=
  if cck P M mf Na a ≠ 0 then oz (cck P M mf Na a) else if cck P' M' mg Nb b ≠ 0 then oz (cck P' M' mg Nb b) else if ¬ ((P = P' /\ M = M' /\ mf = mg) /\ cond) then oz 10 else if 64 < N then oz 4 else (P, M, mf, N, canE P M mf N R, 0)
structure OcE (P M : Int) (mf : LI) (Na : Int) (a : LL) (P' M' : Int) (mg : LI) (Nb : Int) (b : LL) (cond : Prop) (N : Int) (R : LL) (Q : QC) : Prop where
  e1 : cck P M mf Na a ≠ 0 -> Q (oz (cck P M mf Na a))
  e2 : cck P M mf Na a = 0 -> cck P' M' mg Nb b ≠ 0 -> Q (oz (cck P' M' mg Nb b))
  e3 : cck P M mf Na a = 0 -> cck P' M' mg Nb b = 0 -> ¬ ((P = P' /\ M = M' /\ mf = mg) /\ cond) -> Q (oz 10)
  e4 : cck P M mf Na a = 0 -> cck P' M' mg Nb b = 0 -> (P = P' /\ M = M' /\ mf = mg) /\ cond -> 64 < N -> Q (oz 4)
  ok : cck P M mf Na a = 0 -> cck P' M' mg Nb b = 0 -> (P = P' /\ M = M' /\ mf = mg) /\ cond -> N <= 64 -> ∀ p m v, FV P M mf p m v -> Q (P, M, mf, N, YA p m v N R, 0)
theorem Jmy {cond : Prop} {R : LL} {Q : QC} (h : Q (oc2 P M mf Na a P' M' mg Nb b cond N R)) : OcE P M mf Na a P' M' mg Nb b cond N R Q := by
 unfold oc2 at h; refine ⟨fun h1 => ?_, fun h1 h2 => ?_, fun h1 h2 h3 => ?_, fun h1 h2 h3 h4 => ?_, fun h1 h2 h3 h4 p m v hF => ?_⟩
 .rw [if_pos h1] at h; exact h
 .rw [if_neg (fun hh => hh h1), if_pos h2] at h; exact h
 .rw [if_neg (fun hh => hh h1), if_neg (fun hh => hh h2), if_pos h3] at h; exact h
 .rw [if_neg (fun hh => hh h1), if_neg (fun hh => hh h2), if_neg (fun hh => hh h3), if_pos h4] at h; exact h
 .rw [if_neg (fun hh => hh h1), if_neg (fun hh => hh h2), if_neg (fun hh => hh h3), if_neg (by omega), Jnf hF] at h; exact h
theorem Jj6 {o : OC} {K : Bool -> Prop} (hm : o.2.2.1.length <= 1000000) (hX : o.2.2.2.2.1.length <= 1000000) (hr : ∀ t, t < o.2.2.2.2.1.length -> (row o.2.2.2.2.1 t).length <= 1000000) (h : K true) :
 Yi o.1 o.2.1 o.2.2.1 o.2.2.2.1 o.2.2.2.2.1 o.2.2.2.2.2 o.1 o.2.1 o.2.2.1 o.2.2.2.1 o.2.2.2.2.1 o.2.2.2.2.2 K := Jdr hm hX hr h
theorem Jcr {cond : Prop} {R : LL} {K : Bool -> Prop} (hR : cck P M mf Na a = 0 -> cck P' M' mg Nb b = 0 -> (P = P' /\ M = M' /\ mf = mg) /\ cond -> N <= 64 -> shp N R) (h : K true) :
  let o := oc2 P M mf Na a P' M' mg Nb b cond N R
  Yi o.1 o.2.1 o.2.2.1 o.2.2.2.1 o.2.2.2.2.1 o.2.2.2.2.2 o.1 o.2.1 o.2.2.1 o.2.2.2.1 o.2.2.2.2.1 o.2.2.2.2.2 K := by
 intro o; have hz : ∀ e, (oz e).2.2.1.length <= 1000000 /\ (oz e).2.2.2.2.1.length <= 1000000 /\ ∀ t, t < (oz e).2.2.2.2.1.length -> (row (oz e).2.2.2.2.1 t).length <= 1000000 := fun e => ⟨by simp [oz], by simp [oz], fun t ht => absurd ht (by simp [oz])⟩
 have key : o.2.2.1.length <= 1000000 /\ o.2.2.2.2.1.length <= 1000000 /\ ∀ t, t < o.2.2.2.2.1.length -> (row o.2.2.2.2.1 t).length <= 1000000 := by
  show (oc2 P M mf Na a P' M' mg Nb b cond N R).2.2.1.length <= 1000000 /\ (oc2 P M mf Na a P' M' mg Nb b cond N R).2.2.2.2.1.length <= 1000000 /\ ∀ t, t < (oc2 P M mf Na a P' M' mg Nb b cond N R).2.2.2.2.1.length -> (row (oc2 P M mf Na a P' M' mg Nb b cond N R).2.2.2.2.1 t).length <= 1000000; unfold oc2; split
  .exact hz _
  .rename_i h1
   split
   .exact hz _
   .rename_i h2
    split
    .exact hz _
    .rename_i h3
     split
     .exact hz _
     .rename_i h4
      have h1 := Classical.not_not.1 h1; obtain ⟨p, m, v, hF⟩ := Juf h1; have hs := hR h1 (Classical.not_not.1 h2) (Classical.not_not.1 h3) (by omega); have l := Jsy (Jjo (p := p) (m := m) (v := v) hs); rw [Jnf hF]; exact ⟨by have := hF.mlen; show mf.length <= 1000000; omega, l.1, l.2⟩
 exact Jj6 key.1 key.2.1 key.2.2 h
end
end Go.Proofs.YtgjloioccgcceaaGreat
namespace Go.Proofs.YtgjloioccgcceaaGreat
/-! ### direct sums, and the words (u, u + v) -/
section
variable {P M P' M' : Int} {mf mg : LI} {p m v : Nat} {N C Na Nb n d : Int} {X Y a b : LL}
def ml (f : Nat -> LI) (k : Nat) : LL := (List.range k).map f
theorem YH (f : Nat -> LI) (k : Nat) : ml f (k + 1) = ml f k ++ [f k] := by simp [ml, List.range_succ]
theorem Qz (f : Nat -> LI) (k : Nat) : (ml f k).length = k := by simp [ml]
theorem ZQ {u y : LI} {Q : LI -> Prop} (hu : u.length <= 1000) (hy : y.length <= 1000) (h : Q (u ++ y)) : Zc [u, y] Q := by
 have e : [u, y].flatten = u ++ y := by simp
 refine ⟨by rw [e, List.length_append]; omega, by simp, ?_⟩; rw [e]; exact h
def smL (a : LL) (n : Nat) (i : Nat) : LI := row a i ++ List.replicate n 0
def smR (n : Nat) (b : LL) (i : Nat) : LI := List.replicate n 0 ++ row b i
def pkL (a : LL) (i : Nat) : LI := row a i ++ row a i
def smX (Na : Int) (a : LL) (Nb : Int) (b : LL) : LL := ml (smL a Nb.toNat) a.length ++ ml (smR Na.toNat b) b.length
def pkX (Na : Int) (a b : LL) : LL := ml (pkL a) a.length ++ ml (smR Na.toNat b) b.length
theorem Jgt {f : Nat -> LI} {k : Nat} (hC : 0 <= C /\ C <= 64) (hk : k <= 64) (h : ∀ i, i < k -> (f i).length = C.toNat) : shp C (ml f k) := Jsz ⟨by omega, by omega⟩ (by rw [Qz]; omega) fun t ht => by
 rw [Qz] at ht; rw [ml, Jde ht]; exact h t ht
theorem Jgu {f : Nat -> LI} {k : Nat} (h : ∀ i, i < k -> Elr p m (f i)) : Els p m (ml f k) := ZG fun t ht => by
 rw [Qz] at ht; rw [ml, Jde ht]; exact h t ht
theorem els0 (hF : FV P M mf p m v) (n : Nat) : Elr p m (List.replicate n (0 : Int)) := fun x hx => by
 have := hF.ring.q2; rw [(List.mem_replicate.1 hx).2]; exact ⟨by decide, by omega⟩
theorem Jdh {u y : LI} (hu : Elr p m u) (hy : Elr p m y) : Elr p m (u ++ y) := fun x hx => by
 rcases List.mem_append.1 hx with h | h
 .exact hu x h
 .exact hy x h
theorem Jf8 (ha : shp Na a) (hb : shp Nb b) (la : a.length <= 64) (lb : b.length <= 64) (h1 : 1 <= Na) (h2 : 1 <= Nb) (hN : Na + Nb <= 64) : shp (Na + Nb) (smX Na a Nb b) :=
 Jng (Jgt (by omega) la fun i hi => by rw [smL, List.length_append, Qk ha hi, List.length_replicate]; omega) (Jgt (by omega) lb fun i hi => by rw [smR, List.length_append, Qk hb hi, List.length_replicate]; omega) (by rw [Qz, Qz]; omega)
theorem Jmo (hF : FV P M mf p m v) (ha : Els p m a) (hb : Els p m b) : Els p m (smX Na a Nb b) :=
 Jnh (Jgu fun i hi => Jdh (Ja8 ha hi) (els0 hF _)) (Jgu fun i hi => Jdh (els0 hF _) (Ja8 hb hi))
theorem Jgd (ha : shp Na a) (hb : shp Nb b) (la : a.length <= 64) (lb : b.length <= 64) (h1 : 1 <= Na) (e : Na = Nb) (hN : Na + Nb <= 64) : shp (Na + Nb) (pkX Na a b) :=
 Jng (Jgt (by omega) la fun i hi => by rw [pkL, List.length_append, Qk ha hi]; omega) (Jgt (by omega) lb fun i hi => by rw [smR, List.length_append, Qk hb hi, List.length_replicate]; omega) (by rw [Qz, Qz]; omega)
theorem Jmq (hF : FV P M mf p m v) (ha : Els p m a) (hb : Els p m b) : Els p m (pkX Na a b) :=
 Jnh (Jgu fun i hi => Jdh (Ja8 ha hi) (Ja8 ha hi)) (Jgu fun i hi => Jdh (els0 hF _) (Ja8 hb hi))
/-- the frame of a way to make a code of two codes, by the program -/
theorem Jue {cond : Prop} {R : LL} {Q : QC} {Z : Prop} (E : OcE P M mf Na a P' M' mg Nb b cond N R Q)
    (h : cck P M mf Na a = 0 -> cck P' M' mg Nb b = 0 -> P = P' -> M = M' -> mf = mg -> Z) (hz : ¬ (P = P' /\ M = M' /\ mf = mg) -> cck P M mf Na a = 0 -> cck P' M' mg Nb b = 0 -> Q (oz 10)) :
    Zb [(P, M, mf, Na, a), (P', M', mg, Nb, b)] (fun r => ((r ≠ (0 : Int)) -> Q (0, 0, [], 0, [], r)) /\ (¬ (r ≠ (0 : Int)) -> Jcj P M mf P' M' mg (fun s => (((!s) = true) -> Q (0, 0, [], 0, [], 10)) /\ ((!s) = false -> Z)))) := by
  refine Jnz ⟨fun hne => ?_, fun h0 => ?_⟩
  . by_cases h0 : cck P M mf Na a ≠ 0
    . rw [if_pos h0]; exact E.e1 h0
    . rw [if_neg h0] at hne ⊢; exact E.e2 (Classical.not_not.1 h0) hne
  have h1 : cck P M mf Na a = 0 := Classical.byContradiction fun hh => by rw [if_pos hh] at h0; exact h0 hh
  rw [if_neg (fun hh => hh h1)] at h0
  have h2 := Classical.not_not.1 h0
  obtain ⟨p, m, v, hF⟩ := Juf h1
  exact w_same (by have := hF.mlen; omega) (fun e1 e2 e3 => ⟨(fun hh => by cases hh), fun _ => h h1 h2 e1 e2 e3⟩) fun hne => ⟨fun _ => hz hne h1 h2, (fun hh => by cases hh)⟩
theorem Jnd {cond : Prop} {R : LL} {Q : QC} {Z : Prop} (E : OcE P M mf Na a P' M' mg Nb b cond N R Q) (h : cck P M mf Na a = 0 -> cck P' M' mg Nb b = 0 -> P = P' -> M = M' -> mf = mg -> Z) :
  Z8 P M mf Na a P' M' mg Nb b (fun r => ((r ≠ (0 : Int)) -> Q (0, 0, [], 0, [], r)) /\ (¬ (r ≠ (0 : Int)) -> Z)) :=
 Jvl (fun h1 => ⟨fun _ => E.e1 h1, fun hh => absurd h1 hh⟩) (fun h1 h2 => ⟨fun _ => E.e2 h1 h2, fun hh => absurd h2 hh⟩) (fun h1 h2 hne => ⟨fun _ => E.e3 h1 h2 fun hh => hne hh.1, fun hh => absurd (by decide) hh⟩) fun h1 h2 e1 e2 e3 => ⟨fun hh => absurd rfl hh, fun _ => h h1 h2 e1 e2 e3⟩
theorem w_bSum {Q : QC} (E : OcE P M mf Na a P' M' mg Nb b True (Na + Nb) (smX Na a Nb b) Q) : Jhp P M mf Na a P' M' mg Nb b Q := by
 refine Jue E (fun h1 h2 e1 e2 e3 => ?_) (fun hne h1 h2 => E.e3 h1 h2 fun hh => hne hh.1); subst e1 e2 e3; obtain ⟨hna, hnb, p, m, v, hF, sa, ea, sb, eb, la, lb⟩ := ZS h1 h2; refine ⟨Js (by omega) (by omega), fun h64 => E.e4 h1 h2 ⟨⟨rfl, rfl, rfl⟩, trivial⟩ h64, fun h64 => ⟨fun x z => ∃ k : Nat, z = k /\ k <= a.length /\ x = ml (smL a Nb.toNat) k, fun _ z => (a.length - z).toNat, ⟨0, rfl, Nat.zero_le _, rfl⟩, ?_⟩⟩; rintro _ _ ⟨k, rfl, hk, rfl⟩; dsimp only; refine ⟨fun hlt => ?_, fun hge => ?_⟩
 .have h3 := Qk sa (t := k) (by omega); exact ⟨⟨by omega, by omega⟩, ⟨by omega, by omega, by omega⟩, ZQ (by show (row a k).length <= _; omega) (by rw [List.length_replicate]; omega) ⟨by rw [Qz]; omega, Js (by omega) (by omega), ⟨k + 1, by push_cast; rfl, by omega, by rw [YH]; rfl⟩, by omega⟩⟩
 obtain rfl : k = a.length := by omega
 refine ⟨fun x z => ∃ k : Nat, z = k /\ k <= b.length /\ x = ml (smL a Nb.toNat) a.length ++ ml (smR Na.toNat b) k, fun _ z => (b.length - z).toNat, ⟨0, rfl, Nat.zero_le _, by simp [ml]⟩, ?_⟩; rintro _ _ ⟨k, rfl, hk, rfl⟩; dsimp only; refine ⟨fun hlt => ?_, fun hge => ?_⟩
 .have h3 := Qk sb (t := k) (by omega); exact ⟨⟨by omega, by omega⟩, ⟨by omega, by omega, by omega⟩, ZQ (by rw [List.length_replicate]; omega) (by show (row b k).length <= _; omega) ⟨by rw [List.length_append, Qz, Qz]; omega, Js (by omega) (by omega), ⟨k + 1, by push_cast; rfl, by omega, by rw [YH, <- List.append_assoc]; rfl⟩, by omega⟩⟩
 .obtain rfl : k = b.length := by omega
  exact ⟨Js (by omega) (by omega), Jcq hF (Jf8 sa sb la lb hna.1 hnb.1 (by omega)) (Jmo hF ea eb) (by omega) (E.ok h1 h2 ⟨⟨rfl, rfl, rfl⟩, trivial⟩ (by omega) _ _ _ hF)⟩
theorem Jvm {Q : QC} (E : OcE P M mf Na a P' M' mg Nb b True (Na + Nb) (smX Na a Nb b) Q) : Jdm P M mf Na a P' M' mg Nb b Q := by
 refine Jnd E (fun h1 h2 e1 e2 e3 => ?_); subst e1 e2 e3; obtain ⟨hna, hnb, p, m, v, hF, sa, ea, sb, eb, la, lb⟩ := ZS h1 h2; refine ⟨Js (by omega) (by omega), fun h64 => E.e4 h1 h2 ⟨⟨rfl, rfl, rfl⟩, trivial⟩ h64, fun h64 => ⟨fun x z => ∃ k : Nat, z = k /\ k <= a.length /\ x = ml (smL a Nb.toNat) k, fun _ z => (a.length - z).toNat, ⟨0, rfl, Nat.zero_le _, rfl⟩, ?_⟩⟩; rintro _ _ ⟨k, rfl, hk, rfl⟩; dsimp only; refine ⟨fun hlt => ?_, fun hge => ?_⟩
 .have h3 := Qk sa (t := k) (by omega); refine ⟨fun x => x = ml (smL a Nb.toNat) (k + 1), ⟨⟨by omega, by omega⟩, ⟨by omega, by omega, by omega⟩, _, Ja1 (by show (row a k).length <= _; omega) (by rw [List.length_replicate]; omega) rfl, by rw [Qz]; omega, by rw [YH]; rfl⟩, ?_⟩; rintro _ rfl; exact ⟨Js (by omega) (by omega), ⟨k + 1, by push_cast; rfl, by omega, rfl⟩, by omega⟩
 obtain rfl : k = a.length := by omega
 refine ⟨fun x z => ∃ k : Nat, z = k /\ k <= b.length /\ x = ml (smL a Nb.toNat) a.length ++ ml (smR Na.toNat b) k, fun _ z => (b.length - z).toNat, ⟨0, rfl, Nat.zero_le _, by simp [ml]⟩, ?_⟩; rintro _ _ ⟨k, rfl, hk, rfl⟩; dsimp only; refine ⟨fun hlt => ?_, fun hge => ?_⟩
 .have h3 := Qk sb (t := k) (by omega); refine ⟨fun x => x = ml (smL a Nb.toNat) a.length ++ ml (smR Na.toNat b) (k + 1), ⟨⟨by omega, by omega, by omega⟩, ⟨by omega, by omega⟩, _, Ja1 (by rw [List.length_replicate]; omega) (by show (row b k).length <= _; omega) rfl, by rw [List.length_append, Qz, Qz]; omega, by rw [YH, <- List.append_assoc]; rfl⟩, ?_⟩; rintro _ rfl; exact ⟨Js (by omega) (by omega), ⟨k + 1, by push_cast; rfl, by omega, rfl⟩, by omega⟩
 .obtain rfl : k = b.length := by omega
  exact ⟨Js (by omega) (by omega), Jh3 hF (Jf8 sa sb la lb hna.1 hnb.1 (by omega)) (Jmo hF ea eb) (E.ok h1 h2 ⟨⟨rfl, rfl, rfl⟩, trivial⟩ (by omega) _ _ _ hF)⟩
theorem Jn0 {Q : QC} (E : OcE P M mf Na a P' M' mg Nb b (Na = Nb) (Na + Nb) (pkX Na a b) Q) : Jab P M mf Na a P' M' mg Nb b Q := by
 refine Jue E (fun h1 h2 e1 e2 e3 => ?_) (fun hne h1 h2 => E.e3 h1 h2 fun hh => hne hh.1); subst e1 e2 e3; obtain ⟨hna, hnb, p, m, v, hF, sa, ea, sb, eb, la, lb⟩ := ZS h1 h2; refine ⟨fun hne => E.e3 h1 h2 fun hh => hne hh.2, fun he => ?_⟩; have he := Classical.not_not.1 he; refine ⟨Js (by omega) (by omega), fun h64 => E.e4 h1 h2 ⟨⟨rfl, rfl, rfl⟩, he⟩ h64, fun h64 => ⟨fun x z => ∃ k : Nat, z = k /\ k <= a.length /\ x = ml (pkL a) k, fun _ z => (a.length - z).toNat, ⟨0, rfl, Nat.zero_le _, rfl⟩, ?_⟩⟩; rintro _ _ ⟨k, rfl, hk, rfl⟩; dsimp only; refine ⟨fun hlt => ?_, fun hge => ?_⟩
 .have h3 := Qk sa (t := k) (by omega); exact ⟨⟨by omega, by omega⟩, ZQ (by show (row a k).length <= _; omega) (by show (row a k).length <= _; omega) ⟨by rw [Qz]; omega, Js (by omega) (by omega), ⟨k + 1, by push_cast; rfl, by omega, by rw [YH]; rfl⟩, by omega⟩⟩
 obtain rfl : k = a.length := by omega
 refine ⟨fun x z => ∃ k : Nat, z = k /\ k <= b.length /\ x = ml (pkL a) a.length ++ ml (smR Na.toNat b) k, fun _ z => (b.length - z).toNat, ⟨0, rfl, Nat.zero_le _, by simp [ml]⟩, ?_⟩; rintro _ _ ⟨k, rfl, hk, rfl⟩; dsimp only; refine ⟨fun hlt => ?_, fun hge => ?_⟩
 .have h3 := Qk sb (t := k) (by omega); exact ⟨⟨by omega, by omega⟩, ⟨by omega, by omega, by omega⟩, ZQ (by rw [List.length_replicate]; omega) (by show (row b k).length <= _; omega) ⟨by rw [List.length_append, Qz, Qz]; omega, Js (by omega) (by omega), ⟨k + 1, by push_cast; rfl, by omega, by rw [YH, <- List.append_assoc]; rfl⟩, by omega⟩⟩
 .obtain rfl : k = b.length := by omega
  exact ⟨Js (by omega) (by omega), Jcq hF (Jgd sa sb la lb hna.1 he (by omega)) (Jmq hF ea eb) (by omega) (E.ok h1 h2 ⟨⟨rfl, rfl, rfl⟩, he⟩ (by omega) _ _ _ hF)⟩
theorem Jh4 {Q : QC} (E : OcE P M mf Na a P' M' mg Nb b (Na = Nb) (Na + Nb) (pkX Na a b) Q) : YL P M mf Na a P' M' mg Nb b Q := by
 refine Jnd E (fun h1 h2 e1 e2 e3 => ?_); subst e1 e2 e3; obtain ⟨hna, hnb, p, m, v, hF, sa, ea, sb, eb, la, lb⟩ := ZS h1 h2; refine ⟨fun hne => E.e3 h1 h2 fun hh => hne hh.2, fun he => ?_⟩; have he := Classical.not_not.1 he; refine ⟨Js (by omega) (by omega), fun h64 => E.e4 h1 h2 ⟨⟨rfl, rfl, rfl⟩, he⟩ h64, fun h64 => ⟨fun x z => ∃ k : Nat, z = k /\ k <= a.length /\ x = ml (pkL a) k, fun _ z => (a.length - z).toNat, ⟨0, rfl, Nat.zero_le _, rfl⟩, ?_⟩⟩; rintro _ _ ⟨k, rfl, hk, rfl⟩; dsimp only; refine ⟨fun hlt => ?_, fun hge => ?_⟩
 .have h3 := Qk sa (t := k) (by omega); refine ⟨fun x => x = ml (pkL a) (k + 1), ⟨⟨by omega, by omega⟩, ⟨by omega, by omega⟩, _, Ja1 (by show (row a k).length <= _; omega) (by show (row a k).length <= _; omega) rfl, by rw [Qz]; omega, by rw [YH]; rfl⟩, ?_⟩; rintro _ rfl; exact ⟨Js (by omega) (by omega), ⟨k + 1, by push_cast; rfl, by omega, rfl⟩, by omega⟩
 obtain rfl : k = a.length := by omega
 refine ⟨fun x z => ∃ k : Nat, z = k /\ k <= b.length /\ x = ml (pkL a) a.length ++ ml (smR Na.toNat b) k, fun _ z => (b.length - z).toNat, ⟨0, rfl, Nat.zero_le _, by simp [ml]⟩, ?_⟩; rintro _ _ ⟨k, rfl, hk, rfl⟩; dsimp only; refine ⟨fun hlt => ?_, fun hge => ?_⟩
 .have h3 := Qk sb (t := k) (by omega); refine ⟨fun x => x = ml (pkL a) a.length ++ ml (smR Na.toNat b) (k + 1), ⟨⟨by omega, by omega, by omega⟩, ⟨by omega, by omega⟩, _, Ja1 (by rw [List.length_replicate]; omega) (by show (row b k).length <= _; omega) rfl, by rw [List.length_append, Qz, Qz]; omega, by rw [YH, <- List.append_assoc]; rfl⟩, ?_⟩; rintro _ rfl; exact ⟨Js (by omega) (by omega), ⟨k + 1, by push_cast; rfl, by omega, rfl⟩, by omega⟩
 .obtain rfl : k = b.length := by omega
  exact ⟨Js (by omega) (by omega), Jh3 hF (Jgd sa sb la lb hna.1 he (by omega)) (Jmq hF ea eb) (E.ok h1 h2 ⟨⟨rfl, rfl, rfl⟩, he⟩ (by omega) _ _ _ hF)⟩
theorem smX_ok (h1 : cck P M mf Na a = 0) (h2 : cck P' M' mg Nb b = 0) (h3 : (P = P' /\ M = M' /\ mf = mg) /\ True) (h4 : Na + Nb <= 64) : shp (Na + Nb) (smX Na a Nb b) := by
 obtain ⟨⟨rfl, rfl, rfl⟩, _⟩ := h3; obtain ⟨hna, hnb, p, m, v, hF, sa, ea, sb, eb, la, lb⟩ := ZS h1 h2; exact Jf8 sa sb la lb hna.1 hnb.1 h4
theorem pkX_ok (h1 : cck P M mf Na a = 0) (h2 : cck P' M' mg Nb b = 0) (h3 : (P = P' /\ M = M' /\ mf = mg) /\ Na = Nb) (h4 : Na + Nb <= 64) : shp (Na + Nb) (pkX Na a b) := by
 obtain ⟨⟨rfl, rfl, rfl⟩, he⟩ := h3; obtain ⟨hna, hnb, p, m, v, hF, sa, ea, sb, eb, la, lb⟩ := ZS h1 h2; exact Jgd sa sb la lb hna.1 he h4
theorem Jc4 (P M : Int) (mf : LI) (Na : Int) (a : LL) (P' M' : Int) (mg : LI) (Nb : Int) (b : LL) : Jhq P M mf Na a P' M' mg Nb b (fun b => b = true) := by
 refine w_few2 ⟨fun _ => rfl, fun _ => ?_⟩ ⟨fun _ => rfl, (fun hh => by cases hh)⟩; refine w_bSum (Jmy ?_); refine Jvm (Jmy ?_); refine Jn0 (Jmy ?_); refine Jh4 (Jmy ?_); exact Jcr smX_ok ⟨fun _ => Jcr pkX_ok rfl, (fun hh => by cases hh)⟩
end
end Go.Proofs.YtgjloioccgcceaaGreat
