/- Contracts of functions of the program, and what they lean on: S3, S4, S5, S6, S7, S9, S10, C1, C2, C3, C4, C8, C9, C10, C11, C5, C6, C7, C13, C16, C17, C18, C19. -/
import Derived.Test.YtjgpkljepgcekaaClassicRootG8
set_option linter.unusedVariables false
set_option linter.unusedSimpArgs false
namespace Go.Proofs.Ytjgpkljepgcekaa
/-! ### the checks of a space -/
variable {P M : Int} {mf : LI} {p m v g : Nat} {C : Int} {X Y : LL} {F : GFv}
open Classical in
/-- the error of a space -/
noncomputable def sck (P M : Int) (mf : LI) (C : Int) (X : LL) : Int := if mck P M mf C X ≠ 0 then mck P M mf C X else if IsCn C X then 0 else 5
theorem sck_no (h : mck P M mf C X ≠ 0) : sck P M mf C X = mck P M mf C X := if_pos h
theorem sck_nc (h : mck P M mf C X = 0) (h2 : ¬ IsCn C X) : sck P M mf C X = 5 := by unfold sck; rw [if_neg (fun hh => hh h), if_neg h2]
theorem Jpr (h : mck P M mf C X = 0) (h2 : IsCn C X) : sck P M mf C X = 0 := by unfold sck; rw [if_neg (fun hh => hh h), if_pos h2]
theorem Jao {a b : LI} {Q : Bool -> Prop} (ha : a.length <= 1000000) (h1 : a = b -> Q true) (h2 : a ≠ b -> Q false) : YH a b Q := by
 refine ⟨fun hne => h2 fun e => hne (by rw [e]), fun he => ?_⟩; have hl : a.length = b.length := by have := Classical.not_not.1 he; omega
 refine ⟨fun z => ∃ t : Nat, z = t /\ t <= a.length /\ ∀ j, j < t -> vo a j = vo b j, fun z => (a.length - z).toNat, ⟨0, rfl, Nat.zero_le _, fun j hj => absurd hj (Nat.not_lt_zero j)⟩, ?_⟩; rintro _ ⟨t, rfl, ht, hj⟩; dsimp only; refine ⟨fun hlt => ⟨⟨by omega, by omega⟩, ⟨by omega, by omega⟩, fun hne => h2 fun e => hne (by rw [e]), fun heq => ⟨Jq (by omega) (by omega), ⟨t + 1, by push_cast; rfl, by omega, fun j hj' => ?_⟩, by omega⟩⟩, fun hge => h1 ?_⟩
 .rcases Nat.lt_or_ge j t with h | h
  .exact hj j h
  .have : j = t := by omega
   subst this; exact Classical.not_not.1 heq
 .refine List.ext_getElem hl fun i i1 i2 => ?_; have := hj i (by omega); unfold vo at this
  rwa [List.getD_eq_getElem?_getD, List.getElem?_eq_getElem i1, List.getD_eq_getElem?_getD, List.getElem?_eq_getElem i2] at this
theorem Je7 {X Y : LL} {Q : Bool -> Prop} (hX : X.length <= 1000000) (hr : ∀ t, t < X.length -> (row X t).length <= 1000000) (h1 : X = Y -> Q true) (h2 : X ≠ Y -> Q false) : YG X Y Q := by
 refine ⟨fun hne => h2 fun e => hne (by rw [e]), fun he => ?_⟩; have hl : X.length = Y.length := by have := Classical.not_not.1 he; omega
 refine ⟨fun z => ∃ t : Nat, z = t /\ t <= X.length /\ ∀ j, j < t -> row X j = row Y j, fun z => (X.length - z).toNat, ⟨0, rfl, Nat.zero_le _, fun j hj => absurd hj (Nat.not_lt_zero j)⟩, ?_⟩; rintro _ ⟨t, rfl, ht, hj⟩; dsimp only; refine ⟨fun hlt => ⟨⟨by omega, by omega⟩, ⟨by omega, by omega⟩, ?_⟩, fun hge => h1 (QF hl fun i hi => hj i (by omega))⟩; have htl : t < X.length := by omega
 by_cases e : row X t = row Y t
 .refine ⟨true, Jao (hr t htl) (fun _ => rfl) (fun hne => absurd e hne), fun hb => (by cases hb), fun _ => ⟨Jq (by omega) (by omega), ⟨t + 1, by push_cast; rfl, by omega, fun j hj' => ?_⟩, by omega⟩⟩; rcases Nat.lt_or_ge j t with h | h
  .exact hj j h
  .have : j = t := by omega
   subst this; exact e
 .exact ⟨false, Jao (hr t htl) (fun e' => absurd e' e) (fun _ => rfl), fun _ => h2 fun e' => e (by rw [e']), fun hb => (by cases hb)⟩
theorem Jm8 {Q : Int -> Prop} (h : Q (sck P M mf C X)) : ZR P M mf C X Q := by
 refine Jm9 ⟨fun hne => by rw [sck_no hne] at h; exact h, fun he => ?_⟩; have h0 : mck P M mf C X = 0 := Classical.not_not.1 he; obtain ⟨hV, hs, hE⟩ := Jh2 h0; obtain ⟨p', m', v', hF, hE'⟩ := hE; refine Joz hF hs hE' ?_; have hcl := Jiq (p := p') (m := m') (v := v') hs; refine Je7 (by have := Jfg hcl; omega) (fun t ht => by have := Jat hcl ht; have := Jdg hs; omega) (fun e => ?_) (fun e => ?_)
 .rw [Jpr h0 ((Jq3 hF hs hE').2 e)] at h; exact ⟨fun hb => (by cases hb), fun _ => h⟩
 .rw [sck_nc h0 (fun hc => e ((Jq3 hF hs hE').1 hc))] at h; exact ⟨fun _ => h, fun hb => by cases hb⟩
end Go.Proofs.Ytjgpkljepgcekaa
namespace Go.Proofs.Ytjgpkljepgcekaa
/-! ### pivots, reduced words -/
variable {P M : Int} {mf : LI} {p m v g : Nat} {C : Int} {X Y : LL} {F : GFv}
end Go.Proofs.Ytjgpkljepgcekaa
namespace Go.Proofs.Ytjgpkljepgcekaa
/-! ### two spaces: inclusion, quotient -/
variable {P M : Int} {mf : LI} {p m v g : Nat} {C Ca Cb : Int} {X Y a b : LL} {F : GFv}
/-- What is known of a space over a field. -/
structure Sg (P M : Int) (mf : LI) (p m v : Nat) (C : Int) (X : LL) (q : Nat -> Nat) : Prop where
  f : FV P M mf p m v
  s : shp C X
  e : Els p m X
  q : Cnl C.toNat X q
theorem Sg.mk0 {q : Nat -> Nat} (G : Sg P M mf p m v C X q) : mck P M mf C X = 0 := Jf2 ⟨p, m, v, G.f⟩ G.s ((Yp G.f).2 G.e)
theorem Sg.sck {q : Nat -> Nat} (G : Sg P M mf p m v C X q) : sck P M mf C X = 0 := Jpr G.mk0 ⟨q, G.q⟩
theorem Jpp {l : LL} (hC : 0 <= C /\ C <= 256) (hl : l.length <= 256) (hw : ∀ t, t < l.length -> (row l t).length = C.toNat) : shp C l := by
 unfold shp; refine ⟨hC.1, hC.2, by omega, fun r hr => ?_⟩; obtain ⟨t, ht, rfl⟩ := ZL hr; have := hw t ht; omega
end Go.Proofs.Ytjgpkljepgcekaa
namespace Go.Proofs.Ytjgpkljepgcekaa
/-! ### sums, intersections, duals -/
variable {P M : Int} {mf : LI} {p m v g w : Nat} {C Ca Cb : Int} {X Y a b : LL}
end Go.Proofs.Ytjgpkljepgcekaa
namespace Go.Proofs.Ytjgpkljepgcekaa
/-! ### the words of a set of positions; the examples -/
variable {P M : Int} {mf : LI} {p m v g w : Nat} {C Ca Cb : Int} {X Y a b : LL}
end Go.Proofs.Ytjgpkljepgcekaa
namespace Go.Proofs.Ytjgpkljepgcekaa
/-! ### the dual of the dual; dimensions -/
variable {P M : Int} {mf : LI} {p m v g w : Nat} {C Ca Cb : Int} {X Y a b : LL}
end Go.Proofs.Ytjgpkljepgcekaa
namespace Go.Proofs.Ytjgpkljepgcekaa
/-! ### dimensions -/
variable {P M : Int} {mf : LI} {p m v g w : Nat} {C Ca Cb : Int} {X Y a b : LL}
end Go.Proofs.Ytjgpkljepgcekaa
namespace Go.Proofs.Ytjgpkljepgcekaa
/-! ### package code and its reference -/
section
variable {P M : Int} {mf : LI} {p m v : Nat} {N C : Int} {X Y : LL}
theorem FV.mlen (h : FV P M mf p m v) : mf.length <= 1000 := by
 by_cases h1 : m = 1
 .rw [(h.m1 h1).1]; simp
 .rw [h.m2 h1, JT]; have h2 : 2 <= p := h.pr.two; have := Nat.lt_pow_self (n := m) (show 1 < p by omega); have := h.q; omega
/-- the error of a code -/
noncomputable def cck (P M : Int) (mf : LI) (N : Int) (X : LL) : Int := if ck P M mf ≠ 0 then ck P M mf else if 1 <= N /\ N <= 64 then sck P M mf N X else 4
theorem Jji {n : Int} {Q : Bool -> Prop} (h : Q (decide (1 <= n /\ n <= 64))) : Zh n Q := by
 refine ⟨fun h1 => ?_, fun h1 => ?_⟩
 .have e : decide (1 <= n /\ n <= 64) = decide (n <= 64) := by simp [h1]
  rw [<- e]; exact h
 .have e : decide (1 <= n /\ n <= 64) = false := by simp [h1]
  rw [<- e]; exact h
theorem Jna {Q : Int -> Prop} (h : Q (cck P M mf N X)) : ZT P M mf N X Q := by
 unfold cck at h; refine Jg8 ⟨fun h0 => ?_, fun h0 => ⟨fun h1 => ?_, fun h1 => ⟨fun h2 => ?_, fun h2 => Jm8 ?_⟩⟩⟩
 .rw [if_pos h0] at h; exact h
 .rw [if_neg h0, if_neg (by omega)] at h; exact h
 .rw [if_neg h0, if_neg (by omega)] at h; exact h
 .rw [if_neg h0, if_pos (by omega)] at h; exact h
theorem cck_ok {q : Nat -> Nat} (G : Sg P M mf p m v N X q) (h1 : 1 <= N) (h2 : N <= 64) : cck P M mf N X = 0 := by
 unfold cck; rw [if_neg (by rw [Jdz ⟨p, m, v, G.f⟩]; simp), if_pos ⟨h1, h2⟩, G.sck]
theorem Jg2 {mm : LL} {e : Int} {Q : Option LI × Int -> Prop} (he : e ≠ 0) (h : Q (none, e)) : Jb3 P M mf C mm e Q := ⟨fun _ => h, fun hh => absurd he hh⟩
theorem Jo1 {mm : LL} {Q : Option LI × Int -> Prop} (hm : mf.length <= 1000) (h : Q (some mf, 0)) : Jb3 P M mf C mm 0 Q := ⟨fun hh => absurd rfl hh, fun _ => Jar (by omega) h⟩
/-- the error of New -/
noncomputable def nck (P M : Int) (mf : LI) (C : Int) (X : LL) : Int := if mck P M mf C X ≠ 0 then mck P M mf C X else if 1 <= C /\ C <= 64 then 0 else 4
theorem w_cNew {Q : Int × Int × LI × Int × LL × Int -> Prop} (h0 : nck P M mf C X ≠ 0 -> Q (0, 0, [], 0, [], nck P M mf C X))
  (h : ∀ p m v, FV P M mf p m v -> shp C X -> Els p m X -> 1 <= C /\ C <= 64 -> Q (P, M, mf, C, QN p m v C X, 0)) : Jgz P M mf C X Q := by
 unfold nck at h0; refine Jg6 (fun hb => ⟨fun hh => absurd hh hb, fun _ => Jg2 hb ?_⟩) fun p m v hF hs he hz => ⟨fun _ => Jji ?_, fun hh => absurd rfl hh⟩
 .rw [if_pos hb] at h0; exact h0 hb
 .rw [if_neg (fun hh => hh hz)] at h0; by_cases h1 : 1 <= C /\ C <= 64
  .refine ⟨fun z => z = 0, ⟨fun hh => by simp [h1] at hh, fun _ => rfl⟩, ?_⟩; rintro _ rfl; exact Jo1 hF.mlen (h p m v hF hs he h1)
  .refine ⟨fun z => z = 4, ⟨fun _ => rfl, fun hh => by simp [h1] at hh⟩, ?_⟩; rintro _ rfl; rw [if_neg h1] at h0; exact Jg2 (by decide) (h0 (by decide))
end
end Go.Proofs.Ytjgpkljepgcekaa
namespace Go.Proofs.Ytjgpkljepgcekaa
/-! ### monomials, lists compared -/
section
/-- the mask of the first i variables -/
def msk (l : LI) (i : Nat) : Nat := (l.take i).foldl (fun a v => a ||| 2 ^ v.toNat) 0
theorem Jh1 {l : LI} {i : Nat} (h : i < l.length) : msk l (i + 1) = msk l i ||| 2 ^ (vo l i).toNat := by
 unfold msk vo; rw [List.take_add_one, List.foldl_append, List.getElem?_eq_getElem h, List.getD_eq_getElem?_getD, List.getElem?_eq_getElem h]; rfl
theorem Jkb {l : LI} {m : Nat} : ∀ i, i <= l.length -> (∀ j, j < i -> 0 <= vo l j /\ vo l j < (m : Int)) -> msk l i < 2 ^ m
 | 0, _, _ => by simp only [msk, List.take_zero, List.foldl_nil]; exact Nat.pos_of_ne_zero (by simp)
 | i + 1, hi, h => by
  rw [Jh1 (by omega)]; have := h i (by omega); refine Nat.or_lt_two_pow (Jkb i (by omega) fun j hj => h j (by omega)) ?_; exact Nat.pow_lt_pow_right (by omega) (by omega)
/-- the values of a monomial at all points -/
def evl (m : Nat) (l : LI) : LI := (List.range (2 ^ m)).map fun x => if x &&& msk l l.length = msk l l.length then 1 else 0
theorem Jh4 {x : Nat} (h : x <= 6) : QK 1 (x : Int) = ((2 ^ x : Nat) : Int) := by
 unfold QK; rw [Int.toNat_natCast, show min x IntKind.i64.bits = x from Nat.min_eq_left (by show x <= 64; omega)]; simp
theorem pow6 {x : Nat} (h : x <= 6) : 1 <= 2 ^ x /\ 2 ^ x <= 64 := ⟨Nat.one_le_two_pow, Nat.pow_le_pow_right (by omega) h⟩
theorem Jg3 {m : Nat} {l : LI} {Q : LI -> Prop} (hm : m <= 6) (hl : l.length <= 1000000) (hv : ∀ j, j < l.length -> 0 <= vo l j /\ vo l j < (m : Int)) (h : Q (evl m l)) : YK (m : Int) l Q := by
 refine ⟨fun x z => ∃ i : Nat, z = i /\ i <= l.length /\ x = ((msk l i : Nat) : Int), fun _ z => (l.length - z).toNat, ⟨0, rfl, Nat.zero_le _, rfl⟩, ?_⟩; rintro _ _ ⟨i, rfl, hi, rfl⟩; dsimp only; have hp := pow6 hm; refine ⟨fun hlt => ?_, fun hge => ?_⟩
 .have hb := hv i (by omega); obtain ⟨y, hy⟩ := Int.eq_ofNat_of_zero_le hb.1; have hg : gi l (i : Int) = (y : Int) := hy; have hy6 : y <= 6 := by omega
  have hp2 := pow6 hy6; have hk := Jkb (m := m) i hi fun j hj => hv j (by omega); rw [hg, Jh4 hy6]; refine ⟨⟨by omega, by omega⟩, ⟨by omega, Jq (by omega) (by omega)⟩, ⟨by omega, by omega, by omega, by omega⟩, Jq (by omega) (by omega), ⟨i + 1, by push_cast; rfl, by omega, ?_⟩, by omega⟩; rw [Jh1 (by omega), hy]; simp only [ior, Int.toNat_natCast]
 obtain rfl : i = l.length := by omega
 have hk := Jkb (m := m) l.length (Nat.le_refl _) hv; rw [Jh4 hm]; refine ⟨⟨by omega, Jq (by omega) (by omega)⟩, ⟨by omega, by omega, by omega⟩, fun x z => ∃ k : Nat, z = k /\ k <= 2 ^ m /\ x.length = 2 ^ m /\ ∀ j, j < 2 ^ m -> vo x j = if j < k /\ j &&& msk l l.length = msk l l.length then 1 else 0, fun _ z => ((2 ^ m : Nat) - z).toNat, ⟨0, rfl, Nat.zero_le _, by rw [List.length_replicate, Int.toNat_natCast], fun j hj => ?_⟩, ?_⟩
 .rw [if_neg (by omega)]; unfold vo; rw [List.getD_eq_getElem?_getD, List.getElem?_replicate]; split <;> rfl
 rintro x _ ⟨k, rfl, hk2, hx, hx2⟩; dsimp only; refine ⟨fun hlt => ?_, fun hge => ?_⟩
 .refine ⟨fun y => y.length = 2 ^ m /\ ∀ j, j < 2 ^ m -> vo y j = if j < k + 1 /\ j &&& msk l l.length = msk l l.length then 1 else 0, ⟨⟨by omega, by omega, by omega, by omega⟩, fun he => ⟨⟨by omega, by omega⟩, ?_, fun j hj => ?_⟩, fun hne => ⟨hx, fun j hj => ?_⟩⟩, ?_⟩
  .rw [J6, List.length_set]; exact hx
  .have he' : k &&& msk l l.length = msk l l.length := by
    simp only [Jkg, Int.toNat_natCast] at he; omega
   rw [J6, J2, hx2 j hj]; by_cases e : k = j
   .subst e; rw [if_pos ⟨rfl, by omega⟩, if_pos ⟨by omega, he'⟩]
   .rw [if_neg (fun hh => e hh.1)]; by_cases e2 : j &&& msk l l.length = msk l l.length
    .by_cases e3 : j < k
     .rw [if_pos ⟨e3, e2⟩, if_pos ⟨by omega, e2⟩]
     .rw [if_neg (fun hh => e3 hh.1), if_neg (fun hh => by omega)]
    .rw [if_neg (fun hh => e2 hh.2), if_neg (fun hh => e2 hh.2)]
  .have hne' : ¬ k &&& msk l l.length = msk l l.length := fun e => hne (by simp only [Jkg, Int.toNat_natCast]; omega); rw [hx2 j hj]; by_cases e2 : j &&& msk l l.length = msk l l.length
   .have : j ≠ k := fun e => hne' (e ▸ e2); by_cases e3 : j < k
    .rw [if_pos ⟨e3, e2⟩, if_pos ⟨by omega, e2⟩]
    .rw [if_neg (fun hh => e3 hh.1), if_neg (fun hh => by omega)]
   .rw [if_neg (fun hh => e2 hh.2), if_neg (fun hh => e2 hh.2)]
  .rintro y ⟨h1, h2⟩; exact ⟨Jq (by omega) (by omega), ⟨k + 1, by push_cast; rfl, by omega, h1, h2⟩, by omega⟩
 have hk3 : k = 2 ^ m := by omega
 subst hk3; have e : x = evl m l := by
  refine List.ext_getElem (by simp [evl, hx]) fun j h1 h2 => ?_; have := hx2 j (by omega); unfold vo at this; rw [List.getD_eq_getElem?_getD, List.getElem?_eq_getElem h1] at this; simp only [Option.getD_some] at this; rw [this]; simp only [evl, List.getElem_map, List.getElem_range]; by_cases e2 : j &&& msk l l.length = msk l l.length
  .rw [if_pos ⟨by omega, e2⟩, if_pos e2]
  .rw [if_neg (fun hh => e2 hh.2), if_neg e2]
 rw [e]; exact h
theorem Jjj {m : Int} {l : LI} {Q : LI × Int -> Prop} (h6 : ¬ (0 <= m /\ m <= 6) -> Q ([], 6)) (h5 : 0 <= m /\ m <= 6 -> ¬ Asc m.toNat l -> Q ([], 5)) (h0 : 0 <= m /\ m <= 6 -> Asc m.toNat l -> Q (evl m.toNat l, 0)) : Zj m l Q := by
 refine ⟨fun hh => h6 (by omega), fun h1 => ⟨fun hh => h6 (by omega), fun h2 => ?_⟩⟩; obtain ⟨n, rfl⟩ := Int.eq_ofNat_of_zero_le (show 0 <= m by omega); have hn : n <= 6 := by omega
 rw [Int.toNat_natCast] at h5 h0; have h5 := h5 ⟨by omega, by omega⟩; have h0 := h0 ⟨by omega, by omega⟩; refine ⟨fun z t => ∃ i : Nat, t = i /\ i <= l.length /\ (i : Int) <= z + 1 /\ z < (n : Int) /\ (∀ j, j < i -> 0 <= vo l j /\ vo l j <= z) /\ (∀ a b, a < b -> b < i -> vo l a < vo l b) /\ (0 < i -> z = vo l (i - 1)) /\ -1 <= z /\ (i = 0 -> z = -1), fun _ t => (l.length - t).toNat, ⟨0, rfl, Nat.zero_le _, by omega, by omega, fun j hj => absurd hj (Nat.not_lt_zero _), fun a b _ hb => absurd hb (Nat.not_lt_zero _), fun hh => absurd hh (Nat.lt_irrefl 0), by omega, fun _ => rfl⟩, ?_⟩; rintro z _ ⟨i, rfl, hi, hiz, hzn, ha, hb, hc, hz1, hz0⟩; dsimp only; refine ⟨fun hlt => ⟨⟨by omega, by omega⟩, fun hle => h5 fun hA => ?_, fun hgt => ⟨fun hge => h5 fun hA => ?_, fun hlt2 => ⟨Jq (by omega) (by omega), ⟨i + 1, by push_cast; rfl, by omega, ?_, ?_, fun j hj => ?_, fun a b hab hbi => ?_, fun _ => rfl, ?_, fun hh => absurd hh (Nat.succ_ne_zero _)⟩, by omega⟩⟩⟩, fun hge => ?_⟩
 .have hle' : vo l i <= z := hle; have := hA.1 i (by omega); rcases Nat.eq_zero_or_pos i with e | e
  .have := hz0 e; omega
  .have h1 := hc e; have := hA.2 (i - 1) i (by omega) (by omega); omega
 .have hge' : (n : Int) <= vo l i := hge; have := hA.1 i (by omega); omega
 .have hgt' : ¬ vo l i <= z := hgt; show ((i + 1 : Nat) : Int) <= vo l i + 1; omega
 .have hlt' : ¬ (n : Int) <= vo l i := hlt2; show vo l i < (n : Int)
  omega
 .have hgt' : ¬ vo l i <= z := hgt; show 0 <= vo l j /\ vo l j <= vo l i; rcases Nat.lt_or_ge j i with e | e
  .have := ha j e; omega
  .obtain rfl : j = i := by omega
   omega
 .have hgt' : ¬ vo l i <= z := hgt; rcases Nat.lt_or_ge b i with e | e
  .exact hb a b hab e
  .obtain rfl : b = i := by omega
   have := ha a hab; omega
 .have hgt' : ¬ vo l i <= z := hgt; show -1 <= vo l i; omega
 obtain rfl : i = l.length := by omega
 exact Jg3 hn (by omega) (fun j hj => by have := ha j hj; omega) (h0 ⟨fun j hj => by have := ha j hj; omega, hb⟩)
theorem asc01 : Asc (2 : Int).toNat [0, 1] := by
 refine ⟨fun i hi => ?_, fun i j hij hj => ?_⟩
 .match i, hi with
  | 0, _ => exact ⟨by decide, by decide⟩
  | 1, _ => exact ⟨by decide, by decide⟩
 .have hj' : j < 2 := hj; obtain rfl : j = 1 := by omega
  obtain rfl : i = 0 := by omega
  decide
theorem Jnb {Q : Bool -> Prop} (h : Q true) : ZX Q := by
 refine Jjj (fun hh => absurd ⟨by decide, by decide⟩ hh) (fun _ hh => absurd asc01 hh) fun _ _ => ?_; have e : evl (2 : Int).toNat [0, 1] = [0, 0, 0, 1] := by decide
 rw [e]; exact ⟨fun _ => ⟨fun _ => ⟨⟨by decide, by decide⟩, fun _ => ⟨⟨by decide, by decide⟩, fun _ => ⟨⟨by decide, by decide⟩, fun _ => ⟨⟨by decide, by decide⟩, h⟩, fun hh => absurd rfl hh⟩, fun hh => absurd rfl hh⟩, fun hh => absurd rfl hh⟩, fun hh => absurd rfl hh⟩, fun hh => absurd rfl hh⟩
end
end Go.Proofs.Ytjgpkljepgcekaa
namespace Go.Proofs.Ytjgpkljepgcekaa
/-! ### the points of a projective space -/
section
variable {P M : Int} {mf : LI} {p m v g : Nat} {F : GFv}
/-- how many points there are -/
def cnt (q : Nat) : Nat -> Nat
  | 0 => 0
  | r + 1 => cnt q r * q + 1
end
end Go.Proofs.Ytjgpkljepgcekaa
namespace Go.Proofs.Ytjgpkljepgcekaa
/-! ### the reference's points; the law of points -/
section
variable {P M : Int} {mf : LI} {p m v g : Nat} {F : GFv}
end
end Go.Proofs.Ytjgpkljepgcekaa
namespace Go.Proofs.Ytjgpkljepgcekaa
/-! ### Jq primes; quadratic residue codes -/
section
def lst (n : Nat) : Nat := if n % 2 = 0 then 2 else if n % 3 = 0 then 3 else if n % 5 = 0 then 5 else if n % 7 = 0 then 7 else if n % 11 = 0 then 11 else if n % 13 = 0 then 13 else if n % 17 = 0 then 17 else if n % 19 = 0 then 19 else if n % 23 = 0 then 23 else if n % 29 = 0 then 29 else if n % 31 = 0 then 31 else n
theorem tm0 {n d : Nat} : ((n : Int).tmod (d : Int) = 0) ↔ n % d = 0 := by rw [YA]; omega
theorem Jo0 {n : Nat} {Q : Int -> Prop} (h1 : 2 <= n) (h2 : n <= 64) (h : Q ((lst n : Nat) : Int)) : Jba (n : Int) Q := by
 refine ⟨fun z => (z = 0) ∨ (z = 1 /\ n % 2 ≠ 0) ∨ (z = 2 /\ n % 2 ≠ 0 /\ n % 3 ≠ 0) ∨ (z = 3 /\ n % 2 ≠ 0 /\ n % 3 ≠ 0 /\ n % 5 ≠ 0), fun z => (3 - z).toNat, .inl rfl, ?_⟩; intro z hz; rcases hz with rfl | ⟨rfl, g2⟩ | ⟨rfl, g2, g3⟩ | ⟨rfl, g2, g3, g5⟩
 .refine ⟨fun _ => ⟨⟨by decide, by decide⟩, by decide, fun he => ?_, fun hne => ⟨Jq (by decide) (by decide), ?_, by decide⟩⟩, fun hh => absurd (by decide) hh⟩
  .have hd : n % 2 = 0 := tm0.1 he; have e : lst n = 2 := by unfold lst; simp [hd]
   rw [e] at h; exact h
  .have hd : n % 2 ≠ 0 := fun hh => hne (tm0.2 hh); exact .inr (.inl (⟨rfl, hd⟩))
 .refine ⟨fun _ => ⟨⟨by decide, by decide⟩, by decide, fun he => ?_, fun hne => ⟨Jq (by decide) (by decide), ?_, by decide⟩⟩, fun hh => absurd (by decide) hh⟩
  .have hd : n % 3 = 0 := tm0.1 he; have e : lst n = 3 := by unfold lst; rw [if_neg g2]; simp [hd]
   rw [e] at h; exact h
  .have hd : n % 3 ≠ 0 := fun hh => hne (tm0.2 hh); exact .inr (.inr (.inl (⟨rfl, g2, hd⟩)))
 .refine ⟨fun _ => ⟨⟨by decide, by decide⟩, by decide, fun he => ?_, fun hne => ⟨Jq (by decide) (by decide), ?_, by decide⟩⟩, fun hh => absurd (by decide) hh⟩
  .have hd : n % 5 = 0 := tm0.1 he; have e : lst n = 5 := by unfold lst; rw [if_neg g2, if_neg g3]; simp [hd]
   rw [e] at h; exact h
  .have hd : n % 5 ≠ 0 := fun hh => hne (tm0.2 hh); exact .inr (.inr (.inr (⟨rfl, g2, g3, hd⟩)))
 .refine ⟨fun hh => absurd hh (by decide), fun _ => ⟨fun x => x = ((lst n : Nat) : Int), ⟨fun z => z = 0 ∨ (z = 30 /\ n % 7 ≠ 0 /\ n % 11 ≠ 0 /\ n % 13 ≠ 0 /\ n % 17 ≠ 0 /\ n % 19 ≠ 0 /\ n % 23 ≠ 0 /\ n % 29 ≠ 0 /\ n % 31 ≠ 0), fun z => (31 - z).toNat, .inl rfl, ?_⟩, ?_⟩⟩
  .intro z hz; rcases hz with rfl | ⟨rfl, k7, k11, k13, k17, k19, k23, k29, k31⟩
   .refine ⟨Jq (by decide) (by decide), fun _ => ⟨fun z => (z = 0) ∨ (z = 1 /\ n % 7 ≠ 0) ∨ (z = 2 /\ n % 7 ≠ 0 /\ n % 11 ≠ 0) ∨ (z = 3 /\ n % 7 ≠ 0 /\ n % 11 ≠ 0 /\ n % 13 ≠ 0) ∨ (z = 4 /\ n % 7 ≠ 0 /\ n % 11 ≠ 0 /\ n % 13 ≠ 0 /\ n % 17 ≠ 0) ∨ (z = 5 /\ n % 7 ≠ 0 /\ n % 11 ≠ 0 /\ n % 13 ≠ 0 /\ n % 17 ≠ 0 /\ n % 19 ≠ 0) ∨ (z = 6 /\ n % 7 ≠ 0 /\ n % 11 ≠ 0 /\ n % 13 ≠ 0 /\ n % 17 ≠ 0 /\ n % 19 ≠ 0 /\ n % 23 ≠ 0) ∨ (z = 7 /\ n % 7 ≠ 0 /\ n % 11 ≠ 0 /\ n % 13 ≠ 0 /\ n % 17 ≠ 0 /\ n % 19 ≠ 0 /\ n % 23 ≠ 0 /\ n % 29 ≠ 0) ∨ (z = 8 /\ n % 7 ≠ 0 /\ n % 11 ≠ 0 /\ n % 13 ≠ 0 /\ n % 17 ≠ 0 /\ n % 19 ≠ 0 /\ n % 23 ≠ 0 /\ n % 29 ≠ 0 /\ n % 31 ≠ 0), fun z => (8 - z).toNat, .inl rfl, ?_⟩, fun hh => absurd (by omega) hh⟩; intro z hz; rcases hz with rfl | ⟨rfl, k7⟩ | ⟨rfl, k7, k11⟩ | ⟨rfl, k7, k11, k13⟩ | ⟨rfl, k7, k11, k13, k17⟩ | ⟨rfl, k7, k11, k13, k17, k19⟩ | ⟨rfl, k7, k11, k13, k17, k19, k23⟩ | ⟨rfl, k7, k11, k13, k17, k19, k23, k29⟩ | ⟨rfl, k7, k11, k13, k17, k19, k23, k29, k31⟩
    .refine ⟨fun _ => ⟨⟨by decide, by decide⟩, Jq (by decide) (by decide), by decide, fun he => ⟨Jq (by decide) (by decide), ?_⟩, fun hne => ⟨Jq (by decide) (by decide), ?_, by decide⟩⟩, fun hh => absurd (by decide) hh⟩
     .have hd : n % 7 = 0 := tm0.1 he; have e : lst n = 7 := by unfold lst; rw [if_neg g2, if_neg g3, if_neg g5]; simp [hd]
      rw [e]; rfl
     .have hd : n % 7 ≠ 0 := fun hh => hne (tm0.2 hh); exact .inr (.inl (⟨rfl, hd⟩))
    .refine ⟨fun _ => ⟨⟨by decide, by decide⟩, Jq (by decide) (by decide), by decide, fun he => ⟨Jq (by decide) (by decide), ?_⟩, fun hne => ⟨Jq (by decide) (by decide), ?_, by decide⟩⟩, fun hh => absurd (by decide) hh⟩
     .have hd : n % 11 = 0 := tm0.1 he; have e : lst n = 11 := by unfold lst; rw [if_neg g2, if_neg g3, if_neg g5, if_neg k7]; simp [hd]
      rw [e]; rfl
     .have hd : n % 11 ≠ 0 := fun hh => hne (tm0.2 hh); exact .inr (.inr (.inl (⟨rfl, k7, hd⟩)))
    .refine ⟨fun _ => ⟨⟨by decide, by decide⟩, Jq (by decide) (by decide), by decide, fun he => ⟨Jq (by decide) (by decide), ?_⟩, fun hne => ⟨Jq (by decide) (by decide), ?_, by decide⟩⟩, fun hh => absurd (by decide) hh⟩
     .have hd : n % 13 = 0 := tm0.1 he; have e : lst n = 13 := by unfold lst; rw [if_neg g2, if_neg g3, if_neg g5, if_neg k7, if_neg k11]; simp [hd]
      rw [e]; rfl
     .have hd : n % 13 ≠ 0 := fun hh => hne (tm0.2 hh); exact .inr (.inr (.inr (.inl (⟨rfl, k7, k11, hd⟩))))
    .refine ⟨fun _ => ⟨⟨by decide, by decide⟩, Jq (by decide) (by decide), by decide, fun he => ⟨Jq (by decide) (by decide), ?_⟩, fun hne => ⟨Jq (by decide) (by decide), ?_, by decide⟩⟩, fun hh => absurd (by decide) hh⟩
     .have hd : n % 17 = 0 := tm0.1 he; have e : lst n = 17 := by unfold lst; rw [if_neg g2, if_neg g3, if_neg g5, if_neg k7, if_neg k11, if_neg k13]; simp [hd]
      rw [e]; rfl
     .have hd : n % 17 ≠ 0 := fun hh => hne (tm0.2 hh); exact .inr (.inr (.inr (.inr (.inl (⟨rfl, k7, k11, k13, hd⟩)))))
    .refine ⟨fun _ => ⟨⟨by decide, by decide⟩, Jq (by decide) (by decide), by decide, fun he => ⟨Jq (by decide) (by decide), ?_⟩, fun hne => ⟨Jq (by decide) (by decide), ?_, by decide⟩⟩, fun hh => absurd (by decide) hh⟩
     .have hd : n % 19 = 0 := tm0.1 he; have e : lst n = 19 := by unfold lst; rw [if_neg g2, if_neg g3, if_neg g5, if_neg k7, if_neg k11, if_neg k13, if_neg k17]; simp [hd]
      rw [e]; rfl
     .have hd : n % 19 ≠ 0 := fun hh => hne (tm0.2 hh); exact .inr (.inr (.inr (.inr (.inr (.inl (⟨rfl, k7, k11, k13, k17, hd⟩))))))
    .refine ⟨fun _ => ⟨⟨by decide, by decide⟩, Jq (by decide) (by decide), by decide, fun he => ⟨Jq (by decide) (by decide), ?_⟩, fun hne => ⟨Jq (by decide) (by decide), ?_, by decide⟩⟩, fun hh => absurd (by decide) hh⟩
     .have hd : n % 23 = 0 := tm0.1 he; have e : lst n = 23 := by unfold lst; rw [if_neg g2, if_neg g3, if_neg g5, if_neg k7, if_neg k11, if_neg k13, if_neg k17, if_neg k19]; simp [hd]
      rw [e]; rfl
     .have hd : n % 23 ≠ 0 := fun hh => hne (tm0.2 hh); exact .inr (.inr (.inr (.inr (.inr (.inr (.inl (⟨rfl, k7, k11, k13, k17, k19, hd⟩)))))))
    .refine ⟨fun _ => ⟨⟨by decide, by decide⟩, Jq (by decide) (by decide), by decide, fun he => ⟨Jq (by decide) (by decide), ?_⟩, fun hne => ⟨Jq (by decide) (by decide), ?_, by decide⟩⟩, fun hh => absurd (by decide) hh⟩
     .have hd : n % 29 = 0 := tm0.1 he; have e : lst n = 29 := by unfold lst; rw [if_neg g2, if_neg g3, if_neg g5, if_neg k7, if_neg k11, if_neg k13, if_neg k17, if_neg k19, if_neg k23]; simp [hd]
      rw [e]; rfl
     .have hd : n % 29 ≠ 0 := fun hh => hne (tm0.2 hh); exact .inr (.inr (.inr (.inr (.inr (.inr (.inr (.inl (⟨rfl, k7, k11, k13, k17, k19, k23, hd⟩))))))))
    .refine ⟨fun _ => ⟨⟨by decide, by decide⟩, Jq (by decide) (by decide), by decide, fun he => ⟨Jq (by decide) (by decide), ?_⟩, fun hne => ⟨Jq (by decide) (by decide), ?_, by decide⟩⟩, fun hh => absurd (by decide) hh⟩
     .have hd : n % 31 = 0 := tm0.1 he; have e : lst n = 31 := by unfold lst; rw [if_neg g2, if_neg g3, if_neg g5, if_neg k7, if_neg k11, if_neg k13, if_neg k17, if_neg k19, if_neg k23, if_neg k29]; simp [hd]
      rw [e]; rfl
     .have hd : n % 31 ≠ 0 := fun hh => hne (tm0.2 hh); exact .inr (.inr (.inr (.inr (.inr (.inr (.inr (.inr (⟨rfl, k7, k11, k13, k17, k19, k23, k29, hd⟩))))))))
    .exact ⟨fun hh => absurd hh (by decide), fun _ => ⟨Jq (by decide) (by decide), .inr ⟨rfl, k7, k11, k13, k17, k19, k23, k29, k31⟩, by decide⟩⟩
   .refine ⟨Jq (by decide) (by decide), fun hh => by omega, fun _ => ?_⟩; have e : lst n = n := by unfold lst; rw [if_neg g2, if_neg g3, if_neg g5, if_neg k7, if_neg k11, if_neg k13, if_neg k17, if_neg k19, if_neg k23, if_neg k29, if_neg k31]
    rw [e]
  .rintro _ rfl; exact h
/-- the lengths of quadratic residue codes -/
def isQ (n : Nat) : Bool := decide (3 <= n) && decide (n <= 64) && (decide (n % 8 = 1) || decide (n % 8 = 7)) && (List.range' 2 (n - 2)).all fun d => n % d != 0
theorem Js1 : (List.range' 2 63).all (fun n => decide (lst n = n) == ((List.range' 2 (n - 2)).all fun d => n % d != 0)) = true := by decide +kernel
end
end Go.Proofs.Ytjgpkljepgcekaa
namespace Go.Proofs.Ytjgpkljepgcekaa
section
variable {P M : Int} {mf : LI} {p m v : Nat} {N C r : Int} {X Y : LL}
theorem Jlw {n : Nat} (h1 : 2 <= n) (h2 : n <= 64) : lst n = n ↔ ((List.range' 2 (n - 2)).all fun d => n % d != 0) = true := by
 have := List.all_eq_true.1 Js1 n (by rw [List.mem_range'_1]; omega); simp only [beq_iff_eq] at this; rw [<- this]; simp
theorem Jsm {n : Int} {Q : Bool -> Prop} (h64 : n <= 64) (h : Q (decide (2 <= n /\ lst n.toNat = n.toNat))) : Jc1 n Q := by
 refine ⟨fun h1 => ⟨fun _ => ?_, fun hh => absurd (by omega) hh⟩, fun h1 => ?_⟩
 .obtain ⟨k, rfl⟩ := Int.eq_ofNat_of_zero_le (show 0 <= n by omega); refine Jo0 (by omega) (by omega) ?_; rw [Int.toNat_natCast] at h; have e : decide (2 <= (k : Int) /\ lst k = k) = decide (((lst k : Nat) : Int) = (k : Int)) := by
   by_cases hl : lst k = k
   .rw [decide_eq_true ⟨h1, hl⟩, decide_eq_true (by omega)]
   .rw [decide_eq_false (fun hh => hl hh.2), decide_eq_false (by omega)]
  rw [<- e]; exact h
 .rw [decide_eq_false (fun hh => h1 hh.1)] at h; exact h
theorem Jb5 {n : Int} {Q : Bool -> Prop} (h : Q (isQ n.toNat)) : YI n Q := by
 have hno : ∀ b, isQ n.toNat = b -> Q b := fun b e => by rw [<- e]; exact h
 refine ⟨fun h1 => hno _ (by unfold isQ; rw [decide_eq_false (show ¬ 3 <= n.toNat by omega)]; rfl), fun h1 => ⟨fun h2 => hno _ (by unfold isQ; rw [decide_eq_false (show ¬ n.toNat <= 64 by omega)]; simp), fun h2 => ?_⟩⟩; obtain ⟨k, rfl⟩ := Int.eq_ofNat_of_zero_le (show 0 <= n by omega); rw [Int.toNat_natCast] at *
 have t8 : ((k : Int).tmod 8) = ((k % 8 : Nat) : Int) := YA k 8; have loop : (k % 8 = 1 ∨ k % 8 = 7) -> ∃ (I : Int -> Prop) (μ : Int -> Nat), I (2 : Int) /\ ∀ (z : Int), (I z -> (((z < (k : Int)) -> ((z ≠ 0) /\ (((((k : Int).tmod z) = (0 : Int)) -> Q false) /\ (¬ (((k : Int).tmod z) = (0 : Int)) -> ((I64 (z + (1 : Int))) /\ (I (z + (1 : Int)) /\ μ (z + (1 : Int)) < μ z)))))) /\ (¬ (z < (k : Int)) -> Q true))) := fun h8 => by
  refine ⟨fun z => ∃ t : Nat, z = t /\ 2 <= t /\ t <= k /\ ∀ d, 2 <= d -> d < t -> k % d ≠ 0, fun z => (k - z).toNat, ⟨2, rfl, by omega, by omega, fun d a b => by omega⟩, ?_⟩; rintro _ ⟨t, rfl, ht, ht2, hd⟩; dsimp only; refine ⟨fun hlt => ⟨by omega, fun he => hno _ ?_, fun hne => ⟨Jq (by omega) (by omega), ⟨t + 1, by push_cast; rfl, by omega, by omega, fun d a b => ?_⟩, by omega⟩⟩, fun hge => hno _ ?_⟩
  .have h0 : k % t = 0 := tm0.1 he; unfold isQ; have : ((List.range' 2 (k - 2)).all fun d => k % d != 0) = false := by
    rw [List.all_eq_false]; exact ⟨t, by rw [List.mem_range'_1]; omega, by simp [h0]⟩
   rw [this]; simp
  .rcases Nat.lt_or_ge d t with h3 | h3
   .exact hd d a h3
   .obtain rfl : d = t := by omega
    exact fun hh => hne (tm0.2 hh)
  .have : ((List.range' 2 (k - 2)).all fun d => k % d != 0) = true := List.all_eq_true.2 fun d h3 => by
    rw [List.mem_range'_1] at h3; have := hd d h3.1 (by omega); simp [this]
   unfold isQ; rw [this, decide_eq_true (show 3 <= k by omega), decide_eq_true (show k <= 64 by omega)]; rcases h8 with h8 | h8 <;> simp [h8]
 refine ⟨fun h3 => ⟨fun h4 => hno _ ?_, fun h4 => loop (.inr ?_)⟩, fun h3 => loop (.inl ?_)⟩
 .rw [t8] at h3 h4; unfold isQ; rw [decide_eq_false (show ¬ k % 8 = 1 by omega), decide_eq_false (show ¬ k % 8 = 7 by omega)]; simp
 .rw [t8] at h4; omega
 .rw [t8] at h3; omega
/-- the list with ones at the squares -/
def sqs (n t : Nat) : LI := (List.range' 1 t).foldl (fun x i => x.set (i * i % n) 1) (List.replicate n 0)
theorem Jls (n : Nat) : ∀ t, (sqs n t).length = n
 | 0 => by simp [sqs]
 | t + 1 => by
  have := Jls n t; unfold sqs at *
  rw [List.range'_1_concat, List.foldl_append]
  simpa using this
theorem Jpl (n t : Nat) : sqs n (t + 1) = (sqs n t).set ((1 + t) * (1 + t) % n) 1 := by
 unfold sqs; rw [List.range'_1_concat, List.foldl_append]; rfl
def sqI (n : Nat) (x : LI) (z : Int) : Prop := ∃ t : Nat, z = ((1 + t : Nat) : Int) /\ 1 + t <= n /\ x = sqs n t
theorem sqI_0 {n : Nat} (h : 1 <= n) : sqI n (List.replicate n 0) 1 := ⟨0, rfl, by omega, rfl⟩
theorem sqI_s {n : Nat} {x : LI} {z : Int} (hn : n <= 64) (h : sqI n x z) (hz : z < (n : Nat)) :
  I64 (z * z) /\ (n : Int) ≠ 0 /\ (0 <= (z * z).tmod (n : Int) /\ (z * z).tmod (n : Int) < (n : Nat)) /\ I64 (z + 1) /\ sqI n (si x ((z * z).tmod (n : Int)) 1) (z + 1) := by
 obtain ⟨t, rfl, ht, rfl⟩ := h; have e : (((1 + t : Nat) : Int) * ((1 + t : Nat) : Int)) = (((1 + t) * (1 + t) : Nat) : Int) := by push_cast; rfl
 have hb : (1 + t) * (1 + t) <= 64 * 64 := Nat.mul_le_mul (by omega) (by omega); have hm := Nat.mod_lt ((1 + t) * (1 + t)) (show 0 < n by omega); rw [e, YA]; exact ⟨Q8 (by omega), by omega, ⟨by omega, Int.ofNat_lt.2 hm⟩, Jq (by omega) (by omega), t + 1, by push_cast; omega, by omega, by rw [J6, Jpl]⟩
/-- the word whose shifts generate the code -/
def qw (n : Nat) : LI := if n % 8 = 1 then (sqs n (n - 1)).set 0 1 else sqs n (n - 1)
theorem Jp3 (n : Nat) : (qw n).length = n := by unfold qw; split <;> simp [Jls]
def shf (l : LI) : LL := (List.range l.length).map fun i => l.drop i ++ l.take i
def rsf (l : LI) : LL := (List.range l.length).map fun k => (List.range l.length).foldl (fun x i => x.set ((i + k) % l.length) (vo l i)) (List.replicate l.length 0)
theorem Jcr {l : LI} {t : Nat} (h : t < l.length) : row (shf l) t = l.drop t ++ l.take t := Jfi h
theorem Jm7 {y : LI} {Q : Int × Int × LI × Int × LL × Int -> Prop} (hy : 1 <= y.length /\ y.length <= 64) (hF : FV P M mf p m v) (he : Els p m (shf y)) (h : Q (P, M, mf, (y.length : Int), QN p m v (y.length : Int) (shf y), 0)) : Yk P M mf y Q := by
 have hs : shp (y.length : Int) (shf y) := Jpp ⟨by omega, by omega⟩ (by simp [shf]; omega) fun t ht => by
  have ht' : t < y.length := by simpa [shf] using ht
  rw [Jcr ht', Int.toNat_natCast, List.length_append, List.length_drop, List.length_take]; omega
 refine ⟨⟨by omega, by omega, by omega⟩, fun x z => ∃ i : Nat, z = i /\ i <= y.length /\ x.length = y.length /\ ∀ t, t < i -> row x t = y.drop t ++ y.take t, fun _ z => (y.length - z).toNat, ⟨0, rfl, Nat.zero_le _, by simp, fun t ht => absurd ht (Nat.not_lt_zero _)⟩, ?_⟩; rintro x _ ⟨i, rfl, hi, hx, hr⟩; dsimp only; refine ⟨fun hlt => ⟨⟨by omega, by omega⟩, ⟨by omega, by omega⟩, y.drop i ++ y.take i, ⟨?_, by simp, ?_⟩, ⟨by omega, by omega⟩, Jq (by omega) (by omega), ⟨i + 1, by push_cast; rfl, by omega, by show (x.set _ _).length = _; rw [List.length_set]; exact hx, fun t ht => ?_⟩, by omega⟩, fun hge => ?_⟩
 .simp; omega
 .simp
 .show row (x.set i _) t = _; rw [QQ]; by_cases e : i = t
  .subst e; rw [if_pos ⟨rfl, by omega⟩]
  .rw [if_neg (fun hh => e hh.1)]; exact hr t (by omega)
 .have hi' : i = y.length := by omega
  have e : x = shf y := QF (by rw [hx]; simp [shf]) fun t ht => by rw [hr t (by omega), Jcr (by omega)]
  rw [e]; refine w_cNew (fun hh => ?_) fun p' m' v' hF' _ _ _ => ?_
  .unfold nck at hh; rw [Jf2 ⟨p, m, v, hF⟩ hs ((Yp hF).2 he), if_neg (fun h => h rfl), if_pos (by omega)] at hh; exact absurd rfl hh
  .obtain ⟨rfl, rfl, rfl⟩ := hF.uniq3 hF'; exact h
end
end Go.Proofs.Ytjgpkljepgcekaa
set_option maxRecDepth 100000
namespace Go.Proofs.Ytjgpkljepgcekaa
section
variable {P M : Int} {mf : LI} {p m v : Nat} {N C r : Int} {X Y : LL}
theorem Jtn : (List.range 65).all (fun n => !isQ n || [7, 17, 23, 31, 41, 47].contains n) = true := by decide +kernel
theorem Jcu {n : Nat} (h : isQ n = true) : n = 7 ∨ n = 17 ∨ n = 23 ∨ n = 31 ∨ n = 41 ∨ n = 47 := by
 have h64 : n <= 64 := by
  unfold isQ at h; simp only [Bool.and_eq_true, decide_eq_true_eq] at h; exact h.1.1.2
 have := List.all_eq_true.1 Jtn n (by rw [List.mem_range]; omega); rw [h] at this
 simpa using this
def isb (X : LL) : Bool := X.all fun r => r.all fun x => decide (0 <= x) && decide (x < 2)
theorem Jmh (h : isb X = true) : Els 2 1 X := fun r hr x hx => by
 have h1 := List.all_eq_true.1 h r hr; have h2 := List.all_eq_true.1 h1 x hx; simp only [Bool.and_eq_true, decide_eq_true_eq] at h2; exact ⟨h2.1, h2.2⟩
def rot (l : LI) : Bool := (List.range l.length).all fun i => row (shf l) i == row (rsf l) ((l.length - i) % l.length)
theorem isb7 : isb (shf (qw 7)) = true /\ isb (rsf (qw 7)) = true /\ rot (qw 7) = true := by decide +kernel
theorem isb17 : isb (shf (qw 17)) = true /\ isb (rsf (qw 17)) = true /\ rot (qw 17) = true := by decide +kernel
theorem isb23 : isb (shf (qw 23)) = true /\ isb (rsf (qw 23)) = true /\ rot (qw 23) = true := by decide +kernel
theorem isb31 : isb (shf (qw 31)) = true /\ isb (rsf (qw 31)) = true /\ rot (qw 31) = true := by decide +kernel
theorem isb41 : isb (shf (qw 41)) = true /\ isb (rsf (qw 41)) = true /\ rot (qw 41) = true := by decide +kernel
theorem isb47 : isb (shf (qw 47)) = true /\ isb (rsf (qw 47)) = true /\ rot (qw 47) = true := by decide +kernel
theorem Jmb {n : Nat} (h : isQ n = true) : isb (shf (qw n)) = true /\ isb (rsf (qw n)) = true /\ rot (qw n) = true := by
 rcases Jcu h with rfl | rfl | rfl | rfl | rfl | rfl
 .exact isb7
 .exact isb17
 .exact isb23
 .exact isb31
 .exact isb41
 .exact isb47
end
end Go.Proofs.Ytjgpkljepgcekaa
namespace Go.Proofs.Ytjgpkljepgcekaa
section
variable {P M : Int} {mf : LI} {p m v : Nat} {N C r : Int} {X Y : LL}
theorem Jau (l : LI) : (shf l).length = l.length := by simp [shf]
theorem Jsv {l : LI} (h : 1 <= l.length /\ l.length <= 64) : shp (l.length : Int) (shf l) := Jpp ⟨by omega, by omega⟩ (by rw [Jau]; omega) fun t ht => by
 rw [Jau] at ht; rw [Jcr ht, Int.toNat_natCast, List.length_append, List.length_drop, List.length_take]; omega
theorem Jnc {n : Int} {Q : Int × Int × LI × Int × LL × Int -> Prop} (h6 : isQ n.toNat = false -> Q (0, 0, [], 0, [], 6)) (h : isQ n.toNat = true -> 7 <= n /\ n <= 64 -> Q (2, 1, [], n, QN 2 1 0 n (shf (qw n.toNat)), 0)) : ZY n Q := by
 refine ⟨fun hh => h6 (by unfold isQ; rw [decide_eq_false (show ¬ n.toNat <= 64 by omega)]; simp), fun h64 => Jsm (by omega) ⟨fun hh => h6 ?_, fun hp => ?_⟩⟩
 .have hh' : ¬ (2 <= n /\ lst n.toNat = n.toNat) := fun e => by rw [decide_eq_true e] at hh; cases hh
  unfold isQ; by_cases h3 : 3 <= n.toNat
  .have : ¬ ((List.range' 2 (n.toNat - 2)).all fun d => n.toNat % d != 0) = true := fun e => hh' ⟨by omega, (Jlw (by omega) (by omega)).2 e⟩; rw [Bool.eq_false_iff.2 this]; simp
  .rw [decide_eq_false h3]; rfl
 have hp' : 2 <= n /\ lst n.toNat = n.toNat := by
  by_cases e : 2 <= n /\ lst n.toNat = n.toNat
  .exact e
  .rw [decide_eq_false e] at hp; cases hp
 obtain ⟨k, rfl⟩ := Int.eq_ofNat_of_zero_le (show 0 <= n by omega); rw [Int.toNat_natCast] at *
 have ha := (Jlw (by omega) (by omega)).1 hp'.2; have t8 : ((k : Int).tmod 8) = ((k % 8 : Nat) : Int) := YA k 8; have hq : isQ k = true ↔ k % 8 = 1 ∨ k % 8 = 7 := by
  unfold isQ; rw [ha]; by_cases h3 : 3 <= k
  .rw [decide_eq_true h3, decide_eq_true (show k <= 64 by omega)]; simp
  .have : k = 2 := by omega
   subst this; simp
 rw [t8]; have fin : isQ k = true -> ∀ (x : LI) (z : Int), sqI k x z -> ¬ z < (k : Int) -> ∃ J : LI -> Prop, (((((k % 8 : Nat) : Int) = 1) -> ((0 <= (0 : Int) /\ (0 : Int) < ((k : Int).toNat : Nat)) /\ J (si x 0 1))) /\ (¬ (((k % 8 : Nat) : Int) = 1) -> J x)) /\ ∀ y, J y -> ZD (fun q => match q with | (r51, r52, x53) => Yk r51 r52 x53 y (fun q => match q with | (r58, r59, x60, c61, x62, r63) => Q (r58, r59, x60, c61, x62, r63))) := by
  intro hQ x z hx hz; obtain ⟨t, rfl, ht, rfl⟩ := hx; obtain rfl : t = k - 1 := by omega
  have hk7 := Jcu hQ; refine ⟨fun y => y = qw k, ⟨fun h1 => ⟨⟨by omega, by rw [Int.toNat_natCast]; omega⟩, ?_⟩, fun h1 => ?_⟩, ?_⟩
  .unfold qw; rw [if_pos (by omega)]; rfl
  .unfold qw; rw [if_neg (by omega)]
  .rintro _ rfl; have hb := Jmb hQ; have hl := Jp3 k; refine Jm7 (by rw [hl]; omega) fv2 (Jmh hb.1) ?_; rw [hl]; exact h hQ (by omega)
 have loop : isQ k = true -> ∀ (x : LI) (z : Int), sqI k x z -> z < (k : Int) -> (I64 (z * z)) /\ (((k : Int) ≠ 0) /\ ((0 <= ((z * z).tmod (k : Int)) /\ ((z * z).tmod (k : Int)) < ((k : Int).toNat : Nat)) /\ ((I64 (z + (1 : Int))) /\ (sqI k (si x ((z * z).tmod (k : Int)) (1 : Int)) (z + (1 : Int)) /\ ((k : Int) - (z + 1)).toNat < ((k : Int) - z).toNat)))) := by
  intro hQ x z hx hz; obtain ⟨a, b, c, d, e⟩ := sqI_s (by omega) hx hz; exact ⟨a, b, by rw [Int.toNat_natCast]; exact c, d, e, by omega⟩
 refine ⟨fun h1 => ⟨fun h7 => h6 (Bool.eq_false_iff.2 fun e => by have := hq.1 e; omega), fun h7 => ?_⟩, fun h1 => ?_⟩
 .have hQ : isQ k = true := hq.2 (by omega); refine ⟨⟨by omega, by omega, by omega⟩, sqI k, fun _ z => ((k : Int) - z).toNat, sqI_0 (by omega), fun x z hx => ⟨fun hz => loop hQ x z hx hz, fun hz => fin hQ x z hx hz⟩⟩
 .have hQ : isQ k = true := hq.2 (by omega); refine ⟨⟨by omega, by omega, by omega⟩, sqI k, fun _ z => ((k : Int) - z).toNat, sqI_0 (by omega), fun x z hx => ⟨fun hz => loop hQ x z hx hz, fun hz => fin hQ x z hx hz⟩⟩
end
end Go.Proofs.Ytjgpkljepgcekaa
namespace Go.Proofs.Ytjgpkljepgcekaa
/-! ### repetition and parity codes -/
section
variable {P M : Int} {mf : LI} {p m v : Nat} {N C n : Int} {X Y : LL}
theorem sg_can (hF : FV P M mf p m v) (hs : shp C X) (he : Els p m X) : ∃ q, Sg P M mf p m v C (QN p m v C X) q :=
 ⟨_, hF, Jiq hs, Jq9 hF he, Jq7 hF hs he⟩
end
end Go.Proofs.Ytjgpkljepgcekaa
namespace Go.Proofs.Ytjgpkljepgcekaa
/-! ### Hamming and simplex codes -/
section
variable {P M : Int} {mf : LI} {p m v : Nat} {N C r : Int} {X Y : LL}
/-- a column -/
def cl (A : LL) (c k : Nat) : LI := (List.range k).map fun t => vo (row A t) c
end
end Go.Proofs.Ytjgpkljepgcekaa
namespace Go.Proofs.Ytjgpkljepgcekaa
section
variable {P M : Int} {mf : LI} {p m v : Nat} {N C r : Int} {X Y : LL}
end
end Go.Proofs.Ytjgpkljepgcekaa
namespace Go.Proofs.Ytjgpkljepgcekaa
/-! ### every vector other than zero is one multiple of one point -/
section
variable {q r n : Nat} {A M : Nat -> Nat -> Nat}
end
end Go.Proofs.Ytjgpkljepgcekaa
namespace Go.Proofs.Ytjgpkljepgcekaa
/-! ### how many points lie off a hyperplane -/
section
variable {q r n : Nat} {A M : Nat -> Nat -> Nat} {y : Nat -> Nat}
/-- how many of the first n numbers keep f -/
def cn (f : Nat -> Bool) : Nat -> Nat
  | 0 => 0
  | n + 1 => cn f n + if f n then 1 else 0
/-- a sum over the digits of a number -/
def Lf (q : Nat) (A M : Nat -> Nat -> Nat) (y : Nat -> Nat) : Nat -> Nat -> Nat
  | 0, _ => 0
  | k + 1, x => A (Lf q A M y k x) (M (y k) (x / q ^ k % q))
def nf (q : Nat) (A M : Nat -> Nat -> Nat) (y : Nat -> Nat) (k c : Nat) (z : Nat) : Bool := decide (A c (Lf q A M y k z) ≠ 0)
end
end Go.Proofs.Ytjgpkljepgcekaa
namespace Go.Proofs.Ytjgpkljepgcekaa
/-! ### simplex codes: every word but zero has the same weight -/
section
variable {P M : Int} {mf : LI} {p m v n g : Nat} {F : GFv} {N C r : Int} {X Y : LL} {y u : LI}
def wt (y : LI) : Nat := cn (fun i => decide (vo y i ≠ 0)) y.length
theorem cn_le (f : Nat -> Bool) : ∀ n, cn f n <= n
 | 0 => Nat.le_refl _
 | n + 1 => by
  have := cn_le f n; show cn f n + (if f n then 1 else 0) <= n + 1; split <;> omega
theorem Jjg {Q : Int -> Prop} (hF : FV P M mf p m v) (hye : Elr p m y) (hl : y.length <= 1000) (h : Q ((wt y : Nat) : Int)) : Yw P M mf y Q := by
 unfold Yw YJ ZU; refine Jaq ?_; rw [hF.ord]; refine ⟨⟨by omega, by omega, by omega⟩, fun x z => ∃ k : Nat, z = k /\ k <= y.length /\ x.length = y.length /\ ∀ i, i < k -> vo x i = vo y i, fun _ z => (y.length - z).toNat, ⟨0, rfl, Nat.zero_le _, by simp, fun i hi => absurd hi (Nat.not_lt_zero _)⟩, ?_⟩; rintro x _ ⟨k, rfl, hk, hx, hv⟩; dsimp only; refine ⟨fun hlt => ?_, fun hge => ?_⟩
 .have hel := Jbu hye (t := k) (by omega); have e0 : gi y (k : Int) = vo y k := rfl; rw [e0]; refine ⟨fun x _ => x.length = y.length /\ ∀ i, i < k + 1 -> vo x i = vo y i, ⟨⟨by omega, by omega⟩, fun _ => ⟨⟨by omega, by omega⟩, fun _ => ⟨⟨by omega, by omega⟩, ⟨by omega, by omega⟩, by rw [J6, List.length_set]; exact hx, fun i hi => ?_⟩, fun hh => absurd hel.2 hh⟩, fun hh => absurd hel.1 hh⟩, ?_⟩
  .rw [J6, J2]; by_cases e : k = i
   .rw [if_pos ⟨e, by omega⟩, e]
   .rw [if_neg fun hh => e hh.1]; exact hv i (by omega)
  .rintro x b ⟨a1, a2⟩; exact ⟨Jq (by omega) (by omega), ⟨k + 1, by push_cast; rfl, by omega, a1, a2⟩, by omega⟩
 obtain rfl : y = x := (Ym hx fun i hi => hv i (by omega)).symm; refine ⟨fun x z => ∃ k : Nat, z = k /\ k <= y.length /\ x.length = cn (fun i => decide (vo y i ≠ 0)) k, fun _ z => (y.length - z).toNat, ⟨0, rfl, Nat.zero_le _, rfl⟩, ?_⟩; rintro x _ ⟨j, rfl, hj, hx⟩; dsimp only; refine ⟨fun hlt => ?_, fun hge => ?_⟩
 .have hle := cn_le (fun i => decide (vo y i ≠ 0)) j; have e0 : gi y (j : Int) = vo y j := rfl; rw [e0]; have hs : cn (fun i => decide (vo y i ≠ 0)) (j + 1) = cn (fun i => decide (vo y i ≠ 0)) j + if decide (vo y j ≠ 0) = true then 1 else 0 := rfl
  refine ⟨fun x => x.length = cn (fun i => decide (vo y i ≠ 0)) (j + 1), ⟨⟨by omega, by omega⟩, fun hne => ⟨by omega, ?_⟩, fun he => ?_⟩, ?_⟩
  .show (x ++ [(j : Int)]).length = cn (fun i => decide (vo y i ≠ 0)) (j + 1); rw [hs, if_pos (decide_eq_true hne), List.length_append, hx]; rfl
  .show x.length = cn (fun i => decide (vo y i ≠ 0)) (j + 1); rw [hs, if_neg (fun hh => he (of_decide_eq_true hh)), hx]; rfl
  .intro x hx2; exact ⟨Jq (by omega) (by omega), ⟨j + 1, by push_cast; rfl, by omega, hx2⟩, by omega⟩
 .obtain rfl : j = y.length := by omega
  have : (x.length : Int) = ((wt y : Nat) : Int) := by rw [hx]; rfl
  show Q (x.length : Int); rw [this]; exact h
end
end Go.Proofs.Ytjgpkljepgcekaa
namespace Go.Proofs.Ytjgpkljepgcekaa
/-! ### sums over the places of a word, round a circle -/
section
variable {n : Nat} {f g e a b c : Nat -> Nat}
def smN (f : Nat -> Nat) : Nat -> Nat
  | 0 => 0
  | n + 1 => smN f n + f n
theorem QT : ∀ n, (∀ i, i < n -> f i = g i) -> smN f n = smN g n
 | 0, _ => rfl
 | n + 1, h => by show smN f n + f n = smN g n + g n; rw [QT n fun i hi => h i (by omega), h n (by omega)]
theorem Jcq : ∀ n, (∀ i, i < n -> f i % 2 = g i % 2) -> smN f n % 2 = smN g n % 2
 | 0, _ => rfl
 | n + 1, h => by
  have h1 := Jcq n fun i hi => h i (by omega); have h2 := h n (by omega); show (smN f n + f n) % 2 = (smN g n + g n) % 2; omega
theorem Jff (f g : Nat -> Nat) : ∀ n, smN (fun i => f i + g i) n = smN f n + smN g n
 | 0 => rfl
 | n + 1 => by show smN (fun i => f i + g i) n + (f n + g n) = (smN f n + f n) + (smN g n + g n); rw [Jff f g n]; omega
theorem ZF (x : Nat) (f : Nat -> Nat) : ∀ n, smN (fun i => x * f i) n = x * smN f n
 | 0 => rfl
 | n + 1 => by show smN (fun i => x * f i) n + x * f n = x * (smN f n + f n); rw [ZF x f n, Nat.mul_add]
theorem Jde : ∀ n, smN (fun _ => 0) n = 0
 | 0 => rfl
 | n + 1 => by show smN (fun _ => 0) n + 0 = 0; rw [Jde n]
theorem Jdf (f : Nat -> Nat -> Nat) (m : Nat) : ∀ n, smN (fun i => smN (fun j => f i j) m) n = smN (fun j => smN (fun i => f i j) n) m
 | 0 => (Jde m).symm
 | n + 1 => by
  show smN (fun i => smN (fun j => f i j) m) n + smN (fun j => f n j) m = smN (fun j => smN (fun i => f i j) n + f n j) m; rw [Jdf f m n, Jff]
theorem Jbh (f : Nat -> Nat) : ∀ n, smN f (n + 1) = f 0 + smN (fun i => f (i + 1)) n
 | 0 => by show 0 + f 0 = f 0 + 0; omega
 | n + 1 => by
  show smN f (n + 1) + f (n + 1) = f 0 + (smN (fun i => f (i + 1)) n + f (n + 1))
  rw [Jbh f n]; omega
theorem Jhg (f : Nat -> Nat) : smN (fun i => f ((i + 1) % n)) n = smN f n := by
 cases n with
 | zero => rfl
 | succ k =>
  show smN (fun i => f ((i + 1) % (k + 1))) k + f ((k + 1) % (k + 1)) = smN f (k + 1); rw [Jbh f k, Nat.mod_self, QT (g := fun i => f (i + 1)) k fun i hi => by rw [Nat.mod_eq_of_lt (by omega)]]; omega
theorem Jjr {v : Nat} : ∀ n, (∀ i, i < n -> v <= f i) -> v * n <= smN f n
 | 0, _ => by simp
 | n + 1, h => by
  have h1 := Jjr n fun i hi => h i (by omega); have h2 := h n (by omega); show v * (n + 1) <= smN f n + f n; rw [Nat.mul_succ]; omega
theorem Jlu {x : Nat} : ∀ n, smN (fun j => (if x = j then 1 else 0) * f j) n = if x < n then f x else 0
 | 0 => rfl
 | n + 1 => by
  show smN (fun j => (if x = j then 1 else 0) * f j) n + (if x = n then 1 else 0) * f n = _; rw [Jlu n]; rcases Nat.lt_trichotomy x n with h | h | h
  .rw [if_pos h, if_neg (by omega), if_pos (by omega)]; omega
  .subst h; rw [if_neg (by omega), if_pos rfl, if_pos (by omega)]; omega
  .rw [if_neg (by omega), if_neg (by omega), if_neg (by omega)]; omega
theorem Jpn {s : Nat -> Nat} (hs : ∀ x, x < n -> s x < n) (h : ∀ j, j < n -> smN (fun x => if s x = j then 1 else 0) n = 1) : smN (fun x => f (s x)) n = smN f n := by
 have e1 : smN (fun x => f (s x)) n = smN (fun x => smN (fun j => (if s x = j then 1 else 0) * f j) n) n := QT n fun x hx => by rw [Jlu, if_pos (hs x hx)]
 rw [e1, Jdf]; refine QT n fun j hj => ?_; have e2 : smN (fun i => (if s i = j then 1 else 0) * f j) n = f j * smN (fun i => if s i = j then 1 else 0) n := by
  rw [<- ZF]; exact QT n fun i _ => Nat.mul_comm _ _
 rw [e2, h j hj, Nat.mul_one]
/-- the place that meets i at r -/
def piN (n k r i : Nat) : Nat := k * (r + n - i) % n
/-- a product of two words, at r -/
def ttN (n k r : Nat) (a b : Nat -> Nat) : Nat := smN (fun i => a i * b (piN n k r i)) n
def rtN (n s : Nat) (a : Nat -> Nat) : Nat -> Nat := fun i => a ((i + s) % n)
/-- what is found by reckoning, for one length -/
def okR (e : Nat -> Nat) (n k b : Nat) : Bool :=
  ((List.range n).all fun r => (List.range n).all fun i => piN n k r i == piN n k ((r + 1) % n) ((i + 1) % n) && (piN n k r i + 1) % n == piN n k ((r + b) % n) i) &&
  ((List.range n).all fun r => ttN n k r e e % 2 == ttN n k 0 e e % 2) && (List.range n).all fun j => smN (fun x => if piN n k x 0 = j then 1 else 0) n == 1
structure OkR (e : Nat -> Nat) (n k b : Nat) : Prop where
  sa : ∀ r i, r < n -> i < n -> piN n k r i = piN n k ((r + 1) % n) ((i + 1) % n)
  sb : ∀ r i, r < n -> i < n -> (piN n k r i + 1) % n = piN n k ((r + b) % n) i
  ee : ∀ r, r < n -> ttN n k r e e % 2 = ttN n k 0 e e % 2
  pm : ∀ j, j < n -> smN (fun x => if piN n k x 0 = j then 1 else 0) n = 1
theorem ZJ {n k b : Nat} (h : okR e n k b = true) : OkR e n k b := by
 unfold okR at h; simp only [Bool.and_eq_true, List.all_eq_true, List.mem_range, beq_iff_eq] at h; obtain ⟨⟨h1, h2⟩, h3⟩ := h; exact ⟨fun r i hr hi => (h1 r hr i hi).1, fun r i hr hi => (h1 r hr i hi).2, h2, h3⟩
variable {k β : Nat}
theorem Jhj (s : Nat) (a : Nat -> Nat) : rtN n (s + 1) a = rtN n s (rtN n 1 a) := funext fun i => by
 unfold rtN; rw [Nat.mod_add_mod]; congr 1
theorem ttN_a1 (H : OkR e n k β) {r : Nat} (hr : r < n) (a b : Nat -> Nat) : ttN n k r (rtN n 1 a) b = ttN n k ((r + 1) % n) a b := by
 unfold ttN rtN; rw [<- Jhg (n := n) fun i => a i * b (piN n k ((r + 1) % n) i)]; exact QT n fun i hi => by rw [H.sa r i hr hi]
theorem ttN_b1 (H : OkR e n k β) {r : Nat} (hr : r < n) (a b : Nat -> Nat) : ttN n k r a (rtN n 1 b) = ttN n k ((r + β) % n) a b :=
 QT n fun i hi => by unfold rtN; rw [H.sb r i hr hi]
theorem ttN_a (H : OkR e n k β) (b : Nat -> Nat) : ∀ s r a, r < n -> ∃ r', r' < n /\ ttN n k r (rtN n s a) b = ttN n k r' a b
 | 0, r, a, hr => ⟨r, hr, QT n fun i hi => by unfold rtN; rw [Nat.add_zero, Nat.mod_eq_of_lt hi]⟩
 | s + 1, r, a, hr => by
  rw [Jhj]; obtain ⟨r', hr', h⟩ := ttN_a H b s r (rtN n 1 a) hr; exact ⟨(r' + 1) % n, Nat.mod_lt _ (by omega), h.trans (ttN_a1 H hr' a b)⟩
theorem Jfl {r i : Nat} (hn : 0 < n) : piN n k r i < n := Nat.mod_lt _ hn
theorem ttN_b (H : OkR e n k β) (a : Nat -> Nat) : ∀ s r b, r < n -> ∃ r', r' < n /\ ttN n k r a (rtN n s b) = ttN n k r' a b
 | 0, r, b, hr => ⟨r, hr, QT n fun i hi => by unfold rtN; rw [Nat.add_zero, Nat.mod_eq_of_lt (Jfl (by omega))]⟩
 | s + 1, r, b, hr => by
  rw [Jhj]; obtain ⟨r', hr', h⟩ := ttN_b H a s r (rtN n 1 b) hr; exact ⟨(r' + β) % n, Nat.mod_lt _ (by omega), h.trans (ttN_b1 H hr' a b)⟩
theorem Jg9 (H : OkR e n k β) {r s t : Nat} (hr : r < n) : ttN n k r (rtN n s e) (rtN n t e) % 2 = ttN n k 0 e e % 2 := by
 obtain ⟨r', h1, e1⟩ := ttN_a H (rtN n t e) s r e hr; obtain ⟨r'', h2, e2⟩ := ttN_b H e t r' e h1; rw [e1, e2]; exact H.ee _ h2
theorem Jlv (H : OkR e n k β) (c : Nat -> Nat) : ∀ i, i < n -> smN (fun r => c (piN n k r i)) n = smN c n
 | 0, hi => Jpn (fun x _ => Jfl hi) H.pm
 | i + 1, hi => by
  rw [<- Jlv H c i (by omega), <- Jhg (n := n) fun r => c (piN n k r (i + 1))]; exact QT n fun r hr => by
   have := H.sa r i hr (by omega); rw [Nat.mod_eq_of_lt hi] at this; rw [this]
/-- all the products together -/
theorem smN_tt (H : OkR e n k β) (c : Nat -> Nat) : smN (fun r => ttN n k r c c) n = smN c n * smN c n := by
  unfold ttN
  rw [Jdf, <- ZF]
  refine QT n fun i hi => ?_
  rw [ZF, Jlv H c i hi, Nat.mul_comm]
theorem Jjv (H : OkR e n k β) (hn : n % 2 = 1) {c : Nat -> Nat} (hw : smN c n % 2 = 1) (hc : ∀ r, r < n -> ttN n k r c c % 2 = ttN n k 0 c c % 2) :
  n <= smN c n * smN c n /\ ((∀ i, i < n -> piN n k 0 i = i) -> (∀ i, i < n -> c i <= 1) -> n + smN c n <= smN c n * smN c n + 1) := by
 have hs := smN_tt H c; have hw2 : smN c n * smN c n % 2 = 1 := by rw [Nat.mul_mod, hw]
 have hodd : ∀ r, r < n -> 1 <= ttN n k r c c := fun r hr => by
  rcases Nat.eq_zero_or_pos (ttN n k r c c) with h | h
  .have h0 := hc r hr; rw [h] at h0; have := Jcq (f := fun r => ttN n k r c c) (g := fun _ => 0) n fun i hi => by
    show ttN n k i c c % 2 = 0 % 2; rw [hc i hi, <- h0]
   rw [hs, Jde, hw2] at this; exact absurd this (by decide)
  .exact h
 have h1 := Jjr (v := 1) n hodd; refine ⟨by omega, fun hp hb => ?_⟩; cases n with
 | zero => omega
 | succ j =>
  rw [Jbh] at hs; have h2 := Jjr (f := fun i => ttN (j + 1) k (i + 1) c c) (v := 1) j fun i hi => hodd (i + 1) (by omega); have h3 : ttN (j + 1) k 0 c c = smN c (j + 1) := QT _ fun i hi => by
   rw [hp i hi]; have := hb i hi; rcases (show c i = 0 ∨ c i = 1 by omega) with e | e <;> rw [e]
  omega
end
end Go.Proofs.Ytjgpkljepgcekaa
namespace Go.Proofs.Ytjgpkljepgcekaa
/-! ### the square-root bound of quadratic residue codes -/
theorem ql7 : qw 7 = [0, 1, 1, 0, 1, 0, 0] := by decide +kernel
theorem ql17 : qw 17 = [1, 1, 1, 0, 1, 0, 0, 0, 1, 1, 0, 0, 0, 1, 0, 1, 1] := by decide +kernel
theorem ql23 : qw 23 = [0, 1, 1, 1, 1, 0, 1, 0, 1, 1, 0, 0, 1, 1, 0, 0, 1, 0, 1, 0, 0, 0, 0] := by decide +kernel
theorem ql31 : qw 31 = [0, 1, 1, 0, 1, 1, 0, 1, 1, 1, 1, 0, 0, 0, 1, 0, 1, 0, 1, 1, 1, 0, 0, 0, 0, 1, 0, 0, 1, 0, 0] := by decide +kernel
theorem ql41 : qw 41 = [1, 1, 1, 0, 1, 1, 0, 0, 1, 1, 1, 0, 0, 0, 0, 0, 1, 0, 1, 0, 1, 1, 0, 1, 0, 1, 0, 0, 0, 0, 0, 1, 1, 1, 0, 0, 1, 1, 0, 1, 1] := by decide +kernel
theorem ql47 : qw 47 = [0, 1, 1, 1, 1, 0, 1, 1, 1, 1, 0, 0, 1, 0, 1, 0, 1, 1, 1, 0, 0, 1, 0, 0, 1, 1, 0, 1, 1, 0, 0, 0, 1, 0, 1, 0, 1, 1, 0, 0, 0, 0, 1, 0, 0, 0, 0] := by decide +kernel
theorem okr7 : okR (fun i => (vo [0, 1, 1, 0, 1, 0, 0] i).toNat) 7 6 6 = true := by decide +kernel
theorem okr17 : okR (fun i => (vo [1, 1, 1, 0, 1, 0, 0, 0, 1, 1, 0, 0, 0, 1, 0, 1, 1] i).toNat) 17 6 3 = true := by decide +kernel
theorem okr23 : okR (fun i => (vo [0, 1, 1, 1, 1, 0, 1, 0, 1, 1, 0, 0, 1, 1, 0, 0, 1, 0, 1, 0, 0, 0, 0] i).toNat) 23 22 22 = true := by decide +kernel
theorem okr31 : okR (fun i => (vo [0, 1, 1, 0, 1, 1, 0, 1, 1, 1, 1, 0, 0, 0, 1, 0, 1, 0, 1, 1, 1, 0, 0, 0, 0, 1, 0, 0, 1, 0, 0] i).toNat) 31 30 30 = true := by decide +kernel
theorem okr41 : okR (fun i => (vo [1, 1, 1, 0, 1, 1, 0, 0, 1, 1, 1, 0, 0, 0, 0, 0, 1, 0, 1, 0, 1, 1, 0, 1, 0, 1, 0, 0, 0, 0, 0, 1, 1, 1, 0, 0, 1, 1, 0, 1, 1] i).toNat) 41 14 3 = true := by decide +kernel
theorem okr47 : okR (fun i => (vo [0, 1, 1, 1, 1, 0, 1, 1, 1, 1, 0, 0, 1, 0, 1, 0, 1, 1, 1, 0, 0, 1, 0, 0, 1, 1, 0, 1, 1, 0, 0, 0, 1, 0, 1, 0, 1, 1, 0, 0, 0, 0, 1, 0, 0, 0, 0] i).toNat) 47 46 46 = true := by decide +kernel
theorem idr7 : ((List.range 7).all fun i => piN 7 6 0 i == i) = true := by decide +kernel
theorem idr23 : ((List.range 23).all fun i => piN 23 22 0 i == i) = true := by decide +kernel
theorem idr31 : ((List.range 31).all fun i => piN 31 30 0 i == i) = true := by decide +kernel
theorem idr47 : ((List.range 47).all fun i => piN 47 46 0 i == i) = true := by decide +kernel
theorem Js5 {n : Nat} (h : isQ n = true) : ∃ k b, OkR (fun i => (vo (qw n) i).toNat) n k b /\ (n % 8 = 7 -> ∀ i, i < n -> piN n k 0 i = i) := by
 rcases Jcu h with rfl | rfl | rfl | rfl | rfl | rfl
 .exact ⟨6, 6, by have h := ZJ okr7; rw [<- ql7] at h; exact h, fun _ i hi => by have := List.all_eq_true.1 idr7 i (List.mem_range.2 hi); simpa using this⟩
 .exact ⟨6, 3, by have h := ZJ okr17; rw [<- ql17] at h; exact h, fun h => absurd h (by decide)⟩
 .exact ⟨22, 22, by have h := ZJ okr23; rw [<- ql23] at h; exact h, fun _ i hi => by have := List.all_eq_true.1 idr23 i (List.mem_range.2 hi); simpa using this⟩
 .exact ⟨30, 30, by have h := ZJ okr31; rw [<- ql31] at h; exact h, fun _ i hi => by have := List.all_eq_true.1 idr31 i (List.mem_range.2 hi); simpa using this⟩
 .exact ⟨14, 3, by have h := ZJ okr41; rw [<- ql41] at h; exact h, fun h => absurd h (by decide)⟩
 .exact ⟨46, 46, by have h := ZJ okr47; rw [<- ql47] at h; exact h, fun _ i hi => by have := List.all_eq_true.1 idr47 i (List.mem_range.2 hi); simpa using this⟩
section
variable {P M : Int} {mf : LI} {p m v n : Nat} {N C r : Int} {X Y : LL} {y : LI}
theorem vo_dt {l : LI} {t i : Nat} (ht : t < l.length) (hi : i < l.length) : vo (l.drop t ++ l.take t) i = vo l ((i + t) % l.length) := by
 unfold vo; rw [List.getD_eq_getElem?_getD, List.getD_eq_getElem?_getD, List.getElem?_append, List.length_drop]; by_cases h : i < l.length - t
 .rw [if_pos h, List.getElem?_drop, Nat.mod_eq_of_lt (by omega), Nat.add_comm]
 .rw [if_neg h, List.getElem?_take, if_pos (by omega)]
  congr 2
  rw [Nat.mod_eq_sub_mod (by omega), Nat.mod_eq_of_lt (by omega)]; omega
theorem Jje {q : Nat -> Nat} {y : LI} {Q : LI × Int -> Prop} (G : Sg P M mf p m v N X q) (h1 : 1 <= N /\ N <= 64) (he : ∀ e : Int, e ≠ 0 -> Q ([], e)) (h : y.length = X.length -> Elr p m y -> Q (cmb p m v y N.toNat X X.length, 0)) : Ze P M mf N X y Q := by
 refine Jna ?_; rw [cck_ok G h1.1 h1.2]; have hl := Jfg G.s; refine ⟨fun z => (z ≠ 0) ∨ (z = 0 /\ y.length = X.length /\ Elr p m y), ⟨fun _ => ⟨fun hne => .inl (by decide), fun heq => ?_⟩, fun hh => absurd rfl hh⟩, ?_⟩
 .have hyl : y.length = X.length := by omega
  exact Z9 G.f (by omega) (fun h2 => .inr ⟨rfl, hyl, h2⟩) (fun _ => .inl (by decide))
 .rintro z (hz | ⟨rfl, h2, h3⟩)
  .exact ⟨fun _ => he z hz, fun hh => absurd hz hh⟩
  .exact ⟨fun hh => absurd rfl hh, fun _ => Jjf G.f G.s h2 (h h2 h3)⟩
theorem fa2 {x y : Nat} (hx : x < 2) (hy : y < 2) : Qk 2 1 x y = (x + y) % 2 := by
 rcases (show x = 0 ∨ x = 1 by omega) with rfl | rfl <;> rcases (show y = 0 ∨ y = 1 by omega) with rfl | rfl <;> decide +kernel
theorem fm2 {x y : Nat} (hx : x < 2) (hy : y < 2) : Jy 2 1 (dv 2 0) x y = x * y % 2 := by
 rcases (show x = 0 ∨ x = 1 by omega) with rfl | rfl <;> rcases (show y = 0 ∨ y = 1 by omega) with rfl | rfl <;> decide +kernel
theorem Jpm {U : Nat -> Nat} {k : Nat -> Nat} {a b : Nat -> Nat} {x : Nat} (ha : ∀ c, a c < 2) (hb : ∀ c, b c < 2) (hx : x < 2) (n : Nat) :
  smN (fun i => U i * Qk 2 1 (a (k i)) (Jy 2 1 (dv 2 0) x (b (k i)))) n % 2 = (smN (fun i => U i * a (k i)) n + x * smN (fun i => U i * b (k i)) n) % 2 := by
 rw [<- ZF, <- Jff]; refine Jcq n fun i _ => ?_; rw [fm2 hx (hb _), fa2 (ha _) (Nat.mod_lt _ (by omega)), Nat.add_mod_mod, Nat.mul_mod_mod, Nat.mul_add, Nat.mul_left_comm]
theorem sm_ml {U : Nat -> Nat} {k : Nat -> Nat} {a : Nat -> Nat} {x : Nat} (ha : ∀ c, a c < 2) (hx : x < 2) (n : Nat) :
  smN (fun i => U i * Jy 2 1 (dv 2 0) x (a (k i))) n % 2 = (x * smN (fun i => U i * a (k i)) n) % 2 := by
 rw [<- ZF]; refine Jcq n fun i _ => ?_; rw [fm2 hx (ha _), Nat.mul_mod_mod, Nat.mul_left_comm]
theorem lin2 {U V k l : Nat -> Nat} (hk : ∀ i, i < n -> k i < n) (hl : ∀ i, i < n -> l i < n) : Lin 2 1 0 n (fun a => (smN (fun i => U i * a (k i)) n + smN (fun i => V i * a (l i)) n) % 2) where
 lt a := Nat.mod_lt _ (by decide)
 cg {a b} h := by
  rw [QT n fun i hi => by rw [h _ (hk i hi)], QT (f := fun i => V i * a (l i)) n fun i hi => by rw [h _ (hl i hi)]]
 ad {a b x} ha hb hx := by
  dsimp only; have h1 := Jpm (U := U) (k := k) ha hb hx n; have h2 := Jpm (U := V) (k := l) ha hb hx n; rw [fm2 hx (Nat.mod_lt _ (by omega)), fa2 (Nat.mod_lt _ (by omega)) (Nat.mod_lt _ (by omega)), Nat.mul_mod_mod, Nat.mod_add_mod, Nat.add_mod_mod, Nat.mul_add]; omega
 ml {a x} ha hx := by
  dsimp only; have h1 := sm_ml (U := U) (k := k) ha hx n; have h2 := sm_ml (U := V) (k := l) ha hx n; rw [fm2 hx (Nat.mod_lt _ (by omega)), Nat.mul_mod_mod, Nat.mul_add]; omega
theorem en_shf {l : LI} (hl : l.length = n) (he : Els 2 1 (shf l)) {s c : Nat} (hs : s < n) (hc : c < n) : en 2 1 (row (shf l) s) c = rtN n s (fun i => (vo l i).toNat) c := by
 have hr : row (shf l) s = l.drop s ++ l.take s := Jcr (by omega); have hel : El 2 1 (vo (row (shf l) s) c) := Jbu (he _ (Y6 (by rw [Jau]; omega))) (by rw [hr]; simp; omega); have h1 := Jbq (p := 2) (m := 1) hel; have h2 : vo (row (shf l) s) c = vo l ((c + s) % n) := by rw [hr, vo_dt (by omega) (by omega), hl]
 unfold en rtN; show _ = (vo l ((c + s) % n)).toNat; rw [<- h2]; omega
theorem tt_par {e : Nat -> Nat} {k β : Nat} (H : OkR e n k β) {l : LI} (hl : l.length = n) (he : Els 2 1 (shf l)) (hen : ∀ i, (vo l i).toNat = e i) {c : Nat -> Nat}
  (hc : ∀ f, Lin 2 1 0 n f -> Ann 2 1 f (shf l) -> f c = 0) {r : Nat} (hr : r < n) : ttN n k r c c % 2 = ttN n k 0 c c % 2 := by
 have hrow : ∀ s i, s < n -> i < n -> en 2 1 (row (shf l) s) i = rtN n s e i := fun s i hs hi => by
  rw [en_shf hl he hs hi]; unfold rtN; exact hen _
 have hn : 0 < n := by omega
 have flip : ∀ r a b, ttN n k r a b = smN (fun i => b (piN n k r i) * a i) n := fun r a b => QT n fun i _ => Nat.mul_comm _ _; have s2 : ∀ t, t < n -> (ttN n k r c (rtN n t e) + ttN n k 0 c (rtN n t e)) % 2 = 0 := fun t ht => by
  rw [flip, flip]; have L := lin2 (n := n) (U := fun i => rtN n t e (piN n k r i)) (V := fun i => rtN n t e (piN n k 0 i)) (k := fun i => i) (l := fun i => i) (fun i h => h) (fun i h => h); refine hc _ L fun s hs => ?_; rw [Jau, hl] at hs; refine (L.cg fun i hi => hrow s i hs hi).trans ?_; have h1 := Jg9 H (r := r) (s := s) (t := t) hr; have h2 := Jg9 H (r := 0) (s := s) (t := t) hn; rw [flip] at h1 h2; show (smN (fun i => rtN n t e (piN n k r i) * rtN n s e i) n + smN (fun i => rtN n t e (piN n k 0 i) * rtN n s e i) n) % 2 = 0; omega
 have L := lin2 (n := n) (U := c) (V := c) (k := fun i => piN n k r i) (l := fun i => piN n k 0 i) (fun i _ => Jfl hn) (fun i _ => Jfl hn); have h3 := hc _ L fun t ht => by
  rw [Jau, hl] at ht; refine (L.cg fun i hi => hrow t i ht hi).trans ?_; exact s2 t ht
 have h4 : (ttN n k r c c + ttN n k 0 c c) % 2 = 0 := h3; omega
theorem Jtw {f : (Nat -> Nat) -> Nat} (hF : FV P M mf p m v) {w : Nat} (L : Lin p m v w f) (hA : Ann p m f X) (y : LI) : f (en p m (cmb p m v y w X X.length)) = 0 := by
 rw [Jma hF L]; refine Jmf hF _ fun i hi => ?_; have hq := hF.ring.q2; rw [hA i hi, hF.ring.M0 (JX (by omega) _)]
theorem wt_sm {c : LI} (he : Elr 2 1 c) : wt c = smN (en 2 1 c) c.length := by
 unfold wt; have : ∀ k, k <= c.length -> cn (fun i => decide (vo c i ≠ 0)) k = smN (en 2 1 c) k := fun k => by
  induction k with
  | zero => intro _; rfl
  | succ k ih =>
   intro hk; have hel := Jbu he (t := k) (by omega); have h1 := Jbq (p := 2) (m := 1) hel; have h2 : en 2 1 c k = inE (2 ^ 1) (vo c k) := rfl; show cn (fun i => decide (vo c i ≠ 0)) k + (if decide (vo c k ≠ 0) = true then 1 else 0) = smN (en 2 1 c) k + en 2 1 c k; rw [ih (by omega), h2]; have h3 : 0 <= vo c k /\ vo c k < 2 := ⟨hel.1, hel.2⟩
   by_cases e : vo c k = 0
   .rw [if_neg (by simp [e])]; omega
   .rw [if_pos (by simp [e])]; omega
 exact this _ (Nat.le_refl _)
theorem Jch (n : Int) (y : LI) : Jg0 n y (fun b => b = true) := by
 refine Jnb ⟨(fun hh => by cases hh), fun _ => ?_⟩; refine Jnc (fun h6 => Jb5 (by rw [h6]; exact ⟨fun _ => decide_eq_true rfl, (fun hh => by cases hh)⟩)) fun hQ hn => ?_; refine Jb5 ?_; rw [hQ]; refine ⟨(fun hh => by cases hh), fun _ => ⟨fun hh => absurd rfl hh, fun _ => ?_⟩⟩; obtain ⟨n, rfl⟩ := Int.eq_ofNat_of_zero_le (show 0 <= n by omega); rw [Int.toNat_natCast] at hQ ⊢; obtain ⟨h7, h64⟩ := hn; obtain ⟨k, β, H, hid⟩ := Js5 hQ; have hb := Jmb hQ; have hl := Jp3 n; have hs := Jsv (l := qw n) (by omega); rw [hl] at hs; have he := Jmh hb.1; obtain ⟨q, G⟩ := sg_can fv2 hs he; have hodd : n % 2 = 1 /\ (n % 8 = 1 ∨ n % 8 = 7) := by
  rcases Jcu hQ with rfl | rfl | rfl | rfl | rfl | rfl <;> decide
 refine Jje G (by omega) (fun e he => ⟨fun _ => rfl, fun hh => absurd he hh⟩) fun hyl hye => ⟨fun hh => absurd rfl hh, fun _ => ?_⟩
 rw [Int.toNat_natCast]; have hce : Elr 2 1 (cmb 2 1 0 y n (QN 2 1 0 (n : Int) (shf (qw n))) (QN 2 1 0 (n : Int) (shf (qw n))).length) := Jmk fv2 _; have hcl : (cmb 2 1 0 y n (QN 2 1 0 (n : Int) (shf (qw n))) (QN 2 1 0 (n : Int) (shf (qw n))).length).length = n := Jcw _ _ _; have hsp : ∀ f, Lin 2 1 0 n f -> Ann 2 1 f (shf (qw n)) -> f (en 2 1 (cmb 2 1 0 y n (QN 2 1 0 (n : Int) (shf (qw n))) (QN 2 1 0 (n : Int) (shf (qw n))).length)) = 0 := fun f L hf => Jtw fv2 L ((Jt3 fv2 hs he (by rw [Int.toNat_natCast]; exact L)).2 hf) y; refine Jjg fv2 hce (by rw [hcl]; omega) ?_; rw [wt_sm hce, hcl]; generalize cmb 2 1 0 y n (QN 2 1 0 (n : Int) (shf (qw n))) (QN 2 1 0 (n : Int) (shf (qw n))).length = c at *
 have hpar := fun r hr => tt_par H hl he (fun i => rfl) hsp (r := r) hr; have hle : smN (en 2 1 c) n <= n := by
  have : ∀ k, smN (en 2 1 c) k <= k := fun k => by
   induction k with
   | zero => exact Nat.le_refl _
   | succ k ih =>
    have := Jh9 fv2 c k; show smN (en 2 1 c) k + en 2 1 c k <= k + 1; omega
  exact this n
 have hbit : ∀ i, i < n -> en 2 1 c i <= 1 := fun i _ => by have := Jh9 fv2 c i; omega
 have hrb := fun hw => Jjv H hodd.1 (c := en 2 1 c) hw hpar; generalize smN (en 2 1 c) n = w at *
 have hww : w * w <= 64 * 64 := Nat.mul_le_mul (by omega) (by omega); have t2 : ((w : Int).tmod 2) = ((w % 2 : Nat) : Int) := YA w 2; have t8 : ((n : Int).tmod 8) = ((n % 8 : Nat) : Int) := YA n 8; have ew : ((w : Int) * (w : Int)) = ((w * w : Nat) : Int) := by push_cast; rfl
 dsimp only; rw [t2, t8, ew]; refine ⟨fun _ => rfl, fun hne => ⟨Q8 (by omega), fun hge => ⟨fun _ => rfl, fun h8 => ?_⟩, fun hlt => ?_⟩⟩
 .have hw : w % 2 = 1 := by omega
  have := (hrb hw).2 (hid (by omega)) hbit; exact ⟨Q8 (by omega), Jq (by omega) (by omega), Jq (by omega) (by omega), decide_eq_true (by omega)⟩
 .have hw : w % 2 = 1 := by omega
  have := (hrb hw).1; exact absurd (by omega) hlt
end
end Go.Proofs.Ytjgpkljepgcekaa
