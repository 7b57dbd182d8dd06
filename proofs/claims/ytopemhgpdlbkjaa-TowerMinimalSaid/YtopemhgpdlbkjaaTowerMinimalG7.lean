/- Contracts of functions of the program, and what they lean on: Fr, Fs2, Ft, Q1, Q2, Q3, Q4, Q5, T1, T2. -/
import Derived.Test.YtopemhgpdlbkjaaTowerMinimalG6
set_option linter.unusedVariables false
namespace Go.Proofs.Ytopemhgpdlbkjaa
namespace CR
variable {q g p m : Nat} {A M : Nat -> Nat -> Nat} (R : CR q A M)
include R
theorem fr_zero {x : Nat} (hx : x < q) : pw M x (p ^ 0) = x := by rw [Nat.pow_zero, R.pw_one hx]
theorem fr_comp {x : Nat} (hx : x < q) (i j : Nat) : pw M (pw M x (p ^ i)) (p ^ j) = pw M x (p ^ (i + j)) := by
 rw [R.pw_pw hx, <- Nat.pow_add]
theorem fr_succ {x : Nat} (hx : x < q) (j : Nat) : pw M (pw M x (p ^ j)) p = pw M x (p ^ (j + 1)) := by
 rw [R.pw_pw hx, <- Nat.pow_succ]
theorem fr_add (G : Gn q M g) (hp : IsLf p p) (hch : ∀ x, x < q -> ns A x p = 0) {x y : Nat} (hx : x < q) (hy : y < q) : ∀ j, pw M (A x y) (p ^ j) = A (pw M x (p ^ j)) (pw M y (p ^ j))
 | 0 => by rw [Nat.pow_zero, R.pw_one hx, R.pw_one hy, R.pw_one (R.Al x y)]
 | j + 1 => by
  rw [<- R.fr_succ (R.Al x y), fr_add G hp hch hx hy j, R.frob G hp hch (R.pw_lt x _) (R.pw_lt y _), R.fr_succ hx, R.fr_succ hy]
theorem fr_mul {x y : Nat} (hx : x < q) (hy : y < q) (j : Nat) : pw M (M x y) (p ^ j) = M (pw M x (p ^ j)) (pw M y (p ^ j)) := R.mul_pw hx hy _
theorem fr_m (G : Gn q M g) (hq : q = p ^ m) {x : Nat} (hx : x < q) : pw M x (p ^ m) = x := by rw [<- hq]; exact G.xq R hx
theorem fr_per (G : Gn q M g) (hq : q = p ^ m) {x : Nat} (hx : x < q) (j : Nat) : ∀ t, pw M x (p ^ (j + m * t)) = pw M x (p ^ j)
 | 0 => rfl
 | t + 1 => by
  rw [Nat.mul_succ, <- Nat.add_assoc, <- R.fr_comp hx, fr_per G hq hx j t, R.fr_m G hq (R.pw_lt x _)]
theorem fr_mod (G : Gn q M g) (hq : q = p ^ m) {x : Nat} (hx : x < q) (j : Nat) : pw M x (p ^ (j % m)) = pw M x (p ^ j) := by
 have := R.fr_per G hq hx (j % m) (j / m); rw [Nat.mod_add_div] at this; exact this.symm
theorem fr_iter {P : Nat} {x : Nat} (hx : x < q) {t : Nat} (h : pw M x (P ^ t) = x) : ∀ s, pw M x (P ^ (t * s)) = x
  | 0 => by rw [Nat.mul_zero, R.fr_zero hx]
  | s + 1 => by rw [Nat.mul_succ, <- R.fr_comp hx, fr_iter hx h s, h]
end CR
structure Pe (M : Nat -> Nat -> Nat) (P x t : Nat) : Prop where
  pos : 0 < t
  back : pw M x (P ^ t) = x
  no : ∀ j, 0 < j -> j < t -> pw M x (P ^ j) ≠ x
theorem Pe.ex {M : Nat -> Nat -> Nat} {P x : Nat} : ∀ n, 0 < n -> pw M x (P ^ n) = x -> ∃ t, t <= n /\ Pe M P x t := by
 intro n
 induction n using Nat.strongRecOn with
 | ind n ih =>
  intro h0 h; by_cases hc : ∃ j, 0 < j /\ j < n /\ pw M x (P ^ j) = x
  .obtain ⟨j, h1, h2, h3⟩ := hc; obtain ⟨t, h4, h5⟩ := ih j h2 h1 h3; exact ⟨t, by omega, h5⟩
  .exact ⟨n, Nat.le_refl n, h0, h, fun j h1 h2 h3 => hc ⟨j, h1, h2, h3⟩⟩
theorem Pe.iff {q : Nat} {A M : Nat -> Nat -> Nat} (R : CR q A M) {P x t : Nat} (h : Pe M P x t) (hx : x < q) (j : Nat) : pw M x (P ^ j) = x ↔ j % t = 0 := by
 have e : pw M x (P ^ j) = pw M x (P ^ (j % t)) := by
  have h1 := R.fr_iter hx h.back (j / t); have h2 := R.fr_comp (p := P) hx (t * (j / t)) (j % t); rw [h1, Nat.div_add_mod] at h2; exact h2.symm
 rw [e]; refine ⟨fun h1 => ?_, fun h1 => by rw [h1, R.fr_zero hx]⟩; rcases Nat.eq_zero_or_pos (j % t) with h2 | h2
 .exact h2
 .exact absurd h1 (h.no _ h2 (Nat.mod_lt _ h.pos))
theorem Pe.uniq {M : Nat -> Nat -> Nat} {P x t u : Nat} (h : Pe M P x t) (h' : Pe M P x u) : t = u := by
 rcases Nat.lt_trichotomy t u with h1 | h1 | h1
 .exact absurd h.back (h'.no t h.pos h1)
 .exact h1
 .exact absurd h'.back (h.no u h'.pos h1)
theorem Pe.inj {q : Nat} {A M : Nat -> Nat -> Nat} (R : CR q A M) {P x t : Nat} (h : Pe M P x t) (hx : x < q) {i j : Nat} (hij : i < j) (hj : j < t) : pw M x (P ^ i) ≠ pw M x (P ^ j) := fun e => by
  have h1 := R.fr_comp (p := P) hx i (t - i)
  have h2 := R.fr_comp (p := P) hx j (t - i)
  rw [e, h2, show i + (t - i) = t by omega, h.back] at h1
  have h3 := (h.iff R hx _).1 h1
  rw [show j + (t - i) = (j - i) + t by omega, Nat.add_mod_right, Nat.mod_eq_of_lt (by omega)] at h3
  omega
end Go.Proofs.Ytopemhgpdlbkjaa
namespace Go.Proofs.Ytopemhgpdlbkjaa
variable {q g p m : Nat} {A M : Nat -> Nat -> Nat}
end Go.Proofs.Ytopemhgpdlbkjaa
namespace Go.Proofs.Ytopemhgpdlbkjaa
structure Cm (q : Nat) (o : Nat -> Nat -> Nat) (e : Nat) : Prop where
  el : e < q
  ol : ∀ x y, o x y < q
  oc : ∀ {x y}, x < q -> y < q -> o x y = o y x
  oa : ∀ {x y z}, x < q -> y < q -> z < q -> o (o x y) z = o x (o y z)
  oe : ∀ {x}, x < q -> o x e = x
def sO (o : Nat -> Nat -> Nat) (e : Nat) (f : Nat -> Nat) : Nat -> Nat
  | 0 => e
  | n + 1 => o (sO o e f n) (f n)
namespace Cm
variable {q e : Nat} {o : Nat -> Nat -> Nat} (C : Cm q o e)
include C
theorem lt (f : Nat -> Nat) : ∀ n, sO o e f n < q
 | 0 => C.el
 | n + 1 => C.ol _ _
theorem swap4 {a b c d : Nat} (ha : a < q) (hb : b < q) (hc : c < q) (hd : d < q) : o (o a b) (o c d) = o (o a c) (o b d) := by
 rw [C.oa ha hb (C.ol c d), <- C.oa hb hc hd, C.oc hb hc, C.oa hc hb hd, <- C.oa ha hc (C.ol b d)]
theorem two {f h : Nat -> Nat} (hf : ∀ i, f i < q) (hh : ∀ i, h i < q) : ∀ n, sO o e (fun i => o (f i) (h i)) n = o (sO o e f n) (sO o e h n)
 | 0 => (C.oe C.el).symm
 | n + 1 => by
  unfold sO; rw [two hf hh n, C.swap4 (C.lt f n) (C.lt h n) (hf n) (hh n)]
theorem hom {f : Nat -> Nat} (hf : ∀ i, f i < q) {φ : Nat -> Nat} (h0 : φ e = e) (h1 : ∀ {x y}, x < q -> y < q -> φ (o x y) = o (φ x) (φ y)) : ∀ n, φ (sO o e f n) = sO o e (fun i => φ (f i)) n
 | 0 => h0
 | n + 1 => by unfold sO; rw [h1 (C.lt f n) (hf n), hom hf h0 h1 n]
theorem app {f : Nat -> Nat} (hf : ∀ i, f i < q) (n : Nat) : ∀ k, sO o e f (n + k) = o (sO o e f n) (sO o e (fun i => f (n + i)) k)
 | 0 => (C.oe (C.lt f n)).symm
 | k + 1 => by
  show o (sO o e f (n + k)) (f (n + k)) = o (sO o e f n) (o (sO o e (fun i => f (n + i)) k) (f (n + k))); rw [app hf n k, C.oa (C.lt f n) (C.lt _ k) (hf _)]
theorem unit : ∀ n, sO o e (fun _ => e) n = e
 | 0 => rfl
 | n + 1 => by unfold sO; rw [unit n, C.oe C.el]
theorem block {f : Nat -> Nat} (hf : ∀ i, f i < q) (s : Nat) : ∀ t, sO o e f (s * t) = sO o e (fun b => sO o e (fun a => f (s * a + b)) t) s
  | 0 => by show sO o e f 0 = _; rw [show sO o e f 0 = e from rfl]; exact (C.unit s).symm
  | t + 1 => by
    rw [Nat.mul_succ, C.app hf, block hf s t, <- C.two (fun b => C.lt _ t) (fun b => hf _)]
    rfl
end Cm
theorem CR.add {q : Nat} {A M : Nat -> Nat -> Nat} (R : CR q A M) : Cm q A 0 := ⟨R.pos, R.Al, fun _ _ => R.Ac _ _, R.Aa, R.Az⟩
theorem CR.mul {q : Nat} {A M : Nat -> Nat -> Nat} (R : CR q A M) : Cm q M 1 := ⟨R.one_lt, R.Ml, R.Mc, R.Ma, R.M1⟩
section
variable {q g p m : Nat} {A M : Nat -> Nat -> Nat}
def trc (A M : Nat -> Nat -> Nat) (p d t x : Nat) : Nat := sO A 0 (fun i => pw M x (p ^ (d * i))) t
end
end Go.Proofs.Ytopemhgpdlbkjaa
set_option linter.unusedSimpArgs false
namespace Go.Proofs.Ytopemhgpdlbkjaa
section
variable {F : GFv} {p m v g : Nat} {P M : Int} {mf : LI}
theorem Jlg {l o : LI} {Q : Bool -> Prop} (hl : l.length <= 1000000) (h : Q (decide (l = o))) : YY l o Q := by
 refine ⟨fun hne => ?_, fun he => ?_⟩
 .rw [decide_eq_false (fun e => hne (by rw [e]))] at h; exact h
 .have hlen : l.length = o.length := by omega
  refine ⟨fun z => ∃ j : Nat, z = j /\ j <= l.length /\ ∀ i, i < j -> vo l i = vo o i, fun z => (l.length - z).toNat, ⟨0, rfl, Nat.zero_le _, fun i hi => by omega⟩, ?_⟩; rintro _ ⟨j, rfl, hj, hv⟩; dsimp only; rw [Jy, Jy]; refine ⟨fun hz => ⟨⟨by omega, by omega⟩, ⟨by omega, by omega⟩, fun hne => ?_, fun he => ⟨Jo (by omega) (by omega), ⟨j + 1, by push_cast; rfl, by omega, fun i hi => ?_⟩, by omega⟩⟩, fun hz => ?_⟩
  .rw [decide_eq_false (fun e => hne (by rw [e]))] at h; exact h
  .by_cases e : i = j
   .rw [e]; exact Decidable.not_not.1 he
   .exact hv i (by omega)
  .rw [decide_eq_true (Q3 hlen fun i hi => hv i (by omega))] at h; exact h
theorem Joa {Q : Option GFv -> Prop} (h0 : ¬ Jae P M mf -> Q none) (h1 : ∀ (F : GFv) (p m v g : Nat), GFk F p m v g -> FV P M mf p m v -> Q (some F)) : Z2 P M mf Q := by
 refine Jet ⟨fun hn => h0 fun hV => hn (Jb9 hV), fun hn => ?_⟩; refine v_New (fun hV => absurd (Qx hV) (by intro e; rw [e] at hn; exact hn (by decide))) fun F p m v g K eP eM em => ⟨fun h => absurd rfl h, fun _ => ?_⟩
 have hF : FV P M mf p m v := by have := K.fv; rwa [eP, eM, em] at this
 exact h1 F p m v g K hF
theorem Ja5 {Q : Int × Int × LI -> Prop} (K : GFk F p m v g) (h : Q ((p : Int), (m : Int), F.mod)) : Q2 F Q := by
 have hl : F.mod.length <= 1000000 := by
  have h8 := K.fv.m8; by_cases hm1 : m = 1
  .rw [(K.fv.m1 hm1).1]; simp
  .rw [K.fv.m2 hm1, JI]; omega
 refine Jog hl ?_; rw [K.fv.eP, K.fv.eM]; exact h
theorem ppow (hF : FV P M mf p m v) {i : Nat} (hi : i <= m) : 0 < p ^ i /\ p ^ i <= 256 := by
 have hp := hF.p2; exact ⟨Nat.pow_pos (by omega), Nat.le_trans (Nat.pow_le_pow_right (by omega) hi) hF.q⟩
theorem w_frob {x k : Int} {Q : Int -> Prop} (K : GFk F p m v g) (hk : I64 k) (h : Q ((pw (Jq p m (dv p v)) (inE (p ^ m) x) (p ^ (k % (m : Int)).toNat) : Nat) : Int)) : Z3 F x k Q := by
 have hm0 := K.fv.m0; have hm8 := K.fv.m8; have hm : (0 : Int) < m := by omega
 have t1 := Int.tmod_lt_of_pos k hm; have t2 := Int.lt_tmod_of_pos k hm; have hmod := modk (n := k) hm; refine Ja5 K ⟨by omega, fun z => z = k % (m : Int), ⟨fun hneg => ⟨Jo (by omega) (by omega), ?_⟩, fun hpos => ?_⟩, ?_⟩
 .rw [<- hmod, Int.tmod_eq_emod_of_nonneg (by omega), Int.emod_eq_of_lt (by omega) (by omega)]
 .rw [<- hmod, Int.tmod_eq_emod_of_nonneg (by omega), show k.tmod (m : Int) + (m : Int) = k.tmod (m : Int) + (m : Int) * 1 by omega, Int.add_mul_emod_self_left, Int.emod_eq_of_lt (by omega) (by omega)]
 .rintro _ rfl; have h3 := Int.emod_nonneg k (show (m : Int) ≠ 0 by omega); have h4 := Int.emod_lt_of_pos k hm; obtain ⟨j, hj⟩ : ∃ j : Nat, k % (m : Int) = j := ⟨_, (Int.toNat_of_nonneg h3).symm⟩
  rw [hj, Int.toNat_natCast] at h; rw [hj] at h4 ⊢; refine ⟨fun z i => ∃ n : Nat, i = n /\ n <= j /\ z = ((p ^ n : Nat) : Int), fun z i => (j - i).toNat, ⟨0, rfl, Nat.zero_le _, by simp⟩, ?_⟩; rintro _ _ ⟨n, rfl, hn, rfl⟩; refine ⟨fun hlt => ?_, fun hge => ?_⟩
  .have h5 := ppow K.fv (i := n + 1) (by omega); have h6 : ((p ^ n : Nat) : Int) * (p : Int) = ((p ^ (n + 1) : Nat) : Int) := by rw [Nat.pow_succ]; push_cast; rfl
   rw [h6]; exact ⟨Qf (by omega), Jo (by omega) (by omega), ⟨n + 1, by push_cast; rfl, by omega, rfl⟩, by show ((j : Int) - ((n : Int) + 1)).toNat < ((j : Int) - (n : Int)).toNat; omega⟩
  .obtain rfl : n = j := by omega
   have h5 := ppow K.fv (i := n) (by omega); exact v_PowN K h5.1 (by omega) h
theorem Jid {x : Int} {c : Nat} {Q : Int -> Prop} (K : GFk F p m v g) (hc : c <= 1000000) (h : Q ((pw (Jq p m (dv p v)) (inE (p ^ m) x) (p ^ c) : Nat) : Int)) : Z3 F x (c : Int) Q := by
 refine w_frob K (Qf (by omega)) ?_; rw [show ((c : Int) % (m : Int)).toNat = c % m by rw [<- Int.natCast_emod]; rfl, K.fv.ring.fr_mod K.G rfl (JU K.fv.ring.pos x)]; exact h
theorem Jn9 {n : Nat} {x : Int} {Q : Int × Int -> Prop} (K : GFk F p m v g) (hF : FV P M mf p m v) (hn0 : 0 < n) (hn : n <= 1000) (h : Q (((pw (Jq p m (dv p v)) (inE (p ^ m) x) n : Nat) : Int), 0)) : Jcf P M mf x n Q := by
 have R := K.fv.ring; have hq2 := R.q2; refine v_rPow hF (fun h0 => ?_) (fun h1 => ?_) (Qf (by omega))
 .rw [if_neg (by omega), if_neg (by omega)]; rw [h0, R.zero_pw hn0] at h; exact h
 .have e : ((n : Int) % (((p ^ m : Nat) : Int) - 1)).toNat = n % (p ^ m - 1) := by
   rw [show ((p ^ m : Nat) : Int) - 1 = ((p ^ m - 1 : Nat) : Int) by omega]; rfl
  rw [e, K.G.xmod R (Nat.pos_of_ne_zero h1) (JU R.pos x)]; exact h
theorem Jdm {x : Int} {c : Nat} {Q : Int -> Prop} (K : GFk F p m v g) (hF : FV P M mf p m v) (hc : c <= 1000000) (h : Q ((pw (Jq p m (dv p v)) (inE (p ^ m) x) (p ^ c) : Nat) : Int)) : YU P M mf x (c : Int) Q := by
 have R := K.fv.ring; have hx := JU R.pos x; have hp := hF.p2; have hp256 := hF.p256; refine Jcx hF ⟨fun z i => ∃ n : Nat, i = n /\ n <= c /\ z = ((pw (Jq p m (dv p v)) (inE (p ^ m) x) (p ^ n) : Nat) : Int), fun z i => (c - i).toNat, ⟨0, rfl, Nat.zero_le _, by rw [R.fr_zero hx]⟩, ?_⟩; rintro _ _ ⟨n, rfl, hn, rfl⟩; refine ⟨fun hlt => ?_, fun hge => ?_⟩
 .rw [show P = (p : Int) from hF.eP]; have hF' : FV (p : Int) M mf p m v := by have := hF; rwa [hF.eP] at this
  refine Jn9 K hF' (by omega) (by omega) ?_; rw [J4 (R.pw_lt _ _), R.fr_succ hx]; exact ⟨Jo (by omega) (by omega), ⟨n + 1, by push_cast; rfl, by omega, rfl⟩, by show ((c : Int) - ((n : Int) + 1)).toNat < ((c : Int) - (n : Int)).toNat; omega⟩
 .obtain rfl : n = c := by omega
  exact h
end
end Go.Proofs.Ytopemhgpdlbkjaa
namespace Go.Proofs.Ytopemhgpdlbkjaa
section
variable {F : GFv} {p m v g : Nat} {P M : Int} {mf : LI}
theorem Jod (f : Nat -> Int) (n i : Nat) : vo ((List.range n).map f) i = if i < n then f i else 0 := by
 unfold vo; rw [List.getD_eq_getElem?_getD, List.getElem?_map]; by_cases h : i < n
 .rw [if_pos h, List.getElem?_range h]; rfl
 .rw [if_neg h, List.getElem?_eq_none (by simpa using h)]; rfl
/-- d is a degree of a subfield. -/
def IsD (m : Nat) (d : Int) : Prop := ∃ c t : Nat, d = (c : Int) /\ 0 < c /\ m = c * t
theorem Jn1 {m c : Nat} (hc : 0 < c) (h : m % c = 0) : m = c * (m / c) := by
 have := Nat.mod_add_div m c; omega
theorem Y7 {d : Int} {Q : Bool -> Prop} (K : GFk F p m v g) (h1 : ∀ c t : Nat, d = c -> 0 < c -> m = c * t -> Q true) (h0 : ¬ IsD m d -> Q false) : QA F d Q := by
 refine ⟨fun hd => Ja5 K ⟨by omega, ?_⟩, fun hd => h0 fun ⟨c, t, h2, h3, _⟩ => by omega⟩; obtain ⟨c, rfl⟩ := Int.eq_ofNat_of_zero_le (show 0 <= d by omega); rw [Y4 m c]; by_cases hm : m % c = 0
 .rw [decide_eq_true (by rw [hm]; rfl)]; exact h1 c (m / c) rfl (by omega) (Jn1 (by omega) hm)
 .rw [decide_eq_false (by omega)]; refine h0 fun ⟨c', t, h2, h3, h4⟩ => hm ?_; obtain rfl : c = c' := by omega
  rw [h4]; exact Nat.mul_mod_right _ _
theorem Ja4 {d : Int} {Q : Bool -> Prop} (hF : FV P M mf p m v) (h1 : ∀ c t : Nat, d = c -> 0 < c -> m = c * t -> Q true) (h0 : ¬ IsD m d -> Q false) : Yo P M mf d Q := by
 have hm0 := hF.m0; have hno : m < d.toNat -> ¬ IsD m d := fun hl ⟨c, t, h2, h3, h4⟩ => by
  have ht : 0 < t := Nat.pos_of_ne_zero fun e => by rw [e, Nat.mul_zero] at h4; omega
  have : c * 1 <= c * t := Nat.mul_le_mul_left c ht; omega
 refine ⟨fun hd => ⟨fun hle => ⟨by omega, ?_⟩, fun hgt => h0 (hno (by rw [hF.eM] at hgt; omega))⟩, fun hd => h0 fun ⟨c, t, h2, h3, _⟩ => by omega⟩; obtain ⟨c, rfl⟩ := Int.eq_ofNat_of_zero_le (show 0 <= d by omega); rw [hF.eM, Y4 m c]; by_cases hm : m % c = 0
 .rw [decide_eq_true (by rw [hm]; rfl)]; exact h1 c (m / c) rfl (by omega) (Jn1 (by omega) hm)
 .rw [decide_eq_false (by omega)]; refine h0 fun ⟨c', t, h2, h3, h4⟩ => hm ?_; obtain rfl : c = c' := by omega
  rw [h4]; exact Nat.mul_mod_right _ _
/-- The list of the steps of an orbit. -/
def orb (p m v c t x : Nat) : LI := (List.range t).map (fun i => ((pw (Jq p m (dv p v)) x (p ^ (c * i)) : Nat) : Int))
theorem Qg {c t x : Nat} : (orb p m v c t x).length = t := by simp [orb]
theorem Jbo {c t x i : Nat} (hi : i < t) : vo (orb p m v c t x) i = ((pw (Jq p m (dv p v)) x (p ^ (c * i)) : Nat) : Int) := by
 unfold orb; rw [Jod, if_pos hi]
theorem Jic {x : Int} {c t : Nat} {Q : LI -> Prop} (K : GFk F p m v g) (hc : 0 < c) (hm : m = c * t) (h : Q (orb p m v c t (inE (p ^ m) x))) : ZC F x (c : Int) Q := by
 have hm8 := K.fv.m8; have e : (m : Int).tdiv (c : Int) = (t : Int) := by rw [Jij m c, hm, Nat.mul_div_cancel_left _ hc]
 have ht : t <= m := by rw [hm]; exact Nat.le_mul_of_pos_left _ hc
 refine Ja5 K ?_; dsimp only; rw [e, Int.toNat_natCast]; refine ⟨⟨by omega, Jo (by omega) (by omega)⟩, ⟨by omega, by omega, by omega⟩, fun l z => ∃ j : Nat, z = j /\ j <= t /\ l.length = t /\ ∀ i, i < j -> vo l i = ((pw (Jq p m (dv p v)) (inE (p ^ m) x) (p ^ (c * i)) : Nat) : Int), fun l z => (t - z).toNat, ⟨0, rfl, Nat.zero_le _, by simp, fun i hi => by omega⟩, ?_⟩; rintro l _ ⟨j, rfl, hj, hl, hv⟩; dsimp only; have ecj : (c : Int) * (j : Int) = ((c * j : Nat) : Int) := by push_cast; rfl
 refine ⟨fun hlt => ?_, fun hge => ?_⟩
 .have hb : c * j <= m := by rw [hm]; exact Nat.mul_le_mul_left _ hj
  rw [ecj]; refine ⟨Jo (by omega) (by omega), Jid K (by omega) ⟨⟨by omega, by omega⟩, Jo (by omega) (by omega), ⟨j + 1, by push_cast; rfl, by omega, by simp [si, hl], fun i hi => ?_⟩, by omega⟩⟩; rw [JR, JQ]; by_cases hij : j = i
  .rw [if_pos ⟨hij, by omega⟩, hij]
  .rw [if_neg (by omega), hv i (by omega)]
 .have : l = orb p m v c t (inE (p ^ m) x) := Q3 (by rw [hl, Qg]) fun i hi => by rw [hv i (by omega), Jbo (by omega)]
  rw [this]; exact h
theorem Jfm (K : GFk F p m v g) {c t x : Nat} : ∀ k, k <= t -> Jkk p m (orb p m v c t x) k = sO (JZ p m) 0 (fun i => pw (Jq p m (dv p v)) x (p ^ (c * i))) k
 | 0, _ => rfl
 | k + 1, hk => by
  show JZ p m (Jkk p m (orb p m v c t x) k) _ = JZ p m (sO _ 0 _ k) _; rw [Jfm K k (by omega), Jbo (by omega), J4 (K.fv.ring.pw_lt _ _)]
theorem Jn4 {x d : Int} {Q : Int × Int -> Prop} (K : GFk F p m v g) (h6 : ¬ IsD m d -> Q (0, 6)) (h : ∀ c t : Nat, d = c -> 0 < c -> m = c * t -> Q (((trc (JZ p m) (Jq p m (dv p v)) p c t (inE (p ^ m) x) : Nat) : Int), 0)) : Jax F x d Q := by
 have hm8 := K.fv.m8; refine Y7 K (fun c t e hc hm => ⟨fun h => absurd h (by decide), fun _ => ?_⟩) fun hn => ⟨fun _ => h6 hn, fun h => absurd h (by decide)⟩
 subst e; have ht : t <= m := by rw [hm]; exact Nat.le_mul_of_pos_left _ hc
 refine Jic K hc hm (v_Sum K (by rw [Qg]; omega) ?_); rw [Qg, Jfm K t (Nat.le_refl t)]; exact h c t rfl hc hm
theorem w_rin {x : Int} {c : Nat} {Q : Bool -> Prop} (K : GFk F p m v g) (hF : FV P M mf p m v) (hc : c <= 1000000) (h : Q (decide (pw (Jq p m (dv p v)) (inE (p ^ m) x) (p ^ c) = inE (p ^ m) x))) : Jgf P M mf x (c : Int) Q := by
 refine ⟨_, Jdm K hF hc rfl, _, Jcx hF rfl, ?_⟩; simp only [Int.ofNat_inj] at *
 exact h
end
end Go.Proofs.Ytopemhgpdlbkjaa
namespace Go.Proofs.Ytopemhgpdlbkjaa
section
variable {F : GFv} {p m v g : Nat} {P M : Int} {mf : LI}
theorem pe_ex (K : GFk F p m v g) {x c t : Nat} (hx : x < p ^ m) (hc : 0 < c) (hm : m = c * t) : ∃ u, u <= t /\ Pe (Jq p m (dv p v)) (p ^ c) x u := by
 have hm0 := K.fv.m0; have ht : 0 < t := Nat.pos_of_ne_zero fun e => by rw [e, Nat.mul_zero] at hm; omega
 refine Pe.ex t ht ?_; rw [<- Nat.pow_mul, <- hm]; exact K.G.xq K.fv.ring hx
theorem Jmc {c t u x : Nat} (h : u <= t) : (orb p m v c t x).take u = orb p m v c u x := by
 unfold orb; rw [<- List.map_take, List.take_range, Nat.min_eq_left h]
theorem Jlh {x d : Int} {Q : LI × Int -> Prop} (K : GFk F p m v g) (h6 : ¬ IsD m d -> Q ([], 6)) (h : ∀ c t u : Nat, d = c -> 0 < c -> m = c * t -> u <= t -> Pe (Jq p m (dv p v)) (p ^ c) (inE (p ^ m) x) u -> Q (orb p m v c u (inE (p ^ m) x), 0)) : Jch F x d Q := by
 have hm8 := K.fv.m8; have R := K.fv.ring; have hx := JU R.pos x; refine Y7 K (fun c t e hc hm => ⟨fun h => absurd h (by decide), fun _ => ?_⟩) fun hn => ⟨fun _ => h6 hn, fun h => absurd h (by decide)⟩
 subst e; have ht : t <= m := by rw [hm]; exact Nat.le_mul_of_pos_left _ hc
 obtain ⟨u, hu, hP⟩ := pe_ex K hx hc hm; have hu0 := hP.pos; refine Jic K hc hm ⟨fun z => z = (u : Int), ⟨fun z => ∃ j : Nat, z = j /\ 1 <= j /\ j <= u, fun z => (u - z).toNat, ⟨1, rfl, Nat.le_refl 1, hu0⟩, ?_⟩, ?_⟩
 .rintro _ ⟨j, rfl, hj1, hj⟩; dsimp only; rw [Qg]; refine ⟨fun hlt => ⟨⟨by omega, by omega⟩, ⟨by omega, by omega⟩, ?_⟩, fun hge => by omega⟩; have e0 : gi (orb p m v c t (inE (p ^ m) x)) (0 : Int) = ((inE (p ^ m) x : Nat) : Int) := by
   show vo (orb p m v c t (inE (p ^ m) x)) 0 = _; rw [Jbo (by omega), Nat.mul_zero, R.fr_zero hx]
  have ej : gi (orb p m v c t (inE (p ^ m) x)) (j : Int) = ((pw (Jq p m (dv p v)) (inE (p ^ m) x) ((p ^ c) ^ j) : Nat) : Int) := by
   rw [Jy, Jbo (by omega), Nat.pow_mul]
  rw [e0, ej]; refine ⟨fun hne => ?_, fun he => ?_⟩
  .have : j ≠ u := fun e => hne (by rw [e, hP.back]); exact ⟨Jo (by omega) (by omega), ⟨j + 1, by push_cast; rfl, by omega, by omega⟩, by omega⟩
  .have he2 : pw (Jq p m (dv p v)) (inE (p ^ m) x) ((p ^ c) ^ j) = inE (p ^ m) x := Int.ofNat.inj (Decidable.not_not.1 he); have : ¬ j < u := fun hl => hP.no j hj1 hl he2; show (j : Int) = u; omega
 .rintro _ rfl; rw [Qg, Int.toNat_natCast, Jmc hu]; exact ⟨⟨by omega, by omega⟩, h c t u rfl hc hm hu hP⟩
theorem Jjw {x : Int} {Q : Int -> Prop} (K : GFk F p m v g) (h : ∀ u : Nat, u <= m -> Pe (Jq p m (dv p v)) p (inE (p ^ m) x) u -> Q (u : Int)) : YT F x Q := by
 refine Jlh K (fun hn => absurd ⟨1, m, rfl, by decide, by omega⟩ hn) fun c t u e hc hm hu hP => ?_; obtain rfl : c = 1 := by omega
 dsimp only; rw [Qg]; rw [Nat.pow_one] at hP; exact h u (by omega) hP
def Jcm (p m v c n : Nat) : LI := ((List.range n).filter (fun x => decide (pw (Jq p m (dv p v)) x (p ^ c) = x))).map (fun (a : Nat) => (a : Int))
theorem ZI (p m v c n : Nat) : Jcm p m v c (n + 1) = if pw (Jq p m (dv p v)) n (p ^ c) = n then Jcm p m v c n ++ [(n : Int)] else Jcm p m v c n := by
 unfold Jcm; rw [List.range_succ, List.filter_append, List.map_append]; by_cases h : pw (Jq p m (dv p v)) n (p ^ c) = n
 .rw [if_pos h]; congr 1; simp [h]
 .rw [if_neg h]; simp [h]
theorem Jez (p m v c : Nat) : ∀ n, (Jcm p m v c n).length <= n
 | 0 => Nat.le_refl 0
 | n + 1 => by
  have := Jez p m v c n; rw [ZI]; split
  .rw [List.length_append]; simp; omega
  .omega
theorem Jgm {d : Int} {Q : LI × Int -> Prop} (K : GFk F p m v g) (h6 : ¬ IsD m d -> Q ([], 6)) (h : ∀ c t : Nat, d = c -> 0 < c -> m = c * t -> Q (Jcm p m v c (p ^ m), 0)) : Yp F d Q := by
 have hm8 := K.fv.m8; have hq := K.fv.q; have R := K.fv.ring; refine Y7 K (fun c t e hc hm => ⟨fun h => absurd h (by decide), fun _ => ?_⟩) fun hn => ⟨fun _ => h6 hn, fun h => absurd h (by decide)⟩
 subst e; have hcm : c <= m := by
  have hm0 := K.fv.m0; have ht : 0 < t := Nat.pos_of_ne_zero fun e => by rw [e, Nat.mul_zero] at hm; omega
  rw [hm]; exact Nat.le_mul_of_pos_right _ ht
 show I64 F.q /\ _; rw [K.q, Int.toNat_natCast]; refine ⟨Jo (by omega) (by omega), fun i l => l = Jcm p m v c i, rfl, ?_, ?_⟩
 .rintro i hi _ rfl; have hl := Jez p m v c i; refine Jid K (by omega) ?_; rw [J4 hi]; refine ⟨fun he => ⟨by omega, ?_⟩, fun hne => ?_⟩
  .show _ = Jcm p m v c (i + 1); rw [ZI, if_pos (Int.ofNat.inj he)]
  .show _ = Jcm p m v c (i + 1); rw [ZI, if_neg (fun e => hne (by rw [e]))]
 .rintro _ rfl; exact h c t rfl hc hm
theorem fv24 : FV 2 4 [1, 1, 0, 0] 2 4 3 := ⟨rfl, rfl, ⟨by decide, rfl, fun e he _ => he⟩, by decide, by decide, by decide, fun h => absurd h (by decide), fun _ => by decide +kernel, (Jfj (by decide) (by decide)).1 (by decide +kernel)⟩
theorem Joc {Q : Bool -> Prop} (h : Q true) : Ja2 Q := by
 refine Joa (fun hn => absurd ⟨_, _, _, fv24⟩ hn) fun F p m v g K hF => ?_; obtain ⟨rfl, rfl, rfl⟩ := fv24.same hF; refine Jgm K (fun hn => absurd ⟨2, 2, rfl, by decide, rfl⟩ hn) fun c t e hc hm => ?_; obtain rfl : c = 2 := by omega
 refine Jn4 K (fun hn => absurd ⟨1, 4, rfl, by decide, rfl⟩ hn) fun c t e hc hm => ?_; obtain rfl : c = 1 := by omega
 obtain rfl : t = 4 := by omega
 have e1 : Jcm 2 4 3 2 (2 ^ 4) = [0, 1, 6, 7] := by kernel_rfl
 have e2 : trc (JZ 2 4) (Jq 2 4 (dv 2 3)) 2 1 4 (inE (2 ^ 4) 8) = 1 := by kernel_rfl
 dsimp only; rw [e1, e2]; refine ⟨fun _ => Jlg (by simp) ⟨fun _ => ⟨fun _ => ⟨fun _ => Jjw K fun u hu hP => ?_, fun hne => absurd rfl hne⟩, fun hne => absurd rfl hne⟩, fun hf => absurd hf (by decide)⟩, fun hne => absurd rfl hne⟩; have hb : inE (2 ^ 4) 2 = 2 := by kernel_rfl
 rw [hb] at hP; have h1 : pw (Jq 2 4 (dv 2 3)) 2 (2 ^ 1) = 4 := by kernel_rfl
 have h2 : pw (Jq 2 4 (dv 2 3)) 2 (2 ^ 2) = 3 := by kernel_rfl
 have h3 : pw (Jq 2 4 (dv 2 3)) 2 (2 ^ 3) = 5 := by kernel_rfl
 have hu0 := hP.pos; have hb := hP.back; have : u = 4 := by
  rcases (show u = 1 ∨ u = 2 ∨ u = 3 ∨ u = 4 by omega) with rfl | rfl | rfl | rfl
  .rw [h1] at hb; omega
  .rw [h2] at hb; omega
  .rw [h3] at hb; omega
  .rfl
 subst this; exact h
theorem nb {A B : Prop} (h : B) : ((!true) = true -> A) /\ ((!true) = false -> B) := ⟨fun e => absurd e (by decide), fun _ => h⟩
theorem nf {A B : Prop} (h : A) : ((!false) = true -> A) /\ ((!false) = false -> B) := ⟨fun _ => h, fun e => absurd e (by decide)⟩
end
end Go.Proofs.Ytopemhgpdlbkjaa
namespace Go.Proofs.Ytopemhgpdlbkjaa
section
variable {F : GFv} {p m v g : Nat} {P M : Int} {mf : LI}
theorem chz (hF : FV P M mf p m v) : ∀ x, x < p ^ m -> ns (JZ p m) x p = 0 := fun x hx => Jo0 (by have := hF.p2; omega) hx
end
end Go.Proofs.Ytopemhgpdlbkjaa
namespace Go.Proofs.Ytopemhgpdlbkjaa
section
variable {F : GFv} {p m v g : Nat} {P M : Int} {mf : LI}
theorem Jjl {m c t : Nat} (hm0 : 0 < m) (hm : m = c * t) : c <= m /\ t <= m := by
 have ht : 0 < t := Nat.pos_of_ne_zero fun e => by rw [e, Nat.mul_zero] at hm; omega
 have hc : 0 < c := Nat.pos_of_ne_zero fun e => by rw [e, Nat.zero_mul] at hm; omega
 exact ⟨by rw [hm]; exact Nat.le_mul_of_pos_right _ ht, by rw [hm]; exact Nat.le_mul_of_pos_left _ hc⟩
theorem orb_succ {c u x : Nat} : orb p m v c (u + 1) x = orb p m v c u x ++ [((pw (Jq p m (dv p v)) x (p ^ (c * u)) : Nat) : Int)] := by
 unfold orb; rw [List.range_succ, List.map_append]; rfl
theorem Jn8 {x : Int} {c t u : Nat} {Q : LI -> Prop} (K : GFk F p m v g) (hF : FV P M mf p m v) (hc : 0 < c) (hm : m = c * t) (hu : u <= t) (hP : Pe (Jq p m (dv p v)) (p ^ c) (inE (p ^ m) x) u) (h : Q (orb p m v c u (inE (p ^ m) x))) : Ja0 P M mf x (c : Int) Q := by
 have R := K.fv.ring; have hx := JU R.pos x; have hm8 := hF.m8; have hcm := Jjl hF.m0 hm; have hu0 := hP.pos; refine Jcx hF (Jdm K hF (by omega) ?_); rw [J4 hx]; refine ⟨fun l z => ∃ j : Nat, 1 <= j /\ j <= u /\ l = orb p m v c j (inE (p ^ m) x) /\ z = ((pw (Jq p m (dv p v)) (inE (p ^ m) x) (p ^ (c * j)) : Nat) : Int), fun l z => u - l.length, ⟨1, Nat.le_refl 1, hu0, ?_, by rw [Nat.mul_one]⟩, ?_⟩
 .unfold orb; simp [R.fr_zero hx, R.pw_one hx]
 rintro _ _ ⟨j, hj1, hj, rfl, rfl⟩; dsimp only; rw [Qg]; refine ⟨fun hne => ⟨by omega, Jdm K hF (by omega) ?_⟩, fun he => ?_⟩
 .have hju : j ≠ u := fun e => hne (by rw [e, Nat.pow_mul, hP.back]); rw [J4 (R.pw_lt _ _), R.fr_comp hx, <- Nat.mul_succ]; refine ⟨⟨j + 1, by omega, by omega, orb_succ.symm, rfl⟩, ?_⟩; rw [List.length_append, Qg, List.length_singleton]; omega
 .have he2 : pw (Jq p m (dv p v)) (inE (p ^ m) x) ((p ^ c) ^ j) = inE (p ^ m) x := by
   rw [<- Nat.pow_mul]; exact Int.ofNat.inj (Decidable.not_not.1 he)
  have : j = u := by
   rcases Nat.lt_or_ge j u with h1 | h1
   .exact absurd he2 (hP.no j hj1 h1)
   .omega
  rw [this]; exact h
end
end Go.Proofs.Ytopemhgpdlbkjaa
namespace Go.Proofs.Ytopemhgpdlbkjaa
open Ks
/-! ### minimal polynomials: the Frobenius map on polynomials -/
section
set_option linter.unusedSectionVars false
variable {α : Type} [Cr α] [Fd α]
theorem Jc8 {r r' : Nat -> α} : ∀ {n : Nat}, (∀ i, i < n -> r i = r' i) -> lpf r n = lpf r' n
 | 0, _ => rfl
 | n + 1, h => by
  show lpf r n * lin (r n) = lpf r' n * lin (r' n); rw [Jc8 fun i hi => h i (by omega), h n (by omega)]
theorem Jc7 (r : Nat -> α) : ∀ n, lpf r (n + 1) = lin (r 0) * lpf (fun i => r (i + 1)) n
 | 0 => by show (1 : Pl α) * lin (r 0) = lin (r 0) * 1; rw [Cr.one_mul, Cr.mul_one]
 | n + 1 => by
  show lpf r (n + 1) * lin (r (n + 1)) = lin (r 0) * (lpf (fun i => r (i + 1)) n * lin (r (n + 1)))
  rw [Jc7 r n, Cr.mul_assoc]
/-- the product does not change when the factors go round -/
theorem Jkh (r : Nat -> α) {n : Nat} (hn : 0 < n) (h : r n = r 0) : lpf (fun i => r (i + 1)) n = lpf r n := by
  obtain ⟨n, rfl⟩ : ∃ m, n = m + 1 := ⟨n - 1, by omega⟩
  rw [Jc7 r n]
  show lpf (fun i => r (i + 1)) n * lin (r (n + 1)) = _
  rw [h, Cr.mul_comm]
/-- a map that keeps sums and products -/
structure Hm (s : α -> α) : Prop where
  ad : ∀ a b, s (a + b) = s a + s b
  mu : ∀ a b, s (a * b) = s a * s b
  on : s 1 = 1
variable {s : α -> α}
theorem Hm.zero (h : Hm s) : s 0 = 0 := by
 have e := h.ad 0 0; rw [Cr.add_zero] at e; exact (Cr.add_left_cancel (x := s 0) (by rw [<- e, Cr.add_zero])).symm
theorem Hm.neg (h : Hm s) (a : α) : s (-a) = -(s a) := Cr.neg_uniq (by rw [<- h.ad, Cr.add_neg, h.zero])
theorem Hm.sgm (h : Hm s) (f : Nat -> α) : ∀ n, s (sgm f n) = Go.Proofs.Ytopemhgpdlbkjaa.sgm (fun i => s (f i)) n
 | 0 => h.zero
 | n + 1 => by
  show s (Go.Proofs.Ytopemhgpdlbkjaa.sgm f n + f n) = Go.Proofs.Ytopemhgpdlbkjaa.sgm (fun i => s (f i)) n + s (f n); rw [h.ad, h.sgm f n]
theorem Hm.pwr (h : Hm s) (a : α) : ∀ n, s (pwr a n) = Go.Proofs.Ytopemhgpdlbkjaa.pwr (s a) n
 | 0 => h.on
 | n + 1 => by
  show s (Go.Proofs.Ytopemhgpdlbkjaa.pwr a n * a) = Go.Proofs.Ytopemhgpdlbkjaa.pwr (s a) n * s a; rw [h.mu, h.pwr a n]
def mp (s : α -> α) (f : Pl α) : Pl α := fun i => s (f i)
theorem Hm.mp_mul (h : Hm s) (f g : Pl α) : mp s (f * g) = mp s f * mp s g := Pl.ext fun i => by
 show s ((f * g) i) = (mp s f * mp s g) i; rw [Pl.mul_at, Pl.mul_at, h.sgm]; exact JP fun j _ => h.mu _ _
theorem Hm.mp_lin (h : Hm s) (a : α) : mp s (lin a) = lin (s a) := Pl.ext fun i => by
 show s (if i = 0 then -a else if i = 1 then 1 else 0) = if i = 0 then -(s a) else if i = 1 then 1 else 0
 by_cases h0 : i = 0
 .rw [if_pos h0, if_pos h0, h.neg]
 .rw [if_neg h0, if_neg h0]; by_cases h1 : i = 1
  .rw [if_pos h1, h.on]
  .rw [if_neg h1, h.zero]
theorem Hm.mp_one (h : Hm s) : mp s (1 : Pl α) = 1 := Pl.ext fun i => by
 show s (if i = 0 then (1 : α) else 0) = if i = 0 then (1 : α) else 0
 by_cases h0 : i = 0
 .rw [if_pos h0, h.on]
 .rw [if_neg h0, h.zero]
theorem Hm.mp_lpf (h : Hm s) (r : Nat -> α) : ∀ n, mp s (lpf r n) = lpf (fun i => s (r i)) n
 | 0 => h.mp_one
 | n + 1 => by
  show mp s (lpf r n * lin (r n)) = lpf (fun i => s (r i)) n * lin (s (r n)); rw [h.mp_mul, h.mp_lpf r n, h.mp_lin]
/-- the coefficients of the product over an orbit are fixed -/
theorem Hm.fixed (h : Hm s) {r : Nat -> α} {n : Nat} (hn : 0 < n) (hr : ∀ i, s (r i) = r (i + 1)) (h0 : r n = r 0) (i : Nat) : s (lpf r n i) = lpf r n i := by
  have e := h.mp_lpf r n
  rw [show (fun i => s (r i)) = fun i => r (i + 1) from funext hr, Jkh r hn h0] at e
  exact congrFun e i
theorem Hm.vl (h : Hm s) {f : Pl α} {n : Nat} (hf : Su f n) (hfix : ∀ i, s (f i) = f i) (a : α) : vl_ f (s a) = s (vl_ f a) := by
 rw [Yv hf, Yv hf]; unfold evp; rw [h.sgm]; exact JP fun i _ => by rw [h.mu, hfix, h.pwr]
end
section
variable {P M : Int} {mf : LI} {k : Ks} {F : GFv}
/-- the Frobenius map -/
def fr (k : Ks) (c : Nat) (a : k.E) : k.E := ⟨pw (Jq k.p k.m (dv k.p k.v)) a.1 (k.p ^ c), k.R.pw_lt _ _⟩
theorem Jm1 (hF : FV P M mf k.p k.m k.v) (c : Nat) : Hm (fr k c) where
 ad a b := Subtype.ext (k.R.fr_add k.G hF.pr (chz hF) a.2 b.2 c)
 mu a b := Subtype.ext (k.R.fr_mul a.2 b.2 c)
 on := Subtype.ext (k.R.one_pw _)
/-- the orbit of an element -/
def rho (k : Ks) (c : Nat) (x : Int) (i : Nat) : k.E := ⟨pw (Jq k.p k.m (dv k.p k.v)) (inE (k.p ^ k.m) x) (k.p ^ (c * i)), k.R.pw_lt _ _⟩
theorem Je2 (c : Nat) (x : Int) (i : Nat) : fr k c (rho k c x i) = rho k c x (i + 1) := Subtype.ext (k.R.fr_comp (JU k.R.pos x) (c * i) c)
theorem Jbm (c : Nat) (x : Int) : rho k c x 0 = k.el x := Subtype.ext (by
 show pw (Jq k.p k.m (dv k.p k.v)) (inE (k.p ^ k.m) x) (k.p ^ (c * 0)) = inE (k.p ^ k.m) x; rw [Nat.mul_zero, k.R.fr_zero (JU k.R.pos x)])
theorem Jl6 {c u : Nat} {x : Int} (hP : Pe (Jq k.p k.m (dv k.p k.v)) (k.p ^ c) (inE (k.p ^ k.m) x) u) : rho k c x u = rho k c x 0 := by
 rw [Jbm]; refine Subtype.ext ?_; show pw (Jq k.p k.m (dv k.p k.v)) (inE (k.p ^ k.m) x) (k.p ^ (c * u)) = inE (k.p ^ k.m) x; rw [Nat.pow_mul]; exact hP.back
theorem Jom {c u : Nat} {x : Int} (hP : Pe (Jq k.p k.m (dv k.p k.v)) (k.p ^ c) (inE (k.p ^ k.m) x) u) {i j : Nat} (hij : i < j) (hj : j < u) : rho k c x i ≠ rho k c x j := fun e => by
 have h := hP.inj k.R (JU k.R.pos x) hij hj; have e' : pw (Jq k.p k.m (dv k.p k.v)) (inE (k.p ^ k.m) x) (k.p ^ (c * i)) = pw (Jq k.p k.m (dv k.p k.v)) (inE (k.p ^ k.m) x) (k.p ^ (c * j)) := congrArg Subtype.val e; rw [Nat.pow_mul, Nat.pow_mul] at e'; exact h e'
theorem Jos {c u i : Nat} {x : Int} (hi : i < u) : k.pol (Go.Proofs.Ytopemhgpdlbkjaa.orb k.p k.m k.v c u (inE (k.p ^ k.m) x)) i = rho k c x i := by
 show k.el (vo _ i) = _; rw [Jbo hi]; exact Subtype.ext (J4 (k.R.pw_lt _ _))
/-- the minimal polynomial -/
noncomputable def mpl (k : Ks) (c u : Nat) (x : Int) : Pl k.E := lpf (rho k c x) u
end
end Go.Proofs.Ytopemhgpdlbkjaa
namespace Go.Proofs.Ytopemhgpdlbkjaa
open Ks
/-! ### the law of minimal polynomials -/
section
variable {P M : Int} {mf : LI} {k : Ks} {F : GFv}
theorem mpl_dg (c u : Nat) (x : Int) : Dg (mpl k c u x) u := lpf_dg _ _
theorem Jiv {c u : Nat} {x : Int} : lpf (k.pol (Go.Proofs.Ytopemhgpdlbkjaa.orb k.p k.m k.v c u (inE (k.p ^ k.m) x))) u = mpl k c u x := Jc8 fun i hi => Jos hi
theorem Jjy {x d : Int} {Q : LI × Int -> Prop} (K : GFk F k.p k.m k.v k.g) (hm8 : k.m <= 8) (h6 : ¬ IsD k.m d -> Q ([], 6)) (h : ∀ c t u : Nat, d = c -> 0 < c -> k.m = c * t -> u <= t -> Pe (Jq k.p k.m (dv k.p k.v)) (k.p ^ c) (inE (k.p ^ k.m) x) u -> Q (k.L (mpl k c u x), 0)) : YX F x d Q := by
 refine Jlh K (fun hn => ⟨fun _ => h6 hn, fun c => absurd (by decide) c⟩) fun c t u e hc hm hu hP => ⟨fun c => absurd rfl c, fun _ => ?_⟩
 have hcm := Jjl k.m0 hm; refine Jeq K (by rw [Qg]; omega) ?_; rw [Qg, Jiv]; exact h c t u e hc hm hu hP
theorem Jgn {x : Int} {c t u : Nat} {Q : LI -> Prop} (K : GFk F k.p k.m k.v k.g) (hF : FV P M mf k.p k.m k.v) (hm8 : k.m <= 8) (hc : 0 < c) (hm : k.m = c * t) (hu : u <= t) (hP : Pe (Jq k.p k.m (dv k.p k.v)) (k.p ^ c) (inE (k.p ^ k.m) x) u) (h : Q (k.L (mpl k c u x))) : Yq P M mf x (c : Int) Q := by
 have hcm := Jjl k.m0 hm; refine ⟨_, Jn8 K hF hc hm hu hP rfl, _, Jdl hF (by rw [Qg]; omega) rfl, ?_⟩; rw [Qg, Jiv]; exact h
theorem Jms {c u : Nat} {x : Int} (hu : 0 < u) : vl_ (mpl k c u x) (k.el x) = 0 := (Jdo _ _ u).2 ⟨0, hu, Jbm c x⟩
theorem Jkg (hF : FV P M mf k.p k.m k.v) {c u : Nat} {x : Int} (hP : Pe (Jq k.p k.m (dv k.p k.v)) (k.p ^ c) (inE (k.p ^ k.m) x) u) (i : Nat) : fr k c (mpl k c u x i) = mpl k c u x i :=
 (Jm1 hF c).fixed hP.pos (Je2 c x) (Jl6 hP) i
/-- a polynomial over the subfield that is 0 at the element is a multiple -/
theorem mpl_dv (hF : FV P M mf k.p k.m k.v) {c u : Nat} {x : Int} (hP : Pe (Jq k.p k.m (dv k.p k.v)) (k.p ^ c) (inE (k.p ^ k.m) x) u) {f : Pl k.E} {n : Nat} (hf : Su f n) (hfix : ∀ i, fr k c (f i) = f i) (h0 : vl_ f (k.el x) = 0) : Dv (mpl k c u x) f := by
  have hm := Jm1 hF c
  have hv : ∀ i, vl_ f (rho k c x i) = 0 := fun i => by
    induction i with
    | zero => rw [Jbm]; exact h0
    | succ i ih => rw [<- Je2, hm.vl hf hfix, ih, hm.zero]
  refine Jmt ⟨n, hf⟩ _ u (fun i _ => hv i) fun i j hij hj => Jom hP hij hj
theorem vo_gi (l : LI) (i : Nat) : gi l (i : Int) = vo l i := rfl
theorem ZQ (x d : Int) (p : LI) : QV P M mf x d p (fun b => b = true) := by
 have one : ∀ {A B : Prop} {a : Int}, A -> ((a = a -> A) /\ (¬ (a = a) -> B)) := fun h => ⟨fun _ => h, fun c => absurd rfl c⟩
 have nz : ∀ {A B : Prop}, B -> (((0 : Int) ≠ 0 -> A) /\ (¬ ((0 : Int) ≠ 0) -> B)) := fun h => ⟨fun c => absurd rfl c, fun _ => h⟩
 refine Joc (nb (w_made (fun _ => rfl) fun F k K hF => ⟨fun _ => rfl, fun hp => ?_⟩)); have hm8 := hF.m8; refine Jjy K hm8 (fun hn => ?_) fun c t u e hc hm hu hP => ?_
 .exact Ja4 hF (fun c t e hc hm => absurd ⟨c, t, e, hc, hm⟩ hn) fun _ => nf (one (decide_eq_true rfl))
 refine Ja4 hF (fun c' t' e' hc' hm' => nb (nz ?_)) fun hn => absurd ⟨c, t, e, hc, hm⟩ hn; subst e; have hcm := Jjl k.m0 hm; have hu0 := hP.pos; have hdg := mpl_dg (k := k) c u x; have hL := L_dg hdg; have hpol : k.pol (k.L (mpl k c u x)) = mpl k c u x := pol_L hdg.fs; refine Jgn K hF hm8 hc hm hu hP (Job (by omega) ?_); rw [decide_eq_true rfl]; refine nb (Jib hF (by omega) ?_); rw [hpol, Jms hu0]; refine nz ⟨fun z => 0 <= z, fun z => (((k.L (mpl k c u x)).length : Nat) - z : Int).toNat, by omega, fun z hz => ⟨fun hlt => ⟨⟨hz, hlt⟩, w_rin K hF (by omega) ?_⟩, fun hge => ?_⟩⟩
 .obtain ⟨i, rfl⟩ := Int.eq_ofNat_of_zero_le hz; have h1 : pw (Jq k.p k.m (dv k.p k.v)) (mpl k c u x i).1 (k.p ^ c) = (mpl k c u x i).1 := congrArg Subtype.val (Jkg hF hP i); have h2 : inE (k.p ^ k.m) (gi (k.L (mpl k c u x)) (i : Int)) = (mpl k c u x i).1 := by
   rw [vo_gi, L_at hdg.fs]; exact J4 (mpl k c u x i).2
  rw [show ((i : Nat) : Int) = (i : Int) from rfl, h2, decide_eq_true h1]; exact nb ⟨Jo (by omega) (by omega), by omega, by show (((k.L (mpl k c u x)).length : Nat) - ((i : Int) + 1) : Int).toNat < (((k.L (mpl k c u x)).length : Nat) - (i : Int) : Int).toNat; omega⟩
 refine ⟨fun z => ∃ j : Nat, z = j /\ ∀ i, i < j -> i < p.length -> fr k c (k.pol p i) = k.pol p i, fun z => ((p.length : Nat) - z : Int).toNat, ⟨0, rfl, fun i hi => by omega⟩, ?_⟩; rintro _ ⟨j, rfl, hj⟩; refine ⟨fun hlt => ⟨⟨by omega, hlt⟩, w_rin K hF (by omega) ?_⟩, fun hge => Jib hF (by omega) ?_⟩
 .by_cases hx : pw (Jq k.p k.m (dv k.p k.v)) (inE (k.p ^ k.m) (gi p (j : Int))) (k.p ^ c) = inE (k.p ^ k.m) (gi p (j : Int))
  .rw [decide_eq_true hx]; refine nb ⟨Jo (by omega) (by omega), ⟨j + 1, by push_cast; rfl, fun i hi hil => ?_⟩, by show ((p.length : Nat) - ((j : Int) + 1) : Int).toNat < ((p.length : Nat) - (j : Int) : Int).toNat; omega⟩; by_cases ei : i = j
   .subst ei; exact Subtype.ext hx
   .exact hj i (by omega) hil
  .rw [decide_eq_false hx]; exact nf rfl
 .by_cases h0 : vl_ (k.pol p) (k.el x) = 0
  .rw [h0]; refine nz (w_rrem hF (by omega) (by omega) (by rw [hpol]; exact hdg.ne) (decide_eq_true ?_)); rw [hpol]; have hfix : ∀ i, fr k c (k.pol p i) = k.pol p i := fun i => by
    by_cases hi : i < p.length
    .exact hj i (by omega) hi
    .rw [pol_su p i (by omega), (Jm1 hF c).zero]
   have hdv := mpl_dv hF hP (pol_su p) hfix h0; have hr : rm (k.pol p) (mpl k c u x) = 0 := (Jol (pol_fs p) hdg).1 hdv; rw [hr, L_zero]; rfl
  .exact ⟨fun _ => rfl, fun c => absurd (co_eq0.1 (Classical.byContradiction fun d => c d)) h0⟩
end
end Go.Proofs.Ytopemhgpdlbkjaa
