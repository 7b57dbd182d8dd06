/- Contracts of functions of the program, and what they lean on: M3, M4, M5, M6, M7, M8, M9, M10, M11, M12, M13, M14, M15, M16, M17, M18, M19, M20, M21, M22, M23, M24, S1, S2, S3, S4, S5, S6, S7, S9, S10, C1, C2, C3, C4, C5, C6, C7, C8, C9, C10, C11, C12. -/
import Derived.Test.YtjgpkljepgcekaaGreatClassicSymmetryG8
set_option linter.unusedVariables false
set_option linter.unusedSimpArgs false
namespace Go.Proofs.YtjgpkljepgcekaaGreat
section
variable {p m v n w wy : Nat}
theorem Jml {q : Nat} (h : q < p ^ m) : El p m (q : Int) := ⟨by omega, by omega⟩
theorem Jcx {l : LI} (h : Elr p m l) {t : Nat} (ht : t < l.length) : El p m (vo l t) := h _ (Jce ht)
theorem Qg {X : LL} (h : Els p m X) (t : Nat) : Elr p m (row X t) := by
 rcases Nat.lt_or_ge t X.length with ht | ht
 .exact h _ (Jaa ht)
 .rw [row_hi ht]; exact fun x hx => by cases hx
theorem Ja9 {X : LL} (h : ∀ t, t < X.length -> Elr p m (row X t)) : Els p m X := fun r hr => by
 obtain ⟨t, ht, rfl⟩ := Jad hr; exact h t ht
theorem Jmk {l : LI} (h : ∀ t, t < l.length -> El p m (vo l t)) : Elr p m l := fun x hx => by
 obtain ⟨t, ht, rfl⟩ := Jl4 hx; exact h t ht
theorem Ju3 (hp : 0 < p) {x : Int} {l : LI} : Elr p m (sc p m v x l) := Jmk fun t ht => by
 rw [Jci] at ht; rw [Jd5 ht]; exact Jml (Jhp hp _ _)
theorem Jze (hp : 0 < p) {a o : LI} {x : Int} (ha : Elr p m a) : Elr p m (adm p m v a x o) := Jmk fun t ht => by
 rw [Jb1] at ht; rw [ZJ ht]; split
 .exact Jcx ha ht
 .exact Jml (Jpp hp _ _)
theorem Jh0 (hp : 0 < p) {a o : LI} {x : Int} (ha : Elr p m a) : Elr p m (adx p m v a x o) := by
 unfold adx; split
 .exact ha
 .exact Jze hp ha
theorem Jhq (hp : 0 < p) {c r cur : Nat} {S : ES} (h : Els p m S.X) (hr : r < S.X.length) (hc : cur < S.X.length) : Els p m (es1 p m v c r cur S).X := by
 rw [Ja3]; have h1 : Els p m (swq S.X r cur) := Ja9 fun t ht => by
  rw [JS] at ht; unfold swq; split
  .exact Qg h t
  .rw [Zn hr hc]; split
   .exact Qg h _
   .split <;> exact Qg h _
 have h2 : ∀ e, Els p m (scq p m v (swq S.X r cur) cur e) := fun e => Ja9 fun t ht => by
  unfold scq; rw [Qv]; split
  .exact Ju3 hp
  .exact Qg h1 t
 refine Ja9 fun t ht => ?_; rw [Yz] at ht; rw [YN ht]; split
 .exact Qg (h2 _) t
 .exact Jh0 hp (Qg (h2 _) t)
theorem Jrk (hp : 0 < p) {c : Nat} {S : ES} (h : Els p m S.X) : Els p m (QV p m v S c).X := by
 unfold QV; split
 .rename_i hc; exact Jhq hp h hc.2 hc.1
 .exact h
theorem ZR (hp : 0 < p) {S : ES} (h : Els p m S.X) : ∀ k, Els p m (elim p m v k S).X
 | 0 => h
 | k + 1 => by rw [QD]; exact Jrk hp (ZR hp h k)
end
section
variable {F : GFv} {p m v g : Nat} {P M : Int} {mf : LI} {X Y : LL}
theorem Jct {x : Int} (h : El p m x) : ((inE (p ^ m) x : Nat) : Int) = x := by
 unfold inE; rw [if_pos (show 0 <= x /\ x < ((p ^ m : Nat) : Int) from h)]; have := h.1; omega
theorem Jhg (hF : FV P M mf p m v) {x : Int} (h : El p m x) : Ng p m x = 0 ↔ x = 0 := by
 have R := hF.ring; have hp := hF.p2; have hx := JQ (q := p ^ m) (by have := R.q2; omega) x; have h1 := Yd (p := p) (m := m) (by omega) hx; constructor
 .intro h0; have h2 : QP p m (inE (p ^ m) x) = 0 := Int.ofNat.inj h0; rw [h2, R.Az hx] at h1; rw [<- Jct h, h1]; rfl
 .intro h0; have h3 : inE (p ^ m) x = 0 := by rw [h0]; unfold inE; split <;> rfl
  rw [h3] at h1; show ((QP p m (inE (p ^ m) x) : Nat) : Int) = 0; rw [h3]; have h4 : QP p m 0 < p ^ m := Yl (by omega) 0; have h5 : JU p m 0 (QP p m 0) = QP p m 0 := by rw [R.Ac, R.Az h4]
  rw [h5] at h1; rw [h1]; rfl
theorem ml_one (hF : FV P M mf p m v) {x : Int} (h : El p m x) : Ml p m v 1 x = x := by
 have R := hF.ring; have hq := R.q2; have hx := JQ (q := p ^ m) (by omega) x; unfold Ml; rw [show inE (p ^ m) (1 : Int) = 1 from Qi (x := 1) (by omega), R.Mc (by omega) hx, R.M1 hx]; exact Jct h
theorem Jvu (hF : FV P M mf p m v) : Iv p m v 1 = 1 := by
 have R := hF.ring; have hq := R.q2; have e1 : inE (p ^ m) (1 : Int) = 1 := Qi (x := 1) (by omega); exact Jqi R (z := 1) (by rw [e1]; omega) (by omega) (by rw [e1]; exact R.M1 (by omega))
theorem Ju2 (hF : FV P M mf p m v) {l : LI} (h : Elr p m l) : sc p m v 1 l = l := Yx (Jci _ _) fun i hi => by
 rw [Jci] at hi; rw [Jd5 hi, ml_one hF (Jcx h hi)]
theorem w_rInv {x : Int} {Q : Int -> Prop} (hF : FV P M mf p m v) (h : Q (Iv p m v x)) : Jib P M mf x Q := by
 have hq := hF.q; have R := hF.ring; have hq2 := R.q2; have hxl := JQ (q := p ^ m) (by omega) x; refine ⟨fun z => ∃ n : Nat, z = n /\ 1 <= n /\ n <= p ^ m /\ ∀ k, k < n -> Jv p m (dv p v) (inE (p ^ m) x) k ≠ 1, fun z => (((p ^ m : Nat) : Int) - z).toNat, ⟨1, rfl, Nat.le_refl 1, by omega, fun k hk => by
  rw [show k = 0 by omega, R.M0 hxl]; omega⟩, ?_⟩
 rintro _ ⟨n, rfl, hn1, hn, hk⟩; refine Jd8 ?_; rw [hF.ord]; dsimp only; refine ⟨fun hlt => Jld hF ?_, fun hge => ?_⟩
 .have hnq : n < p ^ m := Int.ofNat_lt.1 hlt; rw [Qi hnq]; refine ⟨fun he => ?_, fun hne => ⟨Jq (by omega) (by omega), ⟨n + 1, by push_cast; rfl, by omega, by omega, fun k hk' => ?_⟩, by omega⟩⟩
  .have h1 : Jv p m (dv p v) (inE (p ^ m) x) n = 1 := Int.ofNat.inj he; rw [<- Jqi R hxl hnq (by rw [R.Mc hnq hxl]; exact h1)]; exact h
  .rcases Nat.lt_or_ge k n with h | h
   .exact hk k h
   .rw [show k = n by omega]; exact fun e => hne (by rw [e]; rfl)
 .have e : Iv p m v x = 0 := by
   unfold Iv; cases hf : (List.range (p ^ m)).find? fun z => Jv p m (dv p v) z (inE (p ^ m) x) == 1 with
   | none => rfl
   | some y =>
    have h1 := List.find?_some hf; have h2 := List.mem_range.1 (List.mem_of_find?_eq_some hf); have h1' : Jv p m (dv p v) y (inE (p ^ m) x) = 1 := by simpa using h1
    exact absurd (by rw [R.Mc hxl h2]; exact h1') (hk y (by omega))
  rw [e] at h; exact h
theorem Jfg {cols W wy : Nat} {d0 : Int} {Q : LL × LI -> Prop} (hF : FV P M mf p m v) (hX : X.length <= 300) (hc : cols <= W) (hW : W <= 1000) (hS : Shp X.length W wy ⟨X, Y, [], d0⟩) (hE : Els p m X)
  (h : Q ((elim p m v cols ⟨X, Y, [], d0⟩).X, (elim p m v cols ⟨X, Y, [], d0⟩).pv)) : QR P M mf X cols Q := by
 have hp2 := hF.p2; have hE0 : ∀ k, Els p m (elim p m v k ⟨X, Y, [], d0⟩).X := ZR (by omega) hE; have hXr : ∀ r ∈ X, r.length <= 1000000 := fun r hr => by
  obtain ⟨t, ht, rfl⟩ := Jad hr; have := hS.xr t ht; simp only at this; omega
 refine Jxt (by omega) hXr ?_; generalize hS0 : (⟨X, Y, [], d0⟩ : ES) = S0 at h hS hE0; have hX0 : X = S0.X := by rw [<- hS0]
 have hP0 : ([] : LI) = S0.pv := by rw [<- hS0]
 refine ⟨fun a c => a = (elim p m v cols S0).X /\ c = (elim p m v cols S0).pv, ⟨fun a c z y => ∃ k : Nat, y = k /\ k <= cols /\ a = (elim p m v k S0).X /\ c = (elim p m v k S0).pv /\ z = ((elim p m v k S0).pv.length : Nat), fun _ _ _ y => (cols - y).toNat, ⟨0, rfl, Nat.zero_le _, hX0, hP0, by show (0 : Int) = ((S0.pv.length : Nat) : Int); rw [<- hP0]; rfl⟩, ?_⟩, ?_⟩
 .rintro _ _ _ _ ⟨k, rfl, hk, rfl, rfl, rfl⟩; have hs := YG (p := p) (m := m) (v := v) hS k; have hstop := Jcy (p := p) (m := m) (v := v) (S := S0) (k := k); have hsucc := QD (p := p) (m := m) (v := v) k S0; have hek := hE0 k; generalize hSk : elim p m v k S0 = S at *
  have hal := hs.xl; have har := hs.xr; have hpl := hs.pl; refine ⟨fun hlt => ⟨fun hlc => ?_, fun hge => ?_⟩, fun hge => ?_⟩
  .have hcur : S.pv.length < X.length := by omega
   have hkc : k < cols := by omega
   have hsp := Zq S.X k S.pv.length (by omega); refine ⟨fun pv x z _ _ _ _ => x = (elim p m v (k + 1) S0).X /\ pv = (elim p m v (k + 1) S0).pv /\ z = ((elim p m v (k + 1) S0).pv.length : Nat), ⟨fun r _ _ => r = ((nz S.X k S.pv.length : Nat) : Int), ⟨fun z _ => ∃ t : Nat, z = t /\ S.pv.length <= t /\ t <= X.length /\ ∀ s, S.pv.length <= s -> s < t -> vo (row S.X s) k = 0, fun z _ => (X.length - z).toNat, ⟨_, rfl, Nat.le_refl _, by omega, fun s h1 h2 => by omega⟩, ?_⟩, ?_⟩, ?_⟩
   .rintro _ _ ⟨t, rfl, h1, h2, h3⟩; dsimp only; refine ⟨fun hlt2 => ⟨⟨by omega, by omega⟩, ⟨by omega, by show (k : Int) < ((row S.X t).length : Nat); rw [har t (by omega)]; omega⟩, fun he => ⟨Jq (by omega) (by omega), ⟨t + 1, by push_cast; rfl, by omega, by omega, fun s hs1 hs2 => ?_⟩, by omega⟩, fun hne => ?_⟩, fun hge2 => ?_⟩
    .rcases Nat.lt_or_ge s t with h | h
     .exact h3 s hs1 h
     .rw [show s = t by omega]; exact he
    .exact congrArg _ (Jjl h1 (by omega) h3 fun _ => hne)
    .exact congrArg _ (Jjl h1 (by omega) h3 fun h => by omega)
   .rintro _ _ _ rfl; refine ⟨fun heq => ?_, fun hne => ?_⟩
    .have e : elim p m v (k + 1) S0 = S := by
      rw [hsucc]; unfold QV; rw [if_neg (fun hh => by have := hh.2; omega)]
     rw [e]; exact ⟨rfl, rfl, rfl⟩
    .have hr : nz S.X k S.pv.length < X.length := by have := hsp.1; omega
     have hge := Jpd S.X k S.pv.length; generalize hrr : nz S.X k S.pv.length = r at hr hge hsp; rw [show QV p m v S k = es1 p m v k r S.pv.length S by unfold QV; rw [if_pos ⟨by omega, by omega⟩, <- hrr]] at hsucc; have hsw : sll (sll S.X ((S.pv.length : Nat) : Int) (gl S.X (r : Int))) (r : Int) (gl S.X ((S.pv.length : Nat) : Int)) = swq S.X r S.pv.length := by
      show swp S.X S.pv.length r = _; unfold swq; split
      .rename_i e; rw [e]; exact Juv (by omega)
      .exact Juw (by omega) (by omega)
     refine ⟨True, ⟨⟨by omega, by omega⟩, ⟨by omega, by omega⟩, ⟨by omega, by omega⟩, ⟨by omega, by omega⟩, trivial⟩, fun _ => ?_⟩; rw [hsw]; have hx1 : ∀ t, t < X.length -> (row (swq S.X r S.pv.length) t).length = W := fun t ht => QH (by omega) (by omega) (fun t ht => har t (by omega)) (by omega); have hl1 := JS S.X r S.pv.length; have hes : Els p m (es1 p m v k r S.pv.length S).X := Jhq (by omega) hek (by omega) (by omega); have hxs := Ja3 (p := p) (m := m) (v := v) k r S.pv.length S; have hps : (es1 p m v k r S.pv.length S).pv = S.pv ++ [(k : Int)] := rfl; have hel1 : Els p m (swq S.X r S.pv.length) := Ja9 fun t ht => by
      rw [JS] at ht; unfold swq; split
      .exact Qg hek t
      .rw [Zn (by omega) (by omega)]; split
       .exact Qg hek _
       .split <;> exact Qg hek _
     generalize swq S.X r S.pv.length = x1 at *
     refine ⟨⟨by omega, by omega⟩, ⟨by omega, by show (k : Int) < ((row x1 S.pv.length).length : Nat); rw [hx1 _ hcur]; omega⟩, fun x => x = scq p m v x1 S.pv.length (vo (row x1 S.pv.length) k), ⟨fun hne1 => ⟨⟨by omega, by omega⟩, ⟨by omega, by show (k : Int) < ((row x1 S.pv.length).length : Nat); rw [hx1 _ hcur]; omega⟩, _, w_rInv hF rfl, ⟨by omega, by omega⟩, _, Jt4 hF (by show (row x1 S.pv.length).length <= 1000; rw [hx1 _ hcur]; omega) rfl, ⟨by omega, by omega⟩, rfl⟩, fun he1 => ?_⟩, ?_⟩
     .have he2 : vo (row x1 S.pv.length) k = 1 := Classical.not_not.1 he1; unfold scq; rw [he2, Jvu hF, Ju2 hF (Qg hel1 _)]; refine (QF (by rw [List.length_set]) fun i hi => ?_).symm; rw [Qv]; split
      .rename_i h; rw [h.1]
      .rfl
     .rintro _ rfl; have hx2 : ∀ t, t < X.length -> (row (scq p m v x1 S.pv.length (vo (row x1 S.pv.length) k)) t).length = W := fun t ht => QJ (by omega) (fun t ht => hx1 t (by omega)) (by omega); have hl3 := Qp (p := p) (m := m) (v := v) x1 S.pv.length (vo (row x1 S.pv.length) k); have hel2 : Els p m (scq p m v x1 S.pv.length (vo (row x1 S.pv.length) k)) := Ja9 fun t ht => by
       unfold scq; rw [Qv]; split
       .exact Ju3 (by omega)
       .exact Qg hel1 t
      generalize scq p m v x1 S.pv.length (vo (row x1 S.pv.length) k) = x2 at *
      generalize hf : (fun t => Ng p m (vo (row x2 t) k)) = f at *
      refine ⟨fun x z => ∃ t : Nat, z = t /\ t <= X.length /\ x = prt p m v f S.pv.length t x2, fun x z => (X.length - z).toNat, ⟨0, rfl, Nat.zero_le _, (Jek _ _).symm⟩, ?_⟩; rintro _ _ ⟨t, rfl, ht, rfl⟩; refine ⟨fun hlt2 => ?_, fun hge2 => ?_⟩
      .have htX : t < X.length := by omega
       have hg1 : gl (prt p m v f S.pv.length t x2) (t : Int) = row x2 t := by
        show row (prt p m v f S.pv.length t x2) t = _; rw [QO (by omega), if_neg (by omega)]
       have hg3 : gl (prt p m v f S.pv.length t x2) ((S.pv.length : Nat) : Int) = row x2 S.pv.length := by
        show row (prt p m v f S.pv.length t x2) S.pv.length = _; rw [QO (by omega), if_neg (by omega)]
       rw [hg1, hg3]; have hft : Ng p m (gi (row x2 t) (k : Int)) = f t := by rw [<- hf]; rfl
       have hent : El p m (vo (row x2 t) k) := Jcx (Qg hel2 t) (by rw [hx2 t htX]; omega); have hz := Jhg hF hent; refine ⟨fun x _ => x = prt p m v f S.pv.length (t + 1) x2, ⟨fun hne2 => ?_, fun he2 => ?_⟩, ?_⟩
       .have hne3 : t ≠ S.pv.length := fun e => hne2 (by rw [e]); refine ⟨⟨by omega, by omega⟩, ⟨by omega, by rw [hx2 t htX]; omega⟩, fun hnz => ?_, fun hnz => ?_⟩
        .refine ⟨⟨by omega, by omega⟩, ⟨by omega, by omega⟩, ⟨by omega, by rw [hx2 t htX]; omega⟩, _, v_rNeg hF rfl, ⟨by omega, by omega⟩, _, Jin hF (by rw [hx2 t htX, hx2 _ hcur]; exact Nat.le_refl _) (by rw [hx2 t htX]; omega) rfl, ⟨by omega, by omega⟩, ?_⟩; rw [<- Jbo (by omega) hne3, <- hft]; show _ = (prt p m v f S.pv.length t x2).set t (adx p m v (row x2 t) (Ng p m (vo (row x2 t) k)) (row x2 S.pv.length)); unfold adx; rw [if_neg (fun h0 => hnz (hz.1 h0))]; rfl
        .have hnz' : vo (row x2 t) k = 0 := Classical.not_not.1 hnz; rw [<- Jbo (by omega) hne3, <- hft]; show prt p m v f S.pv.length t x2 = (prt p m v f S.pv.length t x2).set t (adx p m v (row x2 t) (Ng p m (vo (row x2 t) k)) (row x2 S.pv.length)); unfold adx; rw [if_pos (hz.2 hnz')]; refine QF (by rw [List.length_set]) fun i hi => ?_; rw [Qv]; split
         .rename_i hh; rw [<- hh.1]; exact hg1
         .rfl
       .have he3 : t = S.pv.length := by have := Classical.not_not.1 he2; omega
        subst he3; exact prt_same.symm
       .rintro _ _ rfl; refine ⟨Jq (by omega) (by omega), ⟨t + 1, by push_cast; rfl, by omega, rfl⟩, ?_⟩; show ((X.length : Int) - ((t : Int) + 1)).toNat < ((X.length : Int) - (t : Int)).toNat; omega
      .have hte : t = X.length := by omega
       subst hte; have e1 := Jgy (p := p) (m := m) (v := v) (X := x2) f S.pv.length; rw [show x2.length = X.length by omega] at e1; refine ⟨by omega, Jq (by omega) (by omega), ?_⟩; rw [hsucc, e1, hxs, hps]; exact ⟨rfl, rfl, by rw [List.length_append]; simp⟩
   .rintro _ _ _ _ _ _ _ ⟨rfl, rfl, rfl⟩; refine ⟨Jq (by omega) (by omega), ⟨k + 1, by push_cast; rfl, by omega, rfl, rfl, rfl⟩, ?_⟩; show ((cols : Int) - ((k : Int) + 1)).toNat < ((cols : Int) - (k : Int)).toNat; omega
  .have hst := hstop (by omega) (cols - k); rw [show k + (cols - k) = cols by omega] at hst; rw [hst]; exact ⟨rfl, rfl⟩
  .have hkc : k = cols := by omega
   subst hkc; exact ⟨by rw [hSk], by rw [hSk]⟩
 .rintro _ _ ⟨rfl, rfl⟩; exact h
theorem Jgk {cols wy : Nat} {d0 : Int} {Q : LL × LI -> Prop} (hF : FV P M mf p m v) (hX : X.length <= 300) (hc : cols <= 300) (hS : Shp X.length cols wy ⟨X, Y, [], d0⟩) (hE : Els p m X)
 (h : Q ((elim p m v cols ⟨X, Y, [], d0⟩).X, (elim p m v cols ⟨X, Y, [], d0⟩).pv)) : QR P M mf X cols Q := Jfg hF hX (Nat.le_refl _) (by omega) hS hE h
end
end Go.Proofs.YtjgpkljepgcekaaGreat
namespace Go.Proofs.YtjgpkljepgcekaaGreat
section
variable {F : GFv} {p m v g : Nat} {P M : Int} {mf : LI} {X Y : LL} {C : Int}
def Jt2 (P M : Int) (mf : LI) (X : LL) : Prop := ∃ p m v, FV P M mf p m v /\ Els p m X
open Classical in
noncomputable def mck (P M : Int) (mf : LI) (C : Int) (X : LL) : Int := if ¬ Yv P M mf then 1 else if ¬ shp C X then 3 else if ¬ Jt2 P M mf X then 2 else 0
theorem FV.uniq {p' m' v' : Nat} (h : FV P M mf p m v) (h' : FV P M mf p' m' v') : p = p' /\ m = m' := ⟨by have := h.eP; have := h'.eP; omega, by have := h.eM; have := h'.eM; omega⟩
theorem QW (h : FV P M mf p m v) : Jt2 P M mf X ↔ Els p m X := ⟨fun ⟨p', m', v', h1, h2⟩ => by obtain ⟨rfl, rfl⟩ := h.uniq h1; exact h2, fun h2 => ⟨p, m, v, h, h2⟩⟩
theorem Jhh (h : ¬ Yv P M mf) : mck P M mf C X = 1 := if_pos h
theorem Jae (h : Yv P M mf) (hs : ¬ shp C X) : mck P M mf C X = 3 := by unfold mck; rw [if_neg (fun hh => hh h), if_pos hs]
theorem Jdw (h : Yv P M mf) (hs : shp C X) (he : ¬ Jt2 P M mf X) : mck P M mf C X = 2 := by unfold mck; rw [if_neg (fun hh => hh h), if_neg (fun hh => hh hs), if_pos he]
theorem Jcs (h : Yv P M mf) (hs : shp C X) (he : Jt2 P M mf X) : mck P M mf C X = 0 := by unfold mck; rw [if_neg (fun hh => hh h), if_neg (fun hh => hh hs), if_neg (fun hh => hh he)]
theorem Jet (h : mck P M mf C X = 0) : Yv P M mf /\ shp C X /\ Jt2 P M mf X := by
 by_cases h1 : Yv P M mf
 .by_cases h2 : shp C X
  .by_cases h3 : Jt2 P M mf X
   .exact ⟨h1, h2, h3⟩
   .rw [Jdw h1 h2 h3] at h; exact absurd h (by decide)
  .rw [Jae h1 h2] at h; exact absurd h (by decide)
 .rw [Jhh h1] at h; exact absurd h (by decide)
theorem Jgt (h : shp C X) : X.length <= 256 := h.2.2.1
theorem Yy (h : shp C X) {t : Nat} (ht : t < X.length) : (row X t).length = C.toNat := by
 have := h.2.2.2 _ (Jaa ht); have := h.1; omega
noncomputable def Jg3 (P M : Int) (mf : LI) : List Mt -> Int
  | [] => 0
  | (C, X) :: ms => if mck P M mf C X = 0 then Jg3 P M mf ms else mck P M mf C X
theorem w_open {ms : List Mt} {Q : Option GFv × Int -> Prop} (hl : ms.length <= 1000) (hno : ¬ Yv P M mf -> Q (none, 1))
  (h : ∀ (F : GFv) (p m v g : Nat), GFk F p m v g -> FV P M mf p m v -> Jg3 P M mf ms = 0 -> Q (some F, 0)) (hb : Yv P M mf -> Jg3 P M mf ms ≠ 0 -> Q (none, Jg3 P M mf ms)) : Jc5 P M mf ms Q := by
 refine v_New (fun hn => ⟨fun h0 => ⟨h0, hno hn⟩, fun h0 => absurd (show (1 : Int) ≠ 0 by decide) h0⟩) fun F p m v g K eP eM emf => ⟨fun h0 => absurd rfl h0, fun _ => ?_⟩
 have hF : FV P M mf p m v := by rw [<- eP, <- eM, <- emf]; exact K.fv
 have hV : Yv P M mf := ⟨p, m, v, hF⟩
 refine ⟨fun z => ∃ t : Nat, z = t /\ t <= ms.length /\ Jg3 P M mf (ms.drop t) = Jg3 P M mf ms, fun z => (ms.length - z).toNat, ⟨0, rfl, Nat.zero_le _, rfl⟩, ?_⟩; rintro _ ⟨t, rfl, ht, he⟩; refine ⟨fun hlt => ?_, fun hge => ?_⟩
 .have htl : t < ms.length := by omega
  have hd : ms.drop t = gm ms t :: ms.drop (t + 1) := by
   rw [List.drop_eq_getElem_cons htl]
   congr 1
   unfold gm; show _ = ms.getD t (0, []); rw [List.getD_eq_getElem?_getD, List.getElem?_eq_getElem htl]; rfl
  rw [hd] at he; generalize gm ms t = mt at *
  obtain ⟨C, X⟩ := mt; simp only [Jg3] at he; dsimp only; refine ⟨⟨by omega, by omega⟩, Jk8 (fun hs => ⟨fun h => absurd h (by decide), fun _ => ?_⟩) (fun hs => ⟨fun _ => ⟨by decide, ?_⟩, fun h => absurd h (by decide)⟩)⟩
  .refine ⟨fun z => ∃ s : Nat, z = s /\ s <= X.length /\ ∀ k, k < s -> Elr p m (row X k), fun z => (X.length - z).toNat, ⟨0, rfl, Nat.zero_le _, fun k hk => by omega⟩, ?_⟩; rintro _ ⟨s, rfl, hs1, hs2⟩; have hX : X.length <= 256 := Jgt hs; dsimp only; refine ⟨fun hlt2 => ⟨⟨by omega, by omega⟩, Jfi K (by show (row X s).length <= _; rw [Yy hs (by omega)]; have := hs.2.1; omega) (fun hel => ⟨fun h => absurd h (by decide), fun _ => ⟨Jq (by omega) (by omega), ⟨s + 1, by push_cast; rfl, by omega, fun k hk => ?_⟩, by omega⟩⟩) (fun hel => ⟨fun _ => ⟨by decide, ?_⟩, fun h => absurd h (by decide)⟩)⟩, fun hge2 => ?_⟩
   .rcases Nat.lt_or_ge k s with h | h
    .exact hs2 k h
    .rw [show k = s by omega]; exact hel
   .have e : mck P M mf C X = 2 := Jdw hV hs fun hv => hel (Qg ((QW hF).1 hv) s); rw [e, if_neg (by decide)] at he; have := hb hV (by rw [<- he]; decide)
    rwa [<- he] at this
   .have e : mck P M mf C X = 0 := Jcs hV hs ((QW hF).2 (Ja9 fun k hk => hs2 k (by omega))); rw [e, if_pos rfl] at he; exact ⟨Jq (by omega) (by omega), ⟨t + 1, by push_cast; rfl, by omega, he⟩, by omega⟩
  .have e : mck P M mf C X = 3 := Jae hV hs; rw [e, if_neg (by decide)] at he; have := hb hV (by rw [<- he]; decide)
   rwa [<- he] at this
 .rw [show t = ms.length by omega, List.drop_length] at he; exact h F p m v g K hF he.symm
theorem Ji9 : Jg3 P M mf [(C, X)] = mck P M mf C X := by
 simp only [Jg3]; split
 .rename_i h; exact h.symm
 .rfl
theorem Jon {Q : Option GFv × Int -> Prop} (hb : mck P M mf C X ≠ 0 -> Q (none, mck P M mf C X))
    (h : ∀ (F : GFv) (p m v g : Nat), GFk F p m v g -> FV P M mf p m v -> shp C X -> Els p m X -> mck P M mf C X = 0 -> Q (some F, 0)) : Jc5 P M mf [(C, X)] Q := by
  refine w_open (by simp) (fun hn => ?_) (fun F p m v g K hF he => ?_) (fun hV he => ?_)
  . have := hb (by rw [Jhh hn]; decide); rwa [Jhh hn] at this
  . rw [Ji9] at he
    obtain ⟨_, h2, h3⟩ := Jet he
    exact h F p m v g K hF h2 ((QW hF).1 h3) he
  . rw [Ji9] at he ⊢; exact hb he
theorem Jd3 {Q : Int -> Prop} (h : Q (mck P M mf C X)) : Zd P M mf C X Q := Jon (fun _ _ => h) (fun F p m v g K hF h1 h2 h3 => by show Q 0; rw [<- h3]; exact h)
theorem Jqm {Q : Int -> Prop} (h : Q (mck P M mf C X)) : Jak P M mf C X Q := by
 refine Jiv ?_; by_cases hV : Yv P M mf
 .rw [Je4 hV]; refine ⟨fun h0 => absurd rfl h0, fun _ => ⟨fun h0 => ?_, fun h0 => ⟨fun h1 => ?_, fun h1 => ⟨fun h2 => ?_, fun h2 => ?_⟩⟩⟩⟩
  .rw [Jae hV fun s => by have := s.1; omega] at h; exact h
  .rw [Jae hV fun s => by have := s.2.1; omega] at h; exact h
  .rw [Jae hV fun s => by have := s.2.2.1; omega] at h; exact h
  .refine ⟨fun z => ∃ t : Nat, z = t /\ t <= X.length /\ ∀ k, k < t -> ((row X k).length : Int) = C, fun z => (X.length - z).toNat, ⟨0, rfl, Nat.zero_le _, fun k hk => by omega⟩, ?_⟩; rintro _ ⟨t, rfl, ht, hk⟩; dsimp only; refine ⟨fun hlt => ⟨⟨by omega, by omega⟩, fun hne => ?_, fun he => ⟨Jq (by omega) (by omega), ⟨t + 1, by push_cast; rfl, by omega, fun k hk' => ?_⟩, by omega⟩⟩, fun hge => ?_⟩
   .rw [Jae hV fun s => hne (s.2.2.2 _ (Jaa (by omega)))] at h; exact h
   .rcases Nat.lt_or_ge k t with h | h
    .exact hk k h
    .rw [show k = t by omega]; exact Classical.not_not.1 he
   .have hs : shp C X := ⟨by omega, by omega, by omega, fun r hr => by obtain ⟨s, h3, rfl⟩ := Jad hr; exact hk s (by omega)⟩
    obtain ⟨p, m, v, hF⟩ := hV; refine ⟨fun r z => r = 0 /\ ∃ s : Nat, z = s /\ s <= X.length /\ ∀ k, k < s -> Elr p m (row X k), fun _ z => (X.length - z).toNat, ⟨rfl, 0, rfl, Nat.zero_le _, fun k hk => by omega⟩, ?_⟩; rintro _ _ ⟨rfl, s, rfl, hs1, hs2⟩; dsimp only; refine ⟨fun hlt2 => ⟨⟨by omega, by omega⟩, ?_⟩, fun hge2 => ?_⟩
    .have hrl : (row X s).length <= 1000000 := by rw [Yy hs (by omega)]; have := hs.2.1; omega
     by_cases hel : Elr p m (row X s)
     .refine ⟨0, Ja5 hF hrl (fun _ => rfl) (fun h => absurd hel h), fun h0 => absurd rfl h0, fun _ => ⟨Jq (by omega) (by omega), ⟨rfl, s + 1, by push_cast; rfl, by omega, fun k hk' => ?_⟩, by omega⟩⟩; rcases Nat.lt_or_ge k s with h | h
      .exact hs2 k h
      .rw [show k = s by omega]; exact hel
     .refine ⟨2, Ja5 hF hrl (fun h => absurd h hel) (fun _ => rfl), fun _ => ?_, fun h0 => absurd (by decide) h0⟩; rw [Jdw ⟨p, m, v, hF⟩ hs fun hv => hel (Qg ((QW hF).1 hv) s)] at h; exact h
    .rw [Jcs ⟨p, m, v, hF⟩ hs ((QW hF).2 (Ja9 fun k hk' => hs2 k (by omega)))] at h; exact h
 .rw [Yu hV]; rw [Jhh hV] at h; exact ⟨fun _ => h, fun h0 => absurd (by decide) h0⟩
def ec (p m v : Nat) (C : Int) (X : LL) : ES := elim p m v C.toNat ⟨X, List.replicate X.length [], [], 1⟩
def Qq (p m v : Nat) (C : Int) (X : LL) : LL := (ec p m v C X).X.take (ec p m v C X).pv.length
def Qh (p m v : Nat) (C : Int) (X : LL) : LI := (ec p m v C X).pv
theorem Jx9 {n t : Nat} {l : LI} (h : t < n) : row (List.replicate n l) t = l := by
 unfold row; rw [List.getD_eq_getElem?_getD, List.getElem?_replicate, if_pos h]; rfl
theorem shp_S0 (hs : shp C X) {Z : LL} {wz : Nat} {d : Int} (hZ : Z.length = X.length) (hz : ∀ t, t < X.length -> (row Z t).length = wz) : Shp X.length C.toNat wz ⟨X, Z, [], d⟩ := ⟨rfl, fun t ht => Yy hs ht, hZ, hz, Nat.zero_le _⟩
theorem Z7 (hs : shp C X) : Shp X.length C.toNat 0 ⟨X, List.replicate X.length [], [], 1⟩ := shp_S0 hs (by simp) fun t ht => by rw [Jx9 ht]; rfl
theorem Zl (hs : shp C X) : X.length <= 256 /\ C.toNat <= 256 /\ ((C.toNat : Nat) : Int) = C := ⟨hs.2.2.1, by have := hs.2.1; omega, by have := hs.1; omega⟩
theorem Juy (hs : shp C X) : ∀ r ∈ X, r.length <= 1000000 := fun r hr => by have := hs.2.2.2 r hr; have := hs.2.1; omega
theorem ZS (hs : shp C X) : Shp X.length C.toNat 0 (ec p m v C X) := YG (Z7 hs) _
theorem Jis {Q : Int × LL × LI -> Prop} (K : GFk F p m v g) (hs : shp C X) (h : Q (C, Qq p m v C X, Qh p m v C X)) : YZ F C X Q := by
 obtain ⟨h1, h2, h3⟩ := Zl hs; refine Jua (by omega) (Juy hs) ⟨⟨by omega, by omega, by omega⟩, ?_⟩; show Yw F C X (List.replicate X.length ([] : LI)) _; rw [<- h3]; refine Jiq K (by omega) (by omega) (wy := 0) (by omega) (Z7 hs) ?_; rw [h3]; have := (ZS (p := p) (m := m) (v := v) hs).pl; exact ⟨⟨by omega, by show ((ec p m v C X).pv.length : Int) <= _; omega⟩, h⟩
theorem Jit {Q : Int × LL × LI × Int -> Prop} (hb : mck P M mf C X ≠ 0 -> Q (0, [], [], mck P M mf C X))
  (h : ∀ p m v, FV P M mf p m v -> shp C X -> Els p m X -> mck P M mf C X = 0 -> Q (C, Qq p m v C X, Qh p m v C X, 0)) : Y0 P M mf C X Q :=
 Jon (fun h0 _ => hb h0) fun F p m v g K hF hs he h0 => Jis K hs (h p m v hF hs he h0)
theorem Jt6 {Q : LL × LI -> Prop} (hF : FV P M mf p m v) (hs : shp C X) (he : Els p m X) (h : Q (Qq p m v C X, Qh p m v C X)) : Jb5 P M mf X C Q := by
 obtain ⟨h1, h2, h3⟩ := Zl hs; show QR P M mf X C _; rw [<- h3]; refine Jgk hF (by omega) (by omega) (Z7 hs) he ?_; have h4 := ZS (p := p) (m := m) (v := v) hs; exact ⟨⟨by omega, by have := h4.pl; have := h4.xl; show ((ec p m v C X).pv.length : Int) <= ((ec p m v C X).X.length : Nat); omega⟩, h⟩
theorem FV.uniq3 {p' m' v' : Nat} (h : FV P M mf p m v) (h' : FV P M mf p' m' v') : p = p' /\ m = m' /\ v = v' := by
 obtain ⟨e1, e2⟩ := h.uniq h'; subst e1; subst e2; refine ⟨rfl, rfl, ?_⟩; by_cases hm : m = 1
 .rw [(h.m1 hm).2, (h'.m1 hm).2]
 .have e1 := h.m2 hm; have e2 := h'.m2 hm; have hp := h.p2; have h3 : dv p v = dv p v' := by rw [<- h.vo, <- h'.vo]
  have h4 := Ja1 (p := p) (m := m) (x := v) (by omega) h.vlt; have h5 := Ja1 (p := p) (m := m) (x := v') (by omega) h'.vlt; rw [<- h4, <- h5, h3]
end
end Go.Proofs.YtjgpkljepgcekaaGreat
namespace Go.Proofs.YtjgpkljepgcekaaGreat
section
variable {p m v : Nat}
def Asc (k : Nat) (l : LI) : Prop := (∀ i, i < l.length -> 0 <= vo l i /\ vo l i < (k : Int)) /\ ∀ i j, i < j -> j < l.length -> vo l i < vo l j
theorem Jbj {l : LI} {x : Int} {i : Nat} : vo (l ++ [x]) i = if i < l.length then vo l i else if i = l.length then x else 0 := by
 unfold vo; rw [List.getD_eq_getElem?_getD, List.getD_eq_getElem?_getD, List.getElem?_append]; by_cases h : i < l.length
 .rw [if_pos h, if_pos h]
 .rw [if_neg h, if_neg h]; by_cases h2 : i = l.length
  .subst h2; simp
  .rw [if_neg h2]; have : i - l.length ≠ 0 := by omega
   cases hh : i - l.length with
   | zero => omega
   | succ n => simp
theorem Asc.snoc {k : Nat} {l : LI} (h : Asc k l) : Asc (k + 1) (l ++ [(k : Int)]) := by
 refine ⟨fun i hi => ?_, fun i j hij hj => ?_⟩
 .rw [List.length_append] at hi; rw [Jbj]; split
  .rename_i h1; have := h.1 i h1; omega
  .split
   .omega
   .simp at hi; omega
 .rw [List.length_append] at hj; have hj' : j < l.length + 1 := by simpa using hj
  rw [Jbj, Jbj, if_pos (show i < l.length by omega)]; split
  .rename_i h1; exact h.2 i j hij h1
  .rw [if_pos (show j = l.length by omega)]; exact (h.1 i (by omega)).2
theorem Asc.up {k : Nat} {l : LI} (h : Asc k l) : Asc (k + 1) l := ⟨fun i hi => by have := h.1 i hi; omega, h.2⟩
theorem Je1 {S : ES} (h : S.pv = []) : ∀ k, Asc k (elim p m v k S).pv
 | 0 => by
  show Asc 0 S.pv; rw [h]; exact ⟨fun i hi => absurd hi (Nat.not_lt_zero i), fun i j _ hj => absurd hj (Nat.not_lt_zero j)⟩
 | k + 1 => by
  have ih := Je1 h k; rw [QD]; unfold QV; split
  .exact ih.snoc
  .exact ih.up
theorem Je5 (C : Int) (X : LL) : Asc C.toNat (Qh p m v C X) := Je1 rfl _
end
section
variable {F : GFv} {p m v g : Nat} {P M : Int} {mf : LI} {X Y : LL} {C : Int}
theorem ZU (hs : shp C X) : (Qq p m v C X).length = (Qh p m v C X).length := by
 have h0 := ZS (p := p) (m := m) (v := v) hs; unfold Qq Qh; rw [List.length_take]; have h1 := h0.pl; have h2 := h0.xl; omega
theorem ZK {Z : LL} {n t : Nat} (h : t < n) : row (Z.take n) t = row Z t := by
 unfold row; rw [List.getD_eq_getElem?_getD, List.getD_eq_getElem?_getD, List.getElem?_take, if_pos h]
theorem Jwi (hs : shp C X) {t : Nat} (ht : t < (Qq p m v C X).length) : (row (Qq p m v C X) t).length = C.toNat := by
 have h1 := ZS (p := p) (m := m) (v := v) hs; rw [ZU hs] at ht; unfold Qq; rw [ZK (n := (ec p m v C X).pv.length) ht]; exact h1.xr t (Nat.lt_of_lt_of_le ht h1.pl)
theorem Jkb (hs : shp C X) : shp C (Qq p m v C X) := by
 obtain ⟨h1, h2, h3⟩ := Zl hs; have h4 := ZS (p := p) (m := m) (v := v) hs; refine ⟨hs.1, hs.2.1, by rw [ZU hs]; have := h4.pl; show (ec p m v C X).pv.length <= 256; omega, fun r hr => ?_⟩; obtain ⟨t, ht, rfl⟩ := Jad hr; rw [Jwi hs ht]; exact h3
theorem Jkc (hs : shp C X) : (Qh p m v C X).length <= X.length := (ZS (p := p) (m := m) (v := v) hs).pl
end
end Go.Proofs.YtjgpkljepgcekaaGreat
namespace Go.Proofs.YtjgpkljepgcekaaGreat
section
variable {F : GFv} {p m v g : Nat} {P M : Int} {mf : LI} {X Y : LL} {C : Int}
open Classical in
noncomputable def sqe (P M : Int) (mf : LI) (C : Int) (X : LL) : Int := if mck P M mf C X ≠ 0 then mck P M mf C X else if (X.length : Int) ≠ C then 3 else 0
def cmb (p m v : Nat) (x : LI) (C : Nat) (X : LL) (k : Nat) : LI := (List.range k).foldl (fun s i => adx p m v s (vo x i) (row X i)) (List.replicate C 0)
theorem ZT (x : LI) (C : Nat) (k : Nat) : cmb p m v x C X (k + 1) = adx p m v (cmb p m v x C X k) (vo x k) (row X k) := by
 unfold cmb; rw [List.range_succ, List.foldl_append]; rfl
theorem Jdy (x : LI) (C : Nat) : ∀ k, (cmb p m v x C X k).length = C
 | 0 => by simp [cmb]
 | k + 1 => by rw [ZT, Jb0]; exact Jdy x C k
open Classical in
noncomputable def vce (p m : Nat) (x : LI) (n : Nat) : Int := if x.length ≠ n then 3 else if ¬ Elr p m x then 2 else 0
def rgt (b : LI) : LL := b.map fun y => [y]
def eb (p m v : Nat) (C : Int) (X : LL) (b : LI) : ES := elim p m v C.toNat ⟨X, rgt b, [], 1⟩
end
theorem islf2 : IsLf 2 2 := ⟨by decide, by decide, fun e h _ => h⟩
theorem fv2 : FV 2 1 [] 2 1 0 := Jcf islf2 (by decide)
def A3 : LL := [[1, 1, 0], [0, 1, 1], [1, 0, 1]]
def A2 : LL := [[1, 2], [3, 4]]
instance (p m : Nat) (x : Int) : Decidable (El p m x) := inferInstanceAs (Decidable (_ /\ _))
theorem vce_ok {p m : Nat} {x : LI} {n : Nat} (h : x.length = n) (he : Elr p m x) : vce p m x n = 0 := by
 unfold vce; rw [if_neg (fun hh => hh h), if_neg (fun hh => hh he)]
end Go.Proofs.YtjgpkljepgcekaaGreat
namespace Go.Proofs.YtjgpkljepgcekaaGreat
end Go.Proofs.YtjgpkljepgcekaaGreat
namespace Go.Proofs.YtjgpkljepgcekaaGreat
section
variable {F : GFv} {p m v g : Nat} {P M : Int} {mf : LI} {X : LL} {C : Int} {set y : LI}
theorem Jk6 {x : LI} {Q : LI -> Prop} (hF : FV P M mf p m v) (hs : shp C X) (hx : x.length = X.length) (h : Q (cmb p m v x C.toNat X X.length)) : ZC P M mf x X C Q := by
 obtain ⟨h1, h2, h3⟩ := Zl hs; refine ⟨⟨by omega, by omega, by omega⟩, fun y => y = cmb p m v x C.toNat X X.length, ⟨fun y z => ∃ t : Nat, z = t /\ t <= X.length /\ y = cmb p m v x C.toNat X t, fun _ z => (X.length - z).toNat, ⟨0, rfl, Nat.zero_le _, rfl⟩, ?_⟩, fun y hy => by rw [hy]; exact h⟩; rintro _ _ ⟨t, rfl, ht, rfl⟩; dsimp only; refine ⟨fun hlt => ⟨fun hlt2 => ⟨fun y => y = cmb p m v x C.toNat X (t + 1), ⟨⟨by omega, by omega⟩, fun hne => ?_, fun he => ?_⟩, ?_⟩, fun hge => by omega⟩, fun hge => by rw [show t = X.length by omega]⟩
 .have hr := Yy hs (t := t) (by omega); have hc := Jdy (p := p) (m := m) (v := v) (X := X) x C.toNat t; refine ⟨⟨by omega, by omega⟩, ⟨by omega, by omega⟩, _, Jin hF (by show _ <= (row X t).length; omega) (by omega) rfl, ?_⟩; rw [ZT]; unfold adx; have hne' : vo x t ≠ 0 := hne; rw [if_neg hne']; rfl
 .rw [ZT]; unfold adx; have he' : vo x t = 0 := Classical.not_not.1 he; rw [if_pos he']
 .rintro _ rfl; exact ⟨Jq (by omega) (by omega), ⟨t + 1, by push_cast; rfl, by omega, rfl⟩, by omega⟩
end
end Go.Proofs.YtjgpkljepgcekaaGreat
namespace Go.Proofs.YtjgpkljepgcekaaGreat
section
variable {p m v : Nat} {P M : Int} {mf : LI} {X Y : LL} {C : Int} {w : Nat}
def en (p m : Nat) (l : LI) : Nat -> Nat := fun c => inE (p ^ m) (vo l c)
structure Lin (p m v w : Nat) (f : (Nat -> Nat) -> Nat) : Prop where
  lt : ∀ a, f a < p ^ m
  cg : ∀ {a b : Nat -> Nat}, (∀ c, c < w -> a c = b c) -> f a = f b
  ad : ∀ {a b : Nat -> Nat} {x : Nat}, (∀ c, a c < p ^ m) -> (∀ c, b c < p ^ m) -> x < p ^ m -> f (fun c => JU p m (a c) (Jv p m (dv p v) x (b c))) = JU p m (f a) (Jv p m (dv p v) x (f b))
  ml : ∀ {a : Nat -> Nat} {x : Nat}, (∀ c, a c < p ^ m) -> x < p ^ m -> f (fun c => Jv p m (dv p v) x (a c)) = Jv p m (dv p v) x (f a)
def Ann (p m : Nat) (f : (Nat -> Nat) -> Nat) (X : LL) : Prop := ∀ t, t < X.length -> f (en p m (row X t)) = 0
theorem Y8 (hF : FV P M mf p m v) (l : LI) (c : Nat) : en p m l c < p ^ m := JQ (by have := hF.ring.q2; omega) _
theorem Jmj (hF : FV P M mf p m v) {a o : LI} {x : Int} {c : Nat} (hc : c < a.length) : en p m (adx p m v a x o) c = JU p m (en p m a c) (Jv p m (dv p v) (inE (p ^ m) x) (en p m o c)) := by
 have R := hF.ring; have hq : 0 < p ^ m := by have := R.q2; omega
 have e0 : inE (p ^ m) 0 = 0 := Qi (x := 0) hq; have hz : ∀ y, y < p ^ m -> Jv p m (dv p v) 0 y = 0 := fun y hy => by rw [R.Mc hq hy]; exact R.M0 hy
 unfold en adx; split
 .rename_i h; subst h
  rw [e0, hz _ (JQ hq _), R.Az (JQ hq _)]
 .rw [ZJ hc]; split
  .rename_i h; rw [h, e0, R.M0 (JQ hq _), R.Az (JQ hq _)]
  .unfold Ad Ml; rw [Qi (R.Al _ _), Qi (R.Ml _ _)]
theorem en_sc (hF : FV P M mf p m v) {l : LI} {x : Int} {c : Nat} (hc : c < l.length) : en p m (sc p m v x l) c = Jv p m (dv p v) (inE (p ^ m) x) (en p m l c) := by
 unfold en; rw [Jd5 hc]; unfold Ml; rw [Qi (hF.ring.Ml _ _)]
theorem Lin.adx {f : (Nat -> Nat) -> Nat} (L : Lin p m v w f) (hF : FV P M mf p m v) {a o : LI} {x : Int} (ha : a.length = w) : f (en p m (adx p m v a x o)) = JU p m (f (en p m a)) (Jv p m (dv p v) (inE (p ^ m) x) (f (en p m o))) := by
 rw [<- L.ad (Y8 hF a) (Y8 hF o) (JQ (by have := hF.ring.q2; omega) x)]; exact L.cg fun c hc => Jmj hF (by omega)
theorem Lin.sc {f : (Nat -> Nat) -> Nat} (L : Lin p m v w f) (hF : FV P M mf p m v) {l : LI} {x : Int} (hl : l.length = w) : f (en p m (sc p m v x l)) = Jv p m (dv p v) (inE (p ^ m) x) (f (en p m l)) := by
 rw [<- L.ml (Y8 hF l) (JQ (by have := hF.ring.q2; omega) x)]; exact L.cg fun c hc => en_sc hF (by omega)
theorem Zm {r cur t : Nat} (hr : r < X.length) (hc : cur < X.length) : row (swq X r cur) t = if t = cur then row X r else if t = r then row X cur else row X t := by
  unfold swq
  split
  . rename_i h; subst h
    split
    . rename_i h; rw [h]
    . rfl
  . exact Zn hr hc
theorem Jgv {cur t : Nat} {e : Int} (hc : cur < X.length) : row (scq p m v X cur e) t = if t = cur then sc p m v (Iv p m v e) (row X cur) else row X t := by
 unfold scq; rw [Qv]; by_cases h : cur = t
 .rw [if_pos ⟨h, hc⟩, if_pos h.symm]
 .rw [if_neg (fun hh => h hh.1), if_neg (fun hh => h hh.symm)]
theorem Jzb {f : (Nat -> Nat) -> Nat} {r cur : Nat} (hr : r < X.length) (hc : cur < X.length) (h : Ann p m f (swq X r cur)) : Ann p m f X := fun t ht => by
 rw [Ann, JS] at h; by_cases h1 : t = r
 .have := h cur hc; rw [Zm hr hc, if_pos rfl] at this; rw [h1]; exact this
 .by_cases h2 : t = cur
  .have := h r hr; rw [Zm hr hc] at this; rw [if_neg (fun e => h1 (h2.trans e.symm)), if_pos rfl] at this; rw [h2]; exact this
  .have := h t ht; rw [Zm hr hc, if_neg h2, if_neg h1] at this; exact this
theorem Jzc {f : (Nat -> Nat) -> Nat} (L : Lin p m v w f) (hF : FV P M mf p m v) {cur : Nat} {e : Int} {z : Nat} (hz : z < p ^ m) (he : Jv p m (dv p v) z (inE (p ^ m) (Iv p m v e)) = 1) (hc : cur < X.length) (hw : (row X cur).length = w) (h : Ann p m f (scq p m v X cur e)) : Ann p m f X := fun t ht => by
 have R := hF.ring; have q1 : 1 < p ^ m := R.q2; rw [Ann, Qp] at h; have h3 := h t ht; rw [Jgv hc] at h3; split at h3
 .rename_i h1; subst h1
  rw [L.sc hF hw] at h3; have hi := JQ (q := p ^ m) (by omega) (Iv p m v e); have h4 := R.Ma hz hi (L.lt (en p m (row X t))); rw [he, h3, R.M0 hz, R.Mc q1 (L.lt _), R.M1 (L.lt _)] at h4; exact h4
 .exact h3
theorem Jzd {f : (Nat -> Nat) -> Nat} (L : Lin p m v w f) (hF : FV P M mf p m v) {cur : Nat} {g : Nat -> Int} (hc : cur < X.length) (hw : ∀ t, t < X.length -> (row X t).length = w) (h : Ann p m f (clr p m v g cur X)) : Ann p m f X := fun t ht => by
 have R := hF.ring; have hq : 0 < p ^ m := by have := R.q2; omega
 rw [Ann, Yz] at h; have hcur := h cur hc; rw [YN hc, if_pos rfl] at hcur; have h3 := h t ht; rw [YN ht] at h3; split at h3
 .exact h3
 .rw [L.adx hF (hw t ht), hcur, R.M0 (JQ hq _), R.Az (L.lt _)] at h3; exact h3
theorem iv_ex {g : Nat} (K : Gn (p ^ m) (Jv p m (dv p v)) g) (hF : FV P M mf p m v) {x : Int} (h0 : x ≠ 0) (hx : El p m x) : inE (p ^ m) x < p ^ m /\ Jv p m (dv p v) (inE (p ^ m) x) (inE (p ^ m) (Iv p m v x)) = 1 := by
 have R := hF.ring; have q1 : 1 < p ^ m := R.q2; have hx1 := JQ (q := p ^ m) (by omega) x; have hne : 0 < inE (p ^ m) x := by
  have := Jct hx; omega
 have h1 := K.xone R hne hx1; refine ⟨hx1, ?_⟩; have hz : pw (Jv p m (dv p v)) (inE (p ^ m) x) (p ^ m - 1 - 1) < p ^ m := by
  cases p ^ m - 1 - 1 with
  | zero => exact q1
  | succ n => exact R.Ml _ _
 have h2 : Jv p m (dv p v) (pw (Jv p m (dv p v)) (inE (p ^ m) x) (p ^ m - 1 - 1)) (inE (p ^ m) x) = 1 := by
  rw [show p ^ m - 1 = (p ^ m - 1 - 1) + 1 by omega] at h1; exact h1
 rw [Jqi R hx1 hz h2, Qi hz, R.Mc hx1 hz]; exact h2
theorem Jwr {g : Nat} (K : Gn (p ^ m) (Jv p m (dv p v)) g) (hF : FV P M mf p m v) {f : (Nat -> Nat) -> Nat} (L : Lin p m v w f) {S : ES} {c : Nat} (he : Els p m S.X) (hw : ∀ t, t < S.X.length -> (row S.X t).length = w) (h : Ann p m f (QV p m v S c).X) : Ann p m f S.X := by
  unfold QV at h
  split at h
  . rename_i h1
    obtain ⟨hc, hr⟩ := h1
    rw [Ja3] at h
    have hw1 : ∀ t, t < (swq S.X (nz S.X c S.pv.length) S.pv.length).length -> (row (swq S.X (nz S.X c S.pv.length) S.pv.length) t).length = w := fun t ht => by
      rw [JS] at ht; exact QH hr hc hw ht
    have hrow : row (swq S.X (nz S.X c S.pv.length) S.pv.length) S.pv.length = row S.X (nz S.X c S.pv.length) := by rw [Zm hr hc, if_pos rfl]
    have hne := (Zq S.X c S.pv.length (by omega)).2.2 hr
    have hcl : c < (row S.X (nz S.X c S.pv.length)).length := by
      rcases Nat.lt_or_ge c (row S.X (nz S.X c S.pv.length)).length with h | h
      . exact h
      . exact absurd (Jax h) hne
    have hel : El p m (vo (row S.X (nz S.X c S.pv.length)) c) := Qg he _ _ (Jce hcl)
    obtain ⟨h4, h5⟩ := iv_ex K hF hne hel
    have h2 := Jzd L hF (by rw [Qp, JS]; exact hc) (fun t ht => by rw [Qp] at ht; exact QJ (by rw [JS]; exact hc) hw1 ht) h
    rw [hrow] at h2
    have h3 := Jzc L hF h4 h5 (by rw [JS]; exact hc) (hw1 _ (by rw [JS]; exact hc)) h2
    exact Jzb hr hc h3
  . exact h
theorem Jke {g : Nat} (K : Gn (p ^ m) (Jv p m (dv p v)) g) (hF : FV P M mf p m v) {f : (Nat -> Nat) -> Nat} (L : Lin p m v w f) {n wy : Nat} {S : ES} (hS : Shp n w wy S) (he : Els p m S.X) : ∀ k, Ann p m f (elim p m v k S).X -> Ann p m f S.X
 | 0, h => h
 | k + 1, h => by
  rw [QD] at h; have hk := YG (p := p) (m := m) (v := v) hS k; refine Jke K hF L hS he k (Jwr K hF L (ZR (by have := hF.p2; omega) he k) (fun t ht => hk.xr t (by have := hk.xl; omega)) h)
end
end Go.Proofs.YtjgpkljepgcekaaGreat
namespace Go.Proofs.YtjgpkljepgcekaaGreat
section
variable {p m v g : Nat} {P M : Int} {mf : LI} {X Y : LL} {C : Int} {w : Nat}
structure Red (k : Nat) (S : ES) : Prop where
  one : ∀ i, i < S.pv.length -> ∀ t, t < S.X.length -> vo (row S.X t) (vo S.pv i).toNat = if t = i then 1 else 0
  lo : ∀ t, S.pv.length <= t -> t < S.X.length -> ∀ c, c < k -> vo (row S.X t) c = 0
  lf : ∀ i, i < S.pv.length -> ∀ c : Nat, (c : Int) < vo S.pv i -> vo (row S.X i) c = 0
theorem Jxx {a o : LI} {x : Int} {c : Nat} (h : vo o c = 0) : vo (adx p m v a x o) c = vo a c := by
 unfold adx; split
 .rfl
 .rcases Nat.lt_or_ge c a.length with hc | hc
  .rw [ZJ hc, if_pos h]
  .rw [Jax hc, Jax (by rw [Jb1]; exact hc)]
theorem Juc (hF : FV P M mf p m v) {l : LI} {x : Int} {c : Nat} (h : vo l c = 0) : vo (sc p m v x l) c = 0 := by
 have hq : 0 < p ^ m := by have := hF.ring.q2; omega
 rcases Nat.lt_or_ge c l.length with hc | hc
 .rw [Jd5 hc, h]; unfold Ml; rw [show inE (p ^ m) 0 = 0 from Qi (x := 0) hq, hF.ring.M0 (JQ hq _)]; rfl
 .exact Jax (by unfold sc; rw [List.length_map]; exact hc)
theorem Jvd (K : Gn (p ^ m) (Jv p m (dv p v)) g) (hF : FV P M mf p m v) {S : ES} {k : Nat} (hA : Asc k S.pv) (hl : S.pv.length <= S.X.length) (he : Els p m S.X) (h : Red k S) : Red (k + 1) (QV p m v S k) := by
 have R := hF.ring; have q1 : 1 < p ^ m := R.q2; have hp : 0 < p := by have := hF.p2; omega
 unfold QV; split
 case isFalse h1 =>
  refine ⟨h.one, fun t ht1 ht2 c hc => ?_, h.lf⟩; rcases Nat.lt_or_ge c k with hck | hck
  .exact h.lo t ht1 ht2 c hck
  .have e : c = k := by omega
   subst e; have hs := Zq S.X c S.pv.length hl; exact hs.2.1 t ht1 (by
    rcases Nat.lt_or_ge t (nz S.X c S.pv.length) with h | h
    .exact h
    .exact absurd ⟨by omega, by omega⟩ h1)
 case isTrue h1 =>
  obtain ⟨hc, hr⟩ := h1; have hrs := Jpd S.X k S.pv.length; have hne := (Zq S.X k S.pv.length hl).2.2 hr; have hkl : k < (row S.X (nz S.X k S.pv.length)).length := by
   rcases Nat.lt_or_ge k (row S.X (nz S.X k S.pv.length)).length with h | h
   .exact h
   .exact absurd (Jax h) hne
  have hel : El p m (vo (row S.X (nz S.X k S.pv.length)) k) := Qg he _ _ (Jce hkl); obtain ⟨h4, h5⟩ := iv_ex K hF hne hel; have hE3 : Els p m (es1 p m v k (nz S.X k S.pv.length) S.pv.length S).X := Jhq hp he hr hc; have hn : (es1 p m v k (nz S.X k S.pv.length) S.pv.length S).X.length = S.X.length := by rw [Ja3, Yz, Qp, JS]
  generalize hrr : nz S.X k S.pv.length = r at *
  have hx2 : ∀ t, row (scq p m v (swq S.X r S.pv.length) S.pv.length (vo (row (swq S.X r S.pv.length) S.pv.length) k)) t = if t = S.pv.length then sc p m v (Iv p m v (vo (row S.X r) k)) (row S.X r) else if t = r then row S.X S.pv.length else row S.X t := fun t => by
   rw [Jgv (by rw [JS]; exact hc), Zm hr hc, Zm hr hc, if_pos rfl]; split <;> rfl
  have hx3 : ∀ t, t < S.X.length -> row (es1 p m v k r S.pv.length S).X t = if t = S.pv.length then sc p m v (Iv p m v (vo (row S.X r) k)) (row S.X r) else adx p m v (if t = r then row S.X S.pv.length else row S.X t) (Ng p m (vo (if t = r then row S.X S.pv.length else row S.X t) k)) (sc p m v (Iv p m v (vo (row S.X r) k)) (row S.X r)) := fun t ht => by
   rw [Ja3, YN (by rw [Qp, JS]; exact ht), hx2, hx2, if_pos rfl]; split
   .rfl
   .rfl
  -- the columns before stay
  have hold : ∀ t, t < S.X.length -> ∀ c, c < k -> vo (row (es1 p m v k r S.pv.length S).X t) c = vo (row S.X t) c := fun t ht c hck => by
   have z1 : vo (row S.X r) c = 0 := h.lo r hrs hr c hck; have z2 : vo (row S.X S.pv.length) c = 0 := h.lo _ (Nat.le_refl _) hc c hck; rw [hx3 t ht]; split
   .rename_i e; rw [Juc hF z1, e, z2]
   .rw [Jxx (Juc hF z1)]; split
    .rename_i e; rw [z2, e, z1]
    .rfl
  have hone : vo (sc p m v (Iv p m v (vo (row S.X r) k)) (row S.X r)) k = 1 := by
   rw [Jd5 hkl]; unfold Ml; rw [R.Mc (JQ (by omega) _) h4, h5]; rfl
  have hnew : ∀ t, t < S.X.length -> vo (row (es1 p m v k r S.pv.length S).X t) k = if t = S.pv.length then 1 else 0 := fun t ht => by
   have hEt := Qg hE3 t; have hx := hx3 t ht; by_cases e : t = S.pv.length
   .rw [if_pos e] at hx ⊢; rw [hx]; exact hone
   .rw [if_neg e] at hx ⊢; rcases Nat.lt_or_ge k (if t = r then row S.X S.pv.length else row S.X t).length with hkt | hkt
    .have h6 := Jmj hF (x := Ng p m (vo (if t = r then row S.X S.pv.length else row S.X t) k)) (o := sc p m v (Iv p m v (vo (row S.X r) k)) (row S.X r)) hkt; rw [<- hx] at h6; have h7 : en p m (sc p m v (Iv p m v (vo (row S.X r) k)) (row S.X r)) k = 1 := by unfold en; rw [hone]; exact Qi (x := 1) q1
     rw [h7] at h6; unfold Ng at h6; have h8 : QP p m (inE (p ^ m) (vo (if t = r then row S.X S.pv.length else row S.X t) k)) < p ^ m := Yl hp _; rw [Qi h8, R.M1 h8] at h6; have h9 : en p m (row (es1 p m v k r S.pv.length S).X t) k = 0 := by rw [h6]; exact Yd hp (JQ (by omega) _)
     have h10 : El p m (vo (row (es1 p m v k r S.pv.length S).X t) k) := hEt _ (Jce (by rw [hx, Jb0]; exact hkt)); rw [<- Jct h10]; show ((en p m (row (es1 p m v k r S.pv.length S).X t) k : Nat) : Int) = 0; rw [h9]; rfl
    .rw [hx]; exact Jax (by rw [Jb0]; exact hkt)
  have hpv : (es1 p m v k r S.pv.length S).pv = S.pv ++ [(k : Int)] := rfl; refine ⟨fun i hi t ht => ?_, fun t ht1 ht2 c hck => ?_, fun i hi c hci => ?_⟩
  .rw [hn] at ht; rw [hpv, List.length_append, List.length_singleton] at hi; rw [hpv, Jbj]; by_cases e : i < S.pv.length
   .rw [if_pos e, hold t ht _ (by have := hA.1 i e; omega)]; exact h.one i e t ht
   .have e2 : i = S.pv.length := by omega
    rw [if_neg e, if_pos e2, e2]; exact hnew t ht
  .rw [hn] at ht2; rw [hpv, List.length_append, List.length_singleton] at ht1; rcases Nat.lt_or_ge c k with h6 | h6
   .rw [hold t ht2 c h6]; exact h.lo t (by omega) ht2 c h6
   .rw [show c = k by omega, hnew t ht2, if_neg (by omega)]
  .rw [hpv, List.length_append, List.length_singleton] at hi; rw [hpv, Jbj] at hci; by_cases e : i < S.pv.length
   .rw [if_pos e] at hci; rw [hold i (by omega) c (by have := hA.1 i e; omega)]; exact h.lf i e c hci
   .have e2 : i = S.pv.length := by omega
    rw [if_neg e, if_pos e2] at hci; rw [hold i (by omega) c (by omega), e2]; exact h.lo _ (Nat.le_refl _) hc c (by omega)
theorem Ji5 (K : Gn (p ^ m) (Jv p m (dv p v)) g) (hF : FV P M mf p m v) {n wy : Nat} {S : ES} (hS : Shp n w wy S) (he : Els p m S.X) (h0 : S.pv = []) : ∀ k, Red k (elim p m v k S)
 | 0 => ⟨fun i hi => by
   have : (elim p m v 0 S).pv = [] := h0; rw [this] at hi; exact absurd hi (Nat.not_lt_zero _), fun t _ _ c hc => absurd hc (Nat.not_lt_zero _), fun i hi => by
   have : (elim p m v 0 S).pv = [] := h0; rw [this] at hi; exact absurd hi (Nat.not_lt_zero _)⟩
 | k + 1 => by
  rw [QD]; have hk := YG (p := p) (m := m) (v := v) hS k; exact Jvd K hF (Je1 h0 k) (by have := hk.pl; have := hk.xl; omega) (ZR (by have := hF.p2; omega) he k) (Ji5 K hF hS he h0 k)
end
end Go.Proofs.YtjgpkljepgcekaaGreat
namespace Go.Proofs.YtjgpkljepgcekaaGreat
section
variable {p m v g : Nat} {P M : Int} {mf : LI} {X Y : LL} {C : Int} {w : Nat}
def fs (p m : Nat) (f : Nat -> Nat) : Nat -> Nat
  | 0 => 0
  | n + 1 => JU p m (fs p m f n) (f n)
theorem Jbt (hF : FV P M mf p m v) (f : Nat -> Nat) : ∀ n, fs p m f n < p ^ m
 | 0 => by have := hF.ring.q2; show 0 < _; omega
 | n + 1 => hF.ring.Al _ _
theorem fs_cg {f h : Nat -> Nat} : ∀ n, (∀ i, i < n -> f i = h i) -> fs p m f n = fs p m h n
 | 0, _ => rfl
 | n + 1, e => by show JU p m _ _ = JU p m _ _; rw [fs_cg n fun i hi => e i (by omega), e n (by omega)]
theorem mix (hF : FV P M mf p m v) {a b c d : Nat} (ha : a < p ^ m) (hb : b < p ^ m) (hc : c < p ^ m) (hd : d < p ^ m) : JU p m (JU p m a b) (JU p m c d) = JU p m (JU p m a c) (JU p m b d) := by
 have R := hF.ring; rw [R.Aa ha hb (R.Al _ _), <- R.Aa hb hc hd, R.Ac b c, R.Aa hc hb hd, <- R.Aa ha hc (R.Al _ _)]
theorem Jmf (hF : FV P M mf p m v) {f h : Nat -> Nat} {x : Nat} (hf : ∀ i, f i < p ^ m) (hh : ∀ i, h i < p ^ m) (hx : x < p ^ m) : ∀ n, fs p m (fun i => JU p m (f i) (Jv p m (dv p v) x (h i))) n = JU p m (fs p m f n) (Jv p m (dv p v) x (fs p m h n))
 | 0 => by
  have R := hF.ring; show 0 = JU p m 0 (Jv p m (dv p v) x 0); rw [R.M0 hx, R.Az (by have := R.q2; omega)]
 | n + 1 => by
  have R := hF.ring; show JU p m (fs p m _ n) _ = JU p m (JU p m _ _) (Jv p m (dv p v) x (JU p m _ _)); rw [Jmf hF hf hh hx n, R.Md hx (Jbt hF h n) (hh n), mix hF (Jbt hF f n) (R.Ml _ _) (hf n) (R.Ml _ _)]
theorem fs_ml (hF : FV P M mf p m v) {f : Nat -> Nat} {x : Nat} (hf : ∀ i, f i < p ^ m) (hx : x < p ^ m) : ∀ n, fs p m (fun i => Jv p m (dv p v) x (f i)) n = Jv p m (dv p v) x (fs p m f n)
 | 0 => by show 0 = Jv p m (dv p v) x 0; rw [hF.ring.M0 hx]
 | n + 1 => by
  show JU p m (fs p m _ n) _ = Jv p m (dv p v) x (JU p m _ _); rw [fs_ml hF hf hx n, hF.ring.Md hx (Jbt hF f n) (hf n)]
theorem Jbs (hF : FV P M mf p m v) {f : Nat -> Nat} : ∀ n, (∀ i, i < n -> f i = 0) -> fs p m f n = 0
 | 0, _ => rfl
 | n + 1, h => by
  show JU p m (fs p m f n) (f n) = 0; rw [Jbs hF n fun i hi => h i (by omega), h n (by omega), hF.ring.Az (by have := hF.ring.q2; omega)]
theorem Jme (hF : FV P M mf p m v) {f : Nat -> Nat} {j : Nat} (hj : f j < p ^ m) : ∀ n, j < n -> (∀ i, i < n -> i ≠ j -> f i = 0) -> fs p m f n = f j
 | 0, h, _ => absurd h (Nat.not_lt_zero _)
 | n + 1, h, e => by
  have R := hF.ring; show JU p m (fs p m f n) (f n) = f j; by_cases en : n = j
  .subst en; rw [Jbs hF n fun i hi => e i (by omega) (by omega), R.Ac, R.Az hj]
  .rw [Jme hF hj n (by omega) fun i hi => e i (by omega), e n (by omega) en, R.Az hj]
def cof (p m v c r : Nat) (pv : Nat -> Nat) (nR : Nat -> Nat) (a : Nat -> Nat) : Nat := JU p m (a c) (fs p m (fun i => Jv p m (dv p v) (nR i) (a (pv i))) r)
theorem Jy8 (hF : FV P M mf p m v) {c r : Nat} {pv nR : Nat -> Nat} (hc : c < w) (hpv : ∀ i, i < r -> pv i < w) (hn : ∀ i, nR i < p ^ m) : Lin p m v w (cof p m v c r pv nR) where
 lt a := hF.ring.Al _ _
 cg h := by
  unfold cof; rw [h c hc, fs_cg r fun i hi => by rw [h _ (hpv i hi)]]
 ad {a b x} ha hb hx := by
  have R := hF.ring; unfold cof; have e : (fun i => Jv p m (dv p v) (nR i) (JU p m (a (pv i)) (Jv p m (dv p v) x (b (pv i))))) = fun i => JU p m (Jv p m (dv p v) (nR i) (a (pv i))) (Jv p m (dv p v) x (Jv p m (dv p v) (nR i) (b (pv i)))) := funext fun i => by
   rw [R.Md (hn i) (ha _) (R.Ml _ _), <- R.Ma (hn i) hx (hb _), R.Mc (hn i) hx, R.Ma hx (hn i) (hb _)]
  rw [e, Jmf hF (fun i => R.Ml _ _) (fun i => R.Ml _ _) hx, mix hF (ha c) (R.Ml _ _) (Jbt hF _ _) (R.Ml _ _), <- R.Md hx (hb c) (Jbt hF _ _)]
 ml {a x} ha hx := by
  have R := hF.ring; unfold cof; have e : (fun i => Jv p m (dv p v) (nR i) (Jv p m (dv p v) x (a (pv i)))) = fun i => Jv p m (dv p v) x (Jv p m (dv p v) (nR i) (a (pv i))) := funext fun i => by
   rw [<- R.Ma (hn i) hx (ha _), R.Mc (hn i) hx, R.Ma hx (hn i) (ha _)]
  rw [e, fs_ml hF (fun i => R.Ml _ _) hx, <- R.Md hx (ha c) (Jbt hF _ _)]
theorem Jv2 (hF : FV P M mf p m v) : ∃ g, Gn (p ^ m) (Jv p m (dv p v)) g := hF.gen
end
end Go.Proofs.YtjgpkljepgcekaaGreat
namespace Go.Proofs.YtjgpkljepgcekaaGreat
section
variable {p m v g : Nat} {P M : Int} {mf : LI} {X Y : LL} {C : Int} {w : Nat}
theorem Jv9 (hF : FV P M mf p m v) {l : LI} {c : Nat} {z : Nat} (hz : z < p ^ m) (h : vo l c = (z : Int)) : en p m l c = z := by unfold en; rw [h]; exact Qi hz
theorem Jhw (hF : FV P M mf p m v) (hs : shp C X) (he : Els p m X) : Red C.toNat (ec p m v C X) := by
 obtain ⟨g, G⟩ := Jv2 hF; exact Ji5 G hF (Z7 hs) he rfl _
theorem Jpu (hF : FV P M mf p m v) {x : LI} {n : Nat} {Z : LL} : ∀ k, Elr p m (cmb p m v x n Z k)
 | 0 => Jmk fun t ht => by
  have : vo (cmb p m v x n Z 0) t = 0 := Jd6 n t; rw [this]; exact Jml (q := 0) (by have := hF.ring.q2; omega)
 | k + 1 => by rw [ZT]; exact Jh0 (by have := hF.p2; omega) (Jpu hF k)
theorem Jwj (hF : FV P M mf p m v) (he : Els p m X) : Els p m (Qq p m v C X) := fun r hr => ZR (S := ⟨X, List.replicate X.length [], [], 1⟩) (by have := hF.p2; omega) he C.toNat r (List.mem_of_mem_take hr)
theorem Jka (hF : FV P M mf p m v) (hs : shp C X) (he : Els p m X) {i t : Nat} (hi : i < (Qh p m v C X).length) (ht : t < (Qh p m v C X).length) : vo (row (Qq p m v C X) t) (vo (Qh p m v C X) i).toNat = if t = i then 1 else 0 := by
 have hS := ZS (p := p) (m := m) (v := v) hs; have := Jkc (p := p) (m := m) (v := v) hs; rw [show row (Qq p m v C X) t = row (ec p m v C X).X t from ZK ht]; exact (Jhw hF hs he).one i hi t (by have := hS.xl; omega)
theorem Jwg (hF : FV P M mf p m v) (hs : shp C X) (he : Els p m X) {i c : Nat} (hi : i < (Qh p m v C X).length) (hc : (c : Int) < vo (Qh p m v C X) i) : vo (row (Qq p m v C X) i) c = 0 := by
 rw [show row (Qq p m v C X) i = row (ec p m v C X).X i from ZK hi]; exact (Jhw hF hs he).lf i hi c hc
end
end Go.Proofs.YtjgpkljepgcekaaGreat
namespace Go.Proofs.YtjgpkljepgcekaaGreat
end Go.Proofs.YtjgpkljepgcekaaGreat
namespace Go.Proofs.YtjgpkljepgcekaaGreat
section
variable {p m v : Nat} {P M : Int} {mf : LI} {X Y : LL} {C : Int} {w : Nat}
theorem Jwq {f : (Nat -> Nat) -> Nat} {r cur : Nat} (hr : r < X.length) (hc : cur < X.length) (h : Ann p m f X) : Ann p m f (swq X r cur) := fun t ht => by
  rw [JS] at ht
  rw [Zm hr hc]
  split
  . exact h r hr
  . split
    . exact h cur hc
    . exact h t ht
theorem Jws {f : (Nat -> Nat) -> Nat} (L : Lin p m v w f) (hF : FV P M mf p m v) {cur : Nat} {e : Int} (hc : cur < X.length) (hw : (row X cur).length = w) (h : Ann p m f X) : Ann p m f (scq p m v X cur e) := fun t ht => by
 rw [Qp] at ht; rw [Jgv hc]; split
 .rw [L.sc hF hw, h cur hc, hF.ring.M0 (JQ (by have := hF.ring.q2; omega) _)]
 .exact h t ht
theorem Jwt {f : (Nat -> Nat) -> Nat} (L : Lin p m v w f) (hF : FV P M mf p m v) {cur : Nat} {g : Nat -> Int} (hc : cur < X.length) (hw : ∀ t, t < X.length -> (row X t).length = w) (h : Ann p m f X) : Ann p m f (clr p m v g cur X) := fun t ht => by
 have R := hF.ring; have hq : 0 < p ^ m := by have := R.q2; omega
 rw [Yz] at ht; rw [YN ht]; split
 .exact h t ht
 .rw [L.adx hF (hw t ht), h cur hc, h t ht, R.M0 (JQ hq _), R.Az hq]
theorem Jr1 (hF : FV P M mf p m v) {f : (Nat -> Nat) -> Nat} (L : Lin p m v w f) {S : ES} {c : Nat} (hw : ∀ t, t < S.X.length -> (row S.X t).length = w) (h : Ann p m f S.X) : Ann p m f (QV p m v S c).X := by
 unfold QV; split
 .rename_i h1
  obtain ⟨hc, hr⟩ := h1; rw [Ja3]; have hw1 : ∀ t, t < (swq S.X (nz S.X c S.pv.length) S.pv.length).length -> (row (swq S.X (nz S.X c S.pv.length) S.pv.length) t).length = w := fun t ht => by
   rw [JS] at ht; exact QH hr hc hw ht
  exact Jwt L hF (by rw [Qp, JS]; exact hc) (fun t ht => by rw [Qp] at ht; exact QJ (by rw [JS]; exact hc) hw1 ht) (Jws L hF (by rw [JS]; exact hc) (hw1 _ (by rw [JS]; exact hc)) (Jwq hr hc h))
 .exact h
theorem Jga (hF : FV P M mf p m v) {f : (Nat -> Nat) -> Nat} (L : Lin p m v w f) {n wy : Nat} {S : ES} (hS : Shp n w wy S) (h : Ann p m f S.X) : ∀ k, Ann p m f (elim p m v k S).X
 | 0 => h
 | k + 1 => by
  rw [QD]; have hk := YG (p := p) (m := m) (v := v) hS k; exact Jr1 hF L (fun t ht => hk.xr t (by have := hk.xl; omega)) (Jga hF L hS h k)
theorem Jpw (hF : FV P M mf p m v) (hs : shp C X) (he : Els p m X) {f : (Nat -> Nat) -> Nat} (L : Lin p m v C.toNat f) : Ann p m f (Qq p m v C X) ↔ Ann p m f X := by
  have R := hF.ring
  have hq : 0 < p ^ m := by have := R.q2; omega
  obtain ⟨g, G⟩ := Jv2 hF
  have hS := ZS (p := p) (m := m) (v := v) hs
  have red := Jhw hF hs he
  have hl := ZU (p := p) (m := m) (v := v) hs
  have hpl := Jkc (p := p) (m := m) (v := v) hs
  have f0 : ∀ a : Nat -> Nat, (∀ c, c < C.toNat -> a c = 0) -> f a = 0 := fun a ha => by
    have h1 := L.ml (a := fun _ => 0) (x := 0) (fun _ => hq) hq
    rw [R.Mc hq (L.lt _), R.M0 (L.lt _)] at h1
    rw [<- h1]
    exact L.cg fun c hc => by rw [ha c hc, R.M0 hq]
  refine ⟨fun h => Jke G hF L (Z7 hs) he C.toNat fun t ht => ?_, fun h t ht => ?_⟩
  . by_cases hr : t < (Qh p m v C X).length
    . have := h t (by omega)
      rwa [show row (Qq p m v C X) t = row (ec p m v C X).X t from ZK hr] at this
    . exact f0 _ fun c hc => Jv9 hF hq (red.lo t (by show (Qh p m v C X).length <= t; omega) ht c hc)
  . rw [show row (Qq p m v C X) t = row (ec p m v C X).X t from ZK (by show t < (Qh p m v C X).length; omega)]
    exact Jga hF L (Z7 hs) h C.toNat t (by have := hS.xl; show t < (ec p m v C X).X.length; omega)
end
end Go.Proofs.YtjgpkljepgcekaaGreat
namespace Go.Proofs.YtjgpkljepgcekaaGreat
section
variable {p m v : Nat} {P M : Int} {mf : LI} {X Y : LL} {C : Int} {w : Nat}
end
end Go.Proofs.YtjgpkljepgcekaaGreat
namespace Go.Proofs.YtjgpkljepgcekaaGreat
section
variable {p m v : Nat} {P M : Int} {mf : LI} {X Y : LL} {C : Int} {w : Nat}
end
end Go.Proofs.YtjgpkljepgcekaaGreat
namespace Go.Proofs.YtjgpkljepgcekaaGreat
section
variable {p m v : Nat} {P M : Int} {mf : LI} {X Y : LL} {C : Int} {w : Nat}
end
end Go.Proofs.YtjgpkljepgcekaaGreat
namespace Go.Proofs.YtjgpkljepgcekaaGreat
section
variable {p m v : Nat} {P M : Int} {mf : LI} {X Y : LL} {C : Int} {w wy : Nat}
def e2 (p m w : Nat) (a b : LI) : Nat -> Nat := fun c => if c < w then en p m a c else en p m b (c - w)
end
end Go.Proofs.YtjgpkljepgcekaaGreat
namespace Go.Proofs.YtjgpkljepgcekaaGreat
section
variable {p m v : Nat} {P M : Int} {mf : LI} {X Y : LL} {C : Int} {w wy : Nat}
end
end Go.Proofs.YtjgpkljepgcekaaGreat
namespace Go.Proofs.YtjgpkljepgcekaaGreat
end Go.Proofs.YtjgpkljepgcekaaGreat
namespace Go.Proofs.YtjgpkljepgcekaaGreat
section
variable {p m v : Nat} {P M : Int} {mf : LI} {X Y : LL} {C D : Int} {w wy : Nat}
theorem Jjn (hF : FV P M mf p m v) {f : (Nat -> Nat) -> Nat} (L : Lin p m v w f) {a : Nat -> Nat} (ha : ∀ c, c < w -> a c = 0) : f a = 0 := by
  have hq : 0 < p ^ m := by have := hF.ring.q2; omega
  have h := L.ml (a := fun _ => 0) (x := 0) (fun _ => hq) hq
  have e : f (fun _ => Jv p m (dv p v) 0 0) = f a := L.cg fun c hc => by rw [ha c hc, hF.ring.M0 hq]
  rw [<- e, h, hF.ring.Mc hq (L.lt _), hF.ring.M0 (L.lt _)]
theorem Jpg (hF : FV P M mf p m v) {f : (Nat -> Nat) -> Nat} (L : Lin p m v w f) (x : LI) (B : LL) : ∀ k, f (en p m (cmb p m v x w B k)) = fs p m (fun i => Jv p m (dv p v) (inE (p ^ m) (vo x i)) (f (en p m (row B i)))) k
 | 0 => Jjn hF L fun c hc => by
  show inE (p ^ m) (vo (List.replicate w 0) c) = 0; rw [Jd6]; exact Qi (x := 0) (by have := hF.ring.q2; omega)
 | k + 1 => by
  rw [ZT, L.adx hF (Jdy x w k), Jpg hF L x B k]; rfl
def mm (p m v w : Nat) (A B : LL) : LL := (List.range A.length).map fun t => cmb p m v (row A t) w B B.length
end
end Go.Proofs.YtjgpkljepgcekaaGreat
namespace Go.Proofs.YtjgpkljepgcekaaGreat
section
variable {P M : Int} {mf : LI} {X : LL} {C : Int}
end
end Go.Proofs.YtjgpkljepgcekaaGreat
namespace Go.Proofs.YtjgpkljepgcekaaGreat
section
variable {p m v : Nat} {P M : Int} {mf : LI} {X Y : LL} {C D : Int} {w wy : Nat}
theorem Jy7 (hF : FV P M mf p m v) (hs : shp C X) (he : Els p m X) {a : Nat -> Nat} (ha : ∀ c, a c < p ^ m) (hA : ∀ f, Lin p m v C.toNat f -> Ann p m f (Qq p m v C X) -> f a = 0) {c : Nat} (hc : c < C.toNat) :
    a c = fs p m (fun i => Jv p m (dv p v) (a (vo (Qh p m v C X) i).toNat) (en p m (row (Qq p m v C X) i) c)) (Qh p m v C X).length := by
  have R := hF.ring
  have q1 : 1 < p ^ m := R.q2
  have hp : 0 < p := by have := hF.p2; omega
  have hasc := Je5 (p := p) (m := m) (v := v) C X
  have hcl := ZU (p := p) (m := m) (v := v) hs
  have hneg : ∀ y, y < p ^ m -> QP p m y < p ^ m := fun y _ => Yl hp y
  have L := Jy8 (w := C.toNat) hF (c := c) (r := (Qh p m v C X).length) (pv := fun i => (vo (Qh p m v C X) i).toNat) (nR := fun i => QP p m (en p m (row (Qq p m v C X) i) c)) hc (fun i hi => by have := hasc.1 i hi; show (vo (Qh p m v C X) i).toNat < _; omega) (fun i => hneg _ (Y8 hF _ _))
  have hann := hA _ L (fun s hsl => by
    show cof _ _ _ _ _ _ _ (en p m (row (Qq p m v C X) s)) = 0
    unfold cof
    have hsr : s < (Qh p m v C X).length := by omega
    have hd : ∀ i, i < (Qh p m v C X).length -> en p m (row (Qq p m v C X) s) (vo (Qh p m v C X) i).toNat = if s = i then 1 else 0 := fun i hi => by
      have := Jka hF hs he hi hsr
      by_cases e : s = i
      . rw [if_pos e] at this ⊢; exact Jv9 hF q1 this
      . rw [if_neg e] at this ⊢; exact Jv9 hF (by omega) this
    have h9 := Jme hF (f := fun i => Jv p m (dv p v) (QP p m (en p m (row (Qq p m v C X) i) c)) (en p m (row (Qq p m v C X) s) (vo (Qh p m v C X) i).toNat)) (j := s) (R.Ml _ _) _ hsr fun i hi hne => by
      show Jv p m (dv p v) _ _ = 0
      rw [hd i hi, if_neg (fun e => hne e.symm), R.M0 (hneg _ (Y8 hF _ _))]
    show JU p m _ (fs p m (fun i => Jv p m (dv p v) (QP p m (en p m (row (Qq p m v C X) i) c)) (en p m (row (Qq p m v C X) s) (vo (Qh p m v C X) i).toNat)) (Qh p m v C X).length) = 0
    rw [h9]
    show JU p m _ (Jv p m (dv p v) _ _) = 0
    rw [hd s hsr, if_pos rfl, R.M1 (hneg _ (Y8 hF _ _))]
    exact Yd hp (Y8 hF _ _))
  unfold cof at hann
  have hG := Jbt hF (fun i => Jv p m (dv p v) (a (vo (Qh p m v C X) i).toNat) (en p m (row (Qq p m v C X) i) c)) (Qh p m v C X).length
  have hN := Jbt hF (fun i => Jv p m (dv p v) (QP p m (en p m (row (Qq p m v C X) i) c)) (a (vo (Qh p m v C X) i).toNat)) (Qh p m v C X).length
  have hGN : JU p m (fs p m (fun i => Jv p m (dv p v) (a (vo (Qh p m v C X) i).toNat) (en p m (row (Qq p m v C X) i) c)) (Qh p m v C X).length) (fs p m (fun i => Jv p m (dv p v) (QP p m (en p m (row (Qq p m v C X) i) c)) (a (vo (Qh p m v C X) i).toNat)) (Qh p m v C X).length) = 0 := by
    have h1 := Jmf hF (f := fun i => Jv p m (dv p v) (a (vo (Qh p m v C X) i).toNat) (en p m (row (Qq p m v C X) i) c)) (h := fun i => Jv p m (dv p v) (QP p m (en p m (row (Qq p m v C X) i) c)) (a (vo (Qh p m v C X) i).toNat)) (x := 1) (fun i => R.Ml _ _) (fun i => R.Ml _ _) q1 (Qh p m v C X).length
    rw [R.Mc q1 hN, R.M1 hN] at h1
    rw [<- h1]
    refine Jbs hF _ fun i hi => ?_
    show JU p m (Jv p m (dv p v) _ _) (Jv p m (dv p v) 1 (Jv p m (dv p v) _ _)) = 0
    have ha' := ha (vo (Qh p m v C X) i).toNat
    have hb := Y8 hF (row (Qq p m v C X) i) c
    rw [R.Mc q1 (R.Ml _ _), R.M1 (R.Ml _ _), R.Mc (hneg _ hb) ha', <- R.Md ha' hb (hneg _ hb), Yd hp hb, R.M0 ha']
  have hx := ha c
  generalize fs p m (fun i => Jv p m (dv p v) (a (vo (Qh p m v C X) i).toNat) (en p m (row (Qq p m v C X) i) c)) (Qh p m v C X).length = G1 at *
  generalize fs p m (fun i => Jv p m (dv p v) (QP p m (en p m (row (Qq p m v C X) i) c)) (a (vo (Qh p m v C X) i).toNat)) (Qh p m v C X).length = N1 at *
  generalize a c = b at *
  calc b = JU p m b (JU p m G1 N1) := by rw [hGN, R.Az hx]
    _ = JU p m G1 (JU p m b N1) := by rw [<- R.Aa hx hG hN, R.Ac b G1, R.Aa hG hx hN]
    _ = G1 := by rw [hann, R.Az hG]
end
end Go.Proofs.YtjgpkljepgcekaaGreat
namespace Go.Proofs.YtjgpkljepgcekaaGreat
section
variable {p m v : Nat} {P M : Int} {mf : LI} {X Y : LL} {C D : Int} {w wy : Nat}
end
end Go.Proofs.YtjgpkljepgcekaaGreat
namespace Go.Proofs.YtjgpkljepgcekaaGreat
/-! ### canonical matrices -/
variable {P M : Int} {mf : LI} {p m v : Nat} {C : Int} {X Y : LL}
/-- The rows are canonical; q: the columns of their first entries. -/
structure Cnl (C : Nat) (X : LL) (q : Nat -> Nat) : Prop where
  lt : ∀ i, i < X.length -> q i < C
  one : ∀ i, i < X.length -> ∀ t, t < X.length -> vo (row X t) (q i) = if t = i then 1 else 0
  lf : ∀ i, i < X.length -> ∀ c, c < q i -> vo (row X i) c = 0
  asc : ∀ i j, i < j -> j < X.length -> q i < q j
def Jt0 (C : Int) (X : LL) : Prop := ∃ q, Cnl C.toNat X q
theorem Jkg (a o : LI) : adx p m v a 0 o = a := by unfold adx; rw [if_pos rfl]
theorem ng_0 (hF : FV P M mf p m v) : Ng p m 0 = 0 := (Jhg hF ⟨by omega, by
 have := hF.ring.q2; have h : (0 : Int) < ((p ^ m : Nat) : Int) := by exact_mod_cast (by omega : 0 < p ^ m)
 exact h⟩).2 rfl
theorem Jy5 (hF : FV P M mf p m v) {S : ES} {k : Nat} (he : Els p m S.X) (hj : S.pv.length < S.X.length) (h1 : ∀ t, t < S.X.length -> vo (row S.X t) k = if t = S.pv.length then 1 else 0) : (es1 p m v k S.pv.length S.pv.length S).X = S.X := by
 rw [Ja3]; have e1 : swq S.X S.pv.length S.pv.length = S.X := by unfold swq; rw [if_pos rfl]
 rw [e1]; have e2 : scq p m v S.X S.pv.length (vo (row S.X S.pv.length) k) = S.X := by
  unfold scq; rw [h1 _ hj, if_pos rfl, Jvu hF, Ju2 hF (Qg he _)]; refine QF (by simp) fun i hi => ?_; rw [Qv]; split
  .rename_i h; rw [h.1]
  .rfl
 rw [e2]; refine QF (by rw [Yz]) fun i hi => ?_; rw [Yz] at hi; rw [YN hi]; split
 .rfl
 .rename_i hne
  rw [h1 i hi, if_neg hne, ng_0 hF, Jkg]
theorem Jju (hF : FV P M mf p m v) {q : Nat -> Nat} {w wy : Nat} {Y : LL} {d : Int} (hq : Cnl w X q) (he : Els p m X) : ∀ k, k <= w -> (elim p m v k ⟨X, Y, [], d⟩).X = X /\ ∃ j, j <= X.length /\ (∀ i, i < j -> q i < k) /\ (∀ i, j <= i -> i < X.length -> k <= q i) /\ (elim p m v k ⟨X, Y, [], d⟩).pv = (List.range j).map fun i => ((q i : Nat) : Int)
 | 0, _ => ⟨rfl, 0, Nat.zero_le _, fun i h => absurd h (Nat.not_lt_zero i), fun i _ _ => Nat.zero_le _, rfl⟩
 | k + 1, hk => by
  obtain ⟨h1, j, hj, h2, h3, h4⟩ := Jju hF (Y := Y) (d := d) (wy := wy) hq he k (by omega); rw [QD]; generalize elim p m v k ⟨X, Y, [], d⟩ = S at h1 h4 ⊢; have hl : S.pv.length = j := by rw [h4]; simp
  unfold QV; rw [hl, h1]; by_cases hjn : j < X.length
  .by_cases hqk : q j = k
   .have hn : nz X k j = j := (Jjl (Nat.le_refl _) hj (fun t a b => by omega) (fun hh => by
     have := hq.one j hh j hh; rw [hqk, if_pos rfl] at this; rw [this]; decide)).symm
    rw [hn, if_pos ⟨hjn, hjn⟩]; have e := Jy5 (k := k) hF (S := S) (by rw [h1]; exact he) (by rw [hl, h1]; exact hjn) (fun t ht => by
     rw [h1] at ht ⊢; rw [hl, <- hqk]; exact hq.one j hjn t ht)
    rw [hl] at e; refine ⟨e.trans h1, j + 1, hjn, fun i hi => ?_, fun i a b => ?_, ?_⟩
    .rcases Nat.lt_or_ge i j with h | h
     .have := h2 i h; omega
     .have : i = j := by omega
      subst this; omega
    .have := hq.asc j i (by omega) b; omega
    .show S.pv ++ [(k : Int)] = _; rw [h4, List.range_succ, List.map_append, List.map_cons, List.map_nil, hqk]
   .have hlt : k < q j := by have := h3 j (Nat.le_refl _) hjn; omega
    have hz : ∀ t, j <= t -> t < X.length -> vo (row X t) k = 0 := fun t a b => hq.lf t b k (by
     rcases Nat.lt_or_ge j t with h | h
     .have := hq.asc j t h b; omega
     .have : t = j := by omega
      subst this; exact hlt)
    have hn : ¬ nz X k j < X.length := fun hh => (Zq X k j hj).2.2 hh (hz _ (Jpd X k j) hh); rw [if_neg (fun hh => hn hh.2)]; refine ⟨h1, j, hj, fun i hi => by have := h2 i hi; omega, fun i a b => ?_, h4⟩; rcases Nat.lt_or_ge j i with h | h
    .have := hq.asc j i h b; omega
    .have : i = j := by omega
     subst this; omega
  .rw [if_neg (fun hh => hjn hh.1)]; exact ⟨h1, j, hj, fun i hi => by have := h2 i hi; omega, fun i a b => by omega, h4⟩
theorem Jpv (hF : FV P M mf p m v) (hs : shp C X) (he : Els p m X) {q : Nat -> Nat} (hq : Cnl C.toNat X q) : Qq p m v C X = X /\ Qh p m v C X = (List.range X.length).map fun i => ((q i : Nat) : Int) := by
 obtain ⟨h1, j, hj, h2, h3, h4⟩ := Jju (wy := 0) (Y := List.replicate X.length []) (d := 1) hF hq he C.toNat (Nat.le_refl _); have e : j = X.length := by
  rcases Nat.lt_or_ge j X.length with h | h
  .have := h3 j (Nat.le_refl _) h; have := hq.lt j h; omega
  .omega
 subst e; have hP : Qh p m v C X = (List.range X.length).map fun i => ((q i : Nat) : Int) := h4; refine ⟨?_, hP⟩; show (elim p m v C.toNat ⟨X, List.replicate X.length [], [], 1⟩).X.take (elim p m v C.toNat ⟨X, List.replicate X.length [], [], 1⟩).pv.length = X; rw [h1, h4, List.length_map, List.length_range, List.take_length]
theorem Jbz (hs : shp C X) {i : Nat} (hi : i < (Qh p m v C X).length) : (((vo (Qh p m v C X) i).toNat : Nat) : Int) = vo (Qh p m v C X) i /\ (vo (Qh p m v C X) i).toNat < C.toNat := by
 have h := (Je5 (p := p) (m := m) (v := v) C X).1 i hi; omega
theorem Jwh (hF : FV P M mf p m v) (hs : shp C X) (he : Els p m X) : Cnl C.toNat (Qq p m v C X) fun i => (vo (Qh p m v C X) i).toNat := by
 have hl := ZU (p := p) (m := m) (v := v) hs; refine ⟨fun i hi => (Jbz hs (by omega)).2, fun i hi t ht => Jka hF hs he (by omega) (by omega), fun i hi c hc => ?_, fun i j hij hj => ?_⟩
 .exact Jwg hF hs he (by omega) (by have := (Jbz (p := p) (m := m) (v := v) hs (i := i) (by omega)).1; omega)
 .have h := (Je5 (p := p) (m := m) (v := v) C X).2 i j hij (by omega); have h1 := (Jbz (p := p) (m := m) (v := v) hs (i := i) (by omega)).1; have h2 := (Jbz (p := p) (m := m) (v := v) hs (i := j) (by omega)).1; omega
theorem Jwd (hF : FV P M mf p m v) (hs : shp C X) (he : Els p m X) : Jt0 C X ↔ Qq p m v C X = X :=
 ⟨fun ⟨q, hq⟩ => (Jpv hF hs he hq).1, fun h => ⟨_, by have := Jwh hF hs he; rwa [h] at this⟩⟩
/-- Canonical rows are no more than columns. -/
theorem Cnl.len {w : Nat} {q : Nat -> Nat} (h : Cnl w X q) : X.length <= w := by
  have : ∀ k, k <= X.length -> k = 0 ∨ k <= q (k - 1) + 1 := by
    intro k
    induction k with
    | zero => intro _; exact .inl rfl
    | succ k ih =>
      intro hk
      refine .inr ?_
      rcases ih (by omega) with h0 | h1
      . subst h0; omega
      . rcases Nat.eq_zero_or_pos k with h0 | h0
        . subst h0; omega
        . have := h.asc (k - 1) k (by omega) (by omega)
          rw [Nat.add_sub_cancel]; omega
  rcases this X.length (Nat.le_refl _) with h0 | h1
  . omega
  . rcases Nat.eq_zero_or_pos X.length with h0 | h0
    . omega
    . have := h.lt (X.length - 1) (by omega); omega
end Go.Proofs.YtjgpkljepgcekaaGreat
namespace Go.Proofs.YtjgpkljepgcekaaGreat
/-! ### words reduced by canonical rows -/
variable {P M : Int} {mf : LI} {p m v : Nat} {C : Int} {X Y : LL} {w : Nat}
def Sb (p m : Nat) (x y : Int) : Int := ((JU p m (inE (p ^ m) x) (QP p m (inE (p ^ m) y)) : Nat) : Int)
def sbx (p m v : Nat) (a : LI) (x : Int) (o : LI) : LI := if x = 0 then a else (List.range a.length).map fun i => if i < o.length then Sb p m (vo a i) (Ml p m v x (vo o i)) else vo a i
theorem ml_z (hF : FV P M mf p m v) {x z : Int} (hz : inE (p ^ m) z = 0 ∨ inE (p ^ m) x = 0) : Ml p m v x z = 0 := by
 have hq : 0 < p ^ m := by have := hF.ring.q2; omega
 unfold Ml; rcases hz with h | h
 .rw [h, hF.ring.M0 (JQ hq _)]; rfl
 .rw [h, hF.ring.Mc hq (JQ hq _), hF.ring.M0 (JQ hq _)]; rfl
theorem Jpl (hF : FV P M mf p m v) : inE (p ^ m) 0 = 0 := Qi (x := 0) (by have := hF.ring.q2; omega)
theorem neg_ml (hF : FV P M mf p m v) {x y : Nat} (hx : x < p ^ m) (hy : y < p ^ m) : QP p m (Jv p m (dv p v) x y) = Jv p m (dv p v) (QP p m x) y := by
 have R := hF.ring; have hp : 0 < p := by have := hF.p2; omega
 have hn := Yl (m := m) hp x; have h1 : JU p m (Jv p m (dv p v) x y) (Jv p m (dv p v) (QP p m x) y) = 0 := by
  rw [R.Mc hx hy, R.Mc hn hy, <- R.Md hy hx hn, Yd hp hx, R.M0 hy]
 have h2 := Yd (m := m) hp (R.Ml x y); have h3 := R.Ml (QP p m x) y; have h4 := Yl (m := m) hp (Jv p m (dv p v) x y); have h5 : JU p m (JU p m (Jv p m (dv p v) (QP p m x) y) (Jv p m (dv p v) x y)) (QP p m (Jv p m (dv p v) x y)) = Jv p m (dv p v) (QP p m x) y := by
  rw [R.Aa h3 (R.Ml x y) h4, h2, R.Az h3]
 rw [R.Ac (Jv p m (dv p v) (QP p m x) y), h1, R.Ac, R.Az h4] at h5; exact h5
theorem Jpk (hF : FV P M mf p m v) {x : Nat} (h : x < p ^ m) : inE (p ^ m) ((x : Nat) : Int) = x := Qi h
theorem Jx6 (hF : FV P M mf p m v) {a o : LI} {x : Int} (ha : Elr p m a) (hx : El p m x) : sbx p m v a x o = adx p m v a (Ng p m x) o := by
 have R := hF.ring; have hp : 0 < p := by have := hF.p2; omega
 have hq : 0 < p ^ m := by have := R.q2; omega
 unfold sbx; by_cases h : x = 0
 .subst h; rw [if_pos rfl, ng_0 hF, Jkg]
 .rw [if_neg h]; have hn : Ng p m x ≠ 0 := fun e => h ((Jhg hF hx).1 e); unfold adx; rw [if_neg hn]; refine List.ext_getElem (by simp [adm]) fun i h1 h2 => ?_; simp only [List.length_map, List.length_range] at h1; simp only [adm, List.getElem_map, List.getElem_range]; have hai : El p m (vo a i) := Jcx ha h1; by_cases ho : vo o i = 0
  .rw [if_pos ho, ho]; split
   .unfold Sb; rw [ml_z hF (.inl (Jpl hF)), Jpl hF]; have : QP p m 0 = 0 := by
     have h0 := Yd (m := m) hp hq; rw [R.Ac, R.Az (Yl hp 0)] at h0; exact h0
    rw [this, R.Az (JQ hq _), Jct hai]
   .rfl
  .have hi : i < o.length := by
    rcases Nat.lt_or_ge i o.length with hh | hh
    .exact hh
    .exact absurd (Jax hh) ho
   rw [if_pos hi, if_neg ho]; unfold Sb Ad Ml Ng; rw [Jpk hF (R.Ml _ _), Jpk hF (R.Ml _ _), Jpk hF (Yl hp _), neg_ml hF (JQ hq _) (JQ hq _)]
/-- The word u less the combination of the first k rows that has the entries of u at Q. -/
def rsd (p m v : Nat) (Q : Nat -> Nat) (X : LL) (u : LI) : Nat -> LI
  | 0 => u
  | k + 1 => adx p m v (rsd p m v Q X u k) (Ng p m (vo u (Q k))) (row X k)
theorem Z8 (Q : Nat -> Nat) (u : LI) : ∀ k, (rsd p m v Q X u k).length = u.length
 | 0 => rfl
 | k + 1 => by rw [rsd, Jb0, Z8 Q u k]
theorem Z9 (hp : 0 < p) (Q : Nat -> Nat) {u : LI} (hu : Elr p m u) : ∀ k, Elr p m (rsd p m v Q X u k)
 | 0 => hu
 | k + 1 => Jh0 hp (Z9 hp Q hu k)
theorem Jvb (hF : FV P M mf p m v) {Q : Nat -> Nat} {u : LI} {c : Nat} (hc : c < u.length) : ∀ k, en p m (rsd p m v Q X u k) c = JU p m (en p m u c) (fs p m (fun i => Jv p m (dv p v) (inE (p ^ m) (Ng p m (vo u (Q i)))) (en p m (row X i) c)) k)
 | 0 => by
  have R := hF.ring; show en p m u c = JU p m (en p m u c) 0; rw [R.Az (Y8 hF u c)]
 | k + 1 => by
  have R := hF.ring; rw [rsd, Jmj hF (by rw [Z8]; exact hc), Jvb hF hc k, R.Aa (Y8 hF u c) (Jbt hF _ k) (R.Ml _ _)]; rfl
theorem Jgu (hF : FV P M mf p m v) {f : (Nat -> Nat) -> Nat} (L : Lin p m v w f) {Q : Nat -> Nat} {u : LI} (hu : u.length = w) (hX : Ann p m f X) : ∀ k, k <= X.length -> f (en p m (rsd p m v Q X u k)) = f (en p m u)
 | 0, _ => rfl
 | k + 1, hk => by
  have R := hF.ring; rw [rsd, L.adx hF (by rw [Z8]; exact hu), hX k (by omega), R.M0 (JQ (by have := R.q2; omega) _), R.Az (L.lt _), Jgu hF L hu hX k (by omega)]
theorem Jpq (hF : FV P M mf p m v) {l : LI} {c : Nat} (h : El p m (vo l c)) : en p m l c = 0 ↔ vo l c = 0 := by
 unfold en; constructor
 .intro h0; have := Jct h; rw [h0] at this; exact this.symm
 .intro h0; rw [h0, Jpl hF]
theorem Jbv (hF : FV P M mf p m v) {l : LI} (h : Elr p m l) (c : Nat) : El p m (vo l c) := by
 rcases Nat.lt_or_ge c l.length with hc | hc
 .exact Jcx h hc
 .rw [Jax hc]; have := hF.ring.q2; exact ⟨by omega, by exact_mod_cast (by omega : 0 < p ^ m)⟩
/-- At the pivots the reduced word is 0. -/
theorem Jva (hF : FV P M mf p m v) {Q : Nat -> Nat} (hlt : ∀ j, j < X.length -> Q j < w) (hone : ∀ j, j < X.length -> ∀ t, t < X.length -> vo (row X t) (Q j) = if t = j then 1 else 0) {u : LI} (hu : u.length = w) (he : Elr p m u) {j : Nat} (hj : j < X.length) : vo (rsd p m v Q X u X.length) (Q j) = 0 := by
  have R := hF.ring
  have hp : 0 < p := by have := hF.p2; omega
  have hq1 : 1 < p ^ m := by have := R.q2; omega
  refine (Jpq hF (Jbv hF (Z9 hp Q he _) _)).1 ?_
  rw [Jvb hF (by rw [hu]; exact hlt j hj)]
  have e1 : inE (p ^ m) 1 = 1 := Qi (x := 1) hq1
  have hs : fs p m (fun i => Jv p m (dv p v) (inE (p ^ m) (Ng p m (vo u (Q i)))) (en p m (row X i) (Q j))) X.length = inE (p ^ m) (Ng p m (vo u (Q j))) := by
    refine (Jme hF (f := fun i => Jv p m (dv p v) (inE (p ^ m) (Ng p m (vo u (Q i)))) (en p m (row X i) (Q j))) (j := j) (R.Ml _ _) X.length hj (fun i hi hne => ?_)).trans ?_
    . show Jv p m (dv p v) _ (inE (p ^ m) (vo (row X i) (Q j))) = 0
      rw [hone j hj i hi, if_neg hne, Jpl hF, R.M0 (JQ (by omega) _)]
    . show Jv p m (dv p v) _ (inE (p ^ m) (vo (row X j) (Q j))) = _
      rw [hone j hj j hj, if_pos rfl, e1, R.M1 (JQ (by omega) _)]
  rw [hs]
  unfold Ng en
  rw [Jpk hF (Yl hp _), Yd hp (JQ (by omega) _)]
theorem Jx8 (hF : FV P M mf p m v) {Q : Nat -> Nat} (hq : Cnl w X Q) {u : LI} (hu : u.length = w) (he : Elr p m u) {j : Nat} (hj : j < X.length) : vo (rsd p m v Q X u X.length) (Q j) = 0 := Jva hF hq.lt hq.one hu he hj
/-- u is a combination of the rows: what takes the rows to 0 takes u to 0. -/
def Sp (p m v w : Nat) (X : LL) (u : LI) : Prop := ∀ f, Lin p m v w f -> Ann p m f X -> f (en p m u) = 0
theorem sp_rsd (hF : FV P M mf p m v) (hs : shp C X) (he : Els p m X) {Q : Nat -> Nat} (hq : Cnl C.toNat X Q) {u : LI} (hu : u.length = C.toNat) (hue : Elr p m u) : Sp p m v C.toNat X u ↔ ∀ c, c < C.toNat -> vo (rsd p m v Q X u X.length) c = 0 := by
 have R := hF.ring; have hp : 0 < p := by have := hF.p2; omega
 obtain ⟨hX, hP⟩ := Jpv hF hs he hq; constructor
 .intro h c hc; refine (Jpq hF (Jbv hF (Z9 hp Q hue _) _)).1 ?_; rw [Jy7 hF hs he (a := en p m (rsd p m v Q X u X.length)) (Y8 hF _) (fun f L hf => by
   rw [hX] at hf; rw [Jgu hF L hu hf X.length (Nat.le_refl _)]; exact h f L hf) hc]
  refine Jbs hF _ fun i hi => ?_; have hi' : i < X.length := by rw [hP] at hi; simpa using hi
  have e : (vo (Qh p m v C X) i).toNat = Q i := by rw [hP, Jgm hi']; simp
  rw [e, hX]; have : en p m (rsd p m v Q X u X.length) (Q i) = 0 := (Jpq hF (Jbv hF (Z9 hp Q hue _) _)).2 (Jx8 hF hq hu hue hi'); rw [this, R.Mc (by have := R.q2; omega) (Y8 hF _ _), R.M0 (Y8 hF _ _)]
 .intro h f L hf; rw [<- Jgu hF L hu hf X.length (Nat.le_refl _) (Q := Q)]; exact Jjn hF L fun c hc => (Jpq hF (Jbv hF (Z9 hp Q hue _) _)).2 (h c hc)
end Go.Proofs.YtjgpkljepgcekaaGreat
namespace Go.Proofs.YtjgpkljepgcekaaGreat
/-! ### the checks of a space -/
variable {P M : Int} {mf : LI} {p m v g : Nat} {C : Int} {X Y : LL} {F : GFv}
theorem Jxu {l : LI} {pf : Int -> (Bool -> Prop) -> Prop} {f : Int -> Bool} {Q : Int -> Prop} (hl : l.length <= 1000000) (hp : ∀ x (R : Bool -> Prop), R (f x) -> pf x R)
  (h1 : ∀ k : Nat, k < l.length -> f (vo l k) = true -> (∀ j, j < k -> f (vo l j) = false) -> Q (k : Int)) (h2 : (∀ j, j < l.length -> f (vo l j) = false) -> Q (-1)) : YA l pf Q := by
 refine ⟨fun z => ∃ k : Nat, z = k /\ k <= l.length /\ ∀ j, j < k -> f (vo l j) = false, fun z => (l.length - z).toNat, ⟨0, rfl, Nat.zero_le _, fun j hj => by omega⟩, ?_⟩; rintro _ ⟨k, rfl, hk, hv⟩; dsimp only; refine ⟨fun hlt => ⟨⟨by omega, by omega⟩, hp _ _ ⟨fun hb => h1 k (by omega) hb hv, fun hb => ⟨Jq (by omega) (by omega), ⟨k + 1, by push_cast; rfl, by omega, fun j hj => ?_⟩, by omega⟩⟩⟩, fun hge => h2 fun j hj => hv j (by omega)⟩; rcases Nat.lt_or_ge j k with h | h
 .exact hv j h
 .have : j = k := by omega
  subst this; exact hb
theorem Jk7 {l : LI} {Q : Int -> Prop} (hl : l.length <= 1000000)
  (h1 : ∀ k : Nat, k < l.length -> vo l k ≠ 0 -> (∀ j, j < k -> vo l j = 0) -> Q (k : Int)) (h2 : (∀ j, j < l.length -> vo l j = 0) -> Q (-1)) : YA l (fun xc Qc => Q7 xc Qc) Q :=
 Jxu (f := fun x => decide (x ≠ 0)) hl (fun x R hR => hR) (fun k hk hb hv => h1 k hk (of_decide_eq_true hb) fun j hj => Classical.not_not.1 (of_decide_eq_false (hv j hj))) (fun hv => h2 fun j hj => Classical.not_not.1 (of_decide_eq_false (hv j hj)))
/-- The first entry of a canonical row. -/
theorem Cnl.lead {w : Nat} {q : Nat -> Nat} (h : Cnl w X q) {t k : Nat} (ht : t < X.length) (hk : vo (row X t) k ≠ 0) (hz : ∀ j, j < k -> vo (row X t) j = 0) : q t = k := by
  rcases Nat.lt_trichotomy (q t) k with h1 | h1 | h1
  . have := hz _ h1
    rw [h.one t ht t ht, if_pos rfl] at this; exact absurd this (by decide)
  . exact h1
  . exact absurd (h.lf t ht k h1) hk
theorem Jfh {Q : Bool -> Prop} (hs : shp C X) (h1 : Jt0 C X -> Q true) (h2 : ¬ Jt0 C X -> Q false) : Yn C X Q := by
 obtain ⟨hX, hC, hCe⟩ := Zl hs; have hw : ∀ t, t < X.length -> (row X t).length = C.toNat := fun t ht => Yy hs ht; refine ⟨fun last z => ∃ t : Nat, z = t /\ t <= X.length /\ ∃ q : Nat -> Nat, (∀ i, i < t -> q i < C.toNat /\ (∀ s, s < X.length -> vo (row X s) (q i) = if s = i then 1 else 0) /\ ∀ c, c < q i -> vo (row X i) c = 0) /\ (∀ i j, i < j -> j < t -> q i < q j) /\ (t = 0 -> last = -1) /\ ∀ u, t = u + 1 -> last = (q u : Int), fun _ z => (X.length - z).toNat, ⟨0, rfl, Nat.zero_le _, fun _ => 0, fun i hi => absurd hi (Nat.not_lt_zero i), fun i j _ hj => absurd hj (Nat.not_lt_zero j), fun _ => rfl, fun u hu => by omega⟩, ?_⟩; rintro last _ ⟨t, rfl, ht, q, hq1, hq2, hl0, hl1⟩; dsimp only; refine ⟨fun hlt => ?_, fun hge => ?_⟩
 .have htl : t < X.length := by omega
  have hwt := hw t htl; refine ⟨⟨by omega, by omega⟩, ?_⟩; show YA (row X t) _ _; have hlast : ∀ q', Cnl C.toNat X q' -> ∀ u, t = u + 1 -> last = (q' u : Int) := fun q' hq' u hu => by
   have hul : u < X.length := by omega
   have := hq'.lead (t := u) (k := q u) hul (by rw [(hq1 u (by omega)).2.1 u hul, if_pos rfl]; decide) (hq1 u (by omega)).2.2; rw [this]; exact hl1 u hu
  refine Jk7 (by omega) (fun k hk hne hz => ?_) (fun hz => ?_)
  .have hkq : ∀ q', Cnl C.toNat X q' -> q' t = k := fun q' hq' => hq'.lead htl hne hz; refine ⟨fun hle => h2 ?_, fun hgt => ?_⟩
   .rintro ⟨q', hq'⟩; rcases Nat.eq_zero_or_pos t with h0 | h0
    .have := hl0 h0; omega
    .have e1 := hlast q' hq' (t - 1) (by omega); have e2 := hq'.asc (t - 1) t (by omega) htl; have e3 := hkq q' hq'; omega
   .refine ⟨⟨by omega, by show (k : Int) < ((row X t).length : Nat); omega⟩, fun hn1 => h2 ?_, fun h1' => ?_⟩
    .rintro ⟨q', hq'⟩; have := hq'.one t htl t htl; rw [hkq q' hq', if_pos rfl] at this; exact hn1 this
    .have hone : vo (row X t) k = 1 := Classical.not_not.1 h1'; refine ⟨fun z => ∃ u : Nat, z = u /\ u <= X.length /\ ∀ j, j < u -> j ≠ t -> vo (row X j) k = 0, fun z => (X.length - z).toNat, ⟨0, rfl, Nat.zero_le _, fun j hj => absurd hj (Nat.not_lt_zero j)⟩, ?_⟩; rintro _ ⟨u, rfl, hu, hju⟩; dsimp only; refine ⟨fun hlt2 => ?_, fun hge2 => ?_⟩
     .have hul : u < X.length := by omega
      have hwu := hw u hul; refine ⟨fun _ => u = t ∨ vo (row X u) k = 0, ⟨⟨by omega, by omega⟩, fun hne2 => ⟨⟨by omega, by show (k : Int) < ((row X u).length : Nat); omega⟩, fun hnz => h2 ?_, fun hz2 => .inr (Classical.not_not.1 hz2)⟩, fun he => .inl (by have := Classical.not_not.1 he; omega)⟩, ?_⟩
      .rintro ⟨q', hq'⟩; have := hq'.one t htl u hul; rw [hkq q' hq', if_neg (by omega)] at this; exact hnz this
      .intro b hb; refine ⟨Jq (by omega) (by omega), ⟨u + 1, by push_cast; rfl, by omega, fun j hj hne2 => ?_⟩, by omega⟩; rcases Nat.lt_or_ge j u with h | h
       .exact hju j h hne2
       .have : j = u := by omega
        subst this; exact hb.resolve_left hne2
     .obtain ⟨q2, e1, e2⟩ : ∃ q2 : Nat -> Nat, q2 t = k /\ ∀ i, i ≠ t -> q2 i = q i := ⟨fun i => if i = t then k else q i, if_pos rfl, fun i h => if_neg h⟩
      refine ⟨Jq (by omega) (by omega), ⟨t + 1, by push_cast; rfl, by omega, q2, fun i hi => ?_, fun i j hij hj => ?_, fun h0 => by omega, fun u hu => ?_⟩, by omega⟩
      .by_cases hit : i = t
       .subst hit; rw [e1]; refine ⟨by omega, fun s hs' => ?_, fun c hc => hz c hc⟩; by_cases hsi : s = i
        .subst hsi; rw [if_pos rfl]; exact hone
        .rw [if_neg hsi]; exact hju s (by omega) hsi
       .rw [e2 i hit]; exact hq1 i (by omega)
      .have hit : i ≠ t := by omega
       rw [e2 i hit]; by_cases hjt : j = t
       .subst hjt; rw [e1]; have hlu := hl1 (j - 1) (by omega); have : q i <= q (j - 1) := by
         rcases Nat.lt_or_ge i (j - 1) with h | h
         .exact Nat.le_of_lt (hq2 i (j - 1) h (by omega))
         .have : i = j - 1 := by omega
          rw [this]; exact Nat.le_refl _
        omega
       .rw [e2 j hjt]; exact hq2 i j hij (by omega)
      .have : u = t := by omega
       subst this; rw [e1]
  .have hge : (-1 : Int) <= last := by
    rcases Nat.eq_zero_or_pos t with h0 | h0
    .rw [hl0 h0]; exact Int.le_refl _
    .have := hl1 (t - 1) (by omega); omega
   refine ⟨fun _ => h2 ?_, fun hgt => absurd hge hgt⟩; rintro ⟨q', hq'⟩; have := hq'.one t htl t htl; rw [hz (q' t) (by have := hq'.lt t htl; omega), if_pos rfl] at this; exact absurd this (by decide)
 .have : t = X.length := by omega
  subst this; exact h1 ⟨q, fun i hi => (hq1 i hi).1, fun i hi t ht => (hq1 i hi).2.1 t ht, fun i hi => (hq1 i hi).2.2, hq2⟩
open Classical in
/-- the error of a space -/
noncomputable def sck (P M : Int) (mf : LI) (C : Int) (X : LL) : Int := if mck P M mf C X ≠ 0 then mck P M mf C X else if Jt0 C X then 0 else 5
theorem Ju0 (h : mck P M mf C X ≠ 0) : sck P M mf C X = mck P M mf C X := if_pos h
theorem Ju1 (h : mck P M mf C X = 0) (h2 : ¬ Jt0 C X) : sck P M mf C X = 5 := by unfold sck; rw [if_neg (fun hh => hh h), if_neg h2]
theorem Jlk (h : mck P M mf C X = 0) (h2 : Jt0 C X) : sck P M mf C X = 0 := by unfold sck; rw [if_neg (fun hh => hh h), if_pos h2]
theorem Jim {Q : Int -> Prop} (h : Q (sck P M mf C X)) : ZX P M mf C X Q := by
 refine Jd3 ⟨fun hne => by rw [Ju0 hne] at h; exact h, fun he => ?_⟩; have h0 : mck P M mf C X = 0 := Classical.not_not.1 he; obtain ⟨hV, hs, hE⟩ := Jet h0; refine Jfh hs (fun hc => ?_) (fun hc => ?_)
 .rw [Jlk h0 hc] at h; exact ⟨fun hb => (by cases hb), fun _ => h⟩
 .rw [Ju1 h0 hc] at h; exact ⟨fun _ => h, fun hb => by cases hb⟩
theorem Jbi {a b : LI} {Q : Bool -> Prop} (ha : a.length <= 1000000) (h1 : a = b -> Q true) (h2 : a ≠ b -> Q false) : YU a b Q := by
 refine ⟨fun hne => h2 fun e => hne (by rw [e]), fun he => ?_⟩; have hl : a.length = b.length := by have := Classical.not_not.1 he; omega
 refine ⟨fun z => ∃ t : Nat, z = t /\ t <= a.length /\ ∀ j, j < t -> vo a j = vo b j, fun z => (a.length - z).toNat, ⟨0, rfl, Nat.zero_le _, fun j hj => absurd hj (Nat.not_lt_zero j)⟩, ?_⟩; rintro _ ⟨t, rfl, ht, hj⟩; dsimp only; refine ⟨fun hlt => ⟨⟨by omega, by omega⟩, ⟨by omega, by omega⟩, fun hne => h2 fun e => hne (by rw [e]), fun heq => ⟨Jq (by omega) (by omega), ⟨t + 1, by push_cast; rfl, by omega, fun j hj' => ?_⟩, by omega⟩⟩, fun hge => h1 ?_⟩
 .rcases Nat.lt_or_ge j t with h | h
  .exact hj j h
  .have : j = t := by omega
   subst this; exact Classical.not_not.1 heq
 .refine List.ext_getElem hl fun i i1 i2 => ?_; have := hj i (by omega); unfold vo at this
  rwa [List.getD_eq_getElem?_getD, List.getElem?_eq_getElem i1, List.getD_eq_getElem?_getD, List.getElem?_eq_getElem i2] at this
theorem Jgj {X Y : LL} {Q : Bool -> Prop} (hX : X.length <= 1000000) (hr : ∀ t, t < X.length -> (row X t).length <= 1000000) (h1 : X = Y -> Q true) (h2 : X ≠ Y -> Q false) : YT X Y Q := by
 refine ⟨fun hne => h2 fun e => hne (by rw [e]), fun he => ?_⟩; have hl : X.length = Y.length := by have := Classical.not_not.1 he; omega
 refine ⟨fun z => ∃ t : Nat, z = t /\ t <= X.length /\ ∀ j, j < t -> row X j = row Y j, fun z => (X.length - z).toNat, ⟨0, rfl, Nat.zero_le _, fun j hj => absurd hj (Nat.not_lt_zero j)⟩, ?_⟩; rintro _ ⟨t, rfl, ht, hj⟩; dsimp only; refine ⟨fun hlt => ⟨⟨by omega, by omega⟩, ⟨by omega, by omega⟩, ?_⟩, fun hge => h1 (QF hl fun i hi => hj i (by omega))⟩; have htl : t < X.length := by omega
 by_cases e : row X t = row Y t
 .refine ⟨true, Jbi (hr t htl) (fun _ => rfl) (fun hne => absurd e hne), fun hb => (by cases hb), fun _ => ⟨Jq (by omega) (by omega), ⟨t + 1, by push_cast; rfl, by omega, fun j hj' => ?_⟩, by omega⟩⟩; rcases Nat.lt_or_ge j t with h | h
  .exact hj j h
  .have : j = t := by omega
   subst this; exact e
 .exact ⟨false, Jbi (hr t htl) (fun e' => absurd e' e) (fun _ => rfl), fun _ => h2 fun e' => e (by rw [e']), fun hb => (by cases hb)⟩
theorem Jql {Q : Int -> Prop} (h : Q (sck P M mf C X)) : Jaj P M mf C X Q := by
 refine Jqm ⟨fun hne => by rw [Ju0 hne] at h; exact h, fun he => ?_⟩; have h0 : mck P M mf C X = 0 := Classical.not_not.1 he; obtain ⟨hV, hs, hE⟩ := Jet h0; obtain ⟨p', m', v', hF, hE'⟩ := hE; refine Jt6 hF hs hE' ?_; have hcl := Jkb (p := p') (m := m') (v := v') hs; refine Jgj (by have := Jgt hcl; omega) (fun t ht => by have := Yy hcl ht; have := Zl hs; omega) (fun e => ?_) (fun e => ?_)
 .rw [Jlk h0 ((Jwd hF hs hE').2 e)] at h; exact ⟨fun hb => (by cases hb), fun _ => h⟩
 .rw [Ju1 h0 (fun hc => e ((Jwd hF hs hE').1 hc))] at h; exact ⟨fun _ => h, fun hb => by cases hb⟩
end Go.Proofs.YtjgpkljepgcekaaGreat
namespace Go.Proofs.YtjgpkljepgcekaaGreat
/-! ### pivots, reduced words -/
variable {P M : Int} {mf : LI} {p m v g : Nat} {C : Int} {X Y : LL} {F : GFv}
def pvl (q : Nat -> Nat) (n : Nat) : LI := (List.range n).map fun i => ((q i : Nat) : Int)
theorem Jbn (q : Nat -> Nat) (n : Nat) : (pvl q n).length = n := by simp [pvl]
theorem Jue {q : Nat -> Nat} {n i : Nat} (h : i < n) : vo (pvl q n) i = (q i : Int) := Jgm h
theorem Jt7 {q : Nat -> Nat} {Q : LI -> Prop} (hs : shp C X) (hq : Cnl C.toNat X q) (h : Q (pvl q X.length)) : Z2 C X Q := by
 obtain ⟨hX, hC, hCe⟩ := Zl hs; refine ⟨⟨by omega, by omega, by omega⟩, fun x z => ∃ t : Nat, z = t /\ t <= X.length /\ x.length = X.length /\ ∀ j, j < t -> vo x j = (q j : Int), fun _ z => (X.length - z).toNat, ⟨0, rfl, Nat.zero_le _, by simp, fun j hj => absurd hj (Nat.not_lt_zero j)⟩, ?_⟩; rintro x _ ⟨t, rfl, ht, hx, hj⟩; dsimp only; refine ⟨fun hlt => ?_, fun hge => ?_⟩
 .have htl : t < X.length := by omega
  refine ⟨⟨by omega, by omega⟩, ?_⟩; show YA (row X t) _ _; refine Jk7 (by have := Yy hs htl; omega) (fun k hk hne hz => ?_) (fun hz => ?_)
  .have e := hq.lead htl hne hz; refine ⟨⟨by omega, by omega⟩, Jq (by omega) (by omega), ⟨t + 1, by push_cast; rfl, by omega, by rw [J8, List.length_set]; exact hx, fun j hj' => ?_⟩, by omega⟩; rw [J8, J5]; by_cases e2 : t = j
   .subst e2; rw [if_pos ⟨rfl, by omega⟩, e]
   .rw [if_neg (fun hh => e2 hh.1)]; exact hj j (by omega)
  .have h1 := hq.one t htl t htl; rw [hz (q t) (by have := hq.lt t htl; have := Yy hs htl; omega), if_pos rfl] at h1; exact absurd h1 (by decide)
 .have : x = pvl q X.length := Yx (by rw [hx, Jbn]) fun i hi => by rw [hj i (by omega), Jue (by omega)]
  rw [this]; exact h
theorem w_Sub {x y : Int} {Q : Int -> Prop} (K : GFk F p m v g) (h : Q (Sb p m x y)) : Jqd F x y Q := by
 refine Jup K (v_Add K ?_); rw [Qi (Yl (by have := K.fv.p2; omega) _)]; exact h
theorem Jud {a o : LI} {x : Int} {k : Nat} (h0 : x ≠ 0) (hk : k < a.length) : vo (sbx p m v a x o) k = if k < o.length then Sb p m (vo a k) (Ml p m v x (vo o k)) else vo a k := by
 unfold sbx; rw [if_neg h0, Jgm hk]
theorem Jx5 (a o : LI) (x : Int) : (sbx p m v a x o).length = a.length := by
 unfold sbx; split
 .rfl
 .simp
theorem Jk4 {a o : LI} {x : Int} {Q : LI -> Prop} (K : GFk F p m v g) (hl : o.length <= a.length) (ha : a.length <= 1000000) (h : Q (sbx p m v a x o)) : ZA F a x o Q := by
 refine ⟨fun h0 => by unfold sbx at h; rwa [if_pos h0] at h, fun h0 => ?_⟩; refine ⟨fun y z => ∃ t : Nat, z = t /\ t <= o.length /\ y.length = a.length /\ ∀ k, k < a.length -> vo y k = if k < t then vo (sbx p m v a x o) k else vo a k, fun y z => (o.length - z).toNat, ⟨0, rfl, Nat.zero_le _, rfl, fun k hk => by simp⟩, ?_⟩; rintro y _ ⟨t, rfl, ht, hy, hk⟩; dsimp only; rw [JO, JO]; refine ⟨fun hlt => ⟨⟨by omega, by omega⟩, ⟨by omega, by omega⟩, _, Jiw K rfl, _, w_Sub K rfl, ⟨by omega, by omega⟩, Jq (by omega) (by omega), ⟨t + 1, by push_cast; rfl, by omega, by rw [J8, List.length_set]; exact hy, fun k hk' => ?_⟩, by omega⟩, fun hge => ?_⟩
 .rw [J8, J5]; by_cases e : t = k
  .subst e; rw [if_pos ⟨rfl, by omega⟩, if_pos (by omega), Jud h0 hk', if_pos (by omega), hk t hk', if_neg (by omega)]; rfl
  .rw [if_neg (fun h => e h.1), hk k hk']; by_cases hkt : k < t
   .rw [if_pos hkt, if_pos (by omega)]
   .rw [if_neg hkt, if_neg (by omega)]
 .have : y = sbx p m v a x o := Yx (by rw [hy, Jx5]) fun k hk' => by
   rw [hk k (by omega)]; split
   .rfl
   .rw [Jud h0 (by omega), if_neg (by omega)]
  rw [this]; exact h
theorem Jt5 {l : LL} {q : Nat -> Nat} {Q : LL -> Prop} (hF : FV P M mf p m v) (hs : shp C X) (hq : Cnl C.toNat X q) (hl : l.length <= 1000) (hw : ∀ t, t < l.length -> (row l t).length = C.toNat) (hE : Els p m l)
  (h : Q (l.map fun u => rsd p m v q X u X.length)) : ZY P M mf C X l Q := by
 obtain ⟨hX, hC, hCe⟩ := Zl hs; refine v_New (fun hV => absurd ⟨p, m, v, hF⟩ hV) fun F p' m' v' g' K e1 e2 e3 => ?_; have hF' : FV P M mf p' m' v' := by rw [<- e1, <- e2, <- e3]; exact K.fv
 obtain ⟨rfl, rfl, rfl⟩ := hF.uniq3 hF'; have hp : 0 < p := by have := hF.p2; omega
 refine Jt7 hs hq ?_; refine ⟨⟨by omega, by omega, by omega⟩, fun x z => ∃ t : Nat, z = t /\ t <= l.length /\ x.length = l.length /\ ∀ j, j < t -> row x j = rsd p m v q X (row l j) X.length, fun _ z => (l.length - z).toNat, ⟨0, rfl, Nat.zero_le _, by simp, fun j hj => absurd hj (Nat.not_lt_zero j)⟩, ?_⟩; rintro x _ ⟨t, rfl, ht, hx, hj⟩; dsimp only; refine ⟨fun hlt => ?_, fun hge => ?_⟩
 .have htl : t < l.length := by omega
  have hwt := hw t htl; have hgl : gl l (t : Int) = row l t := rfl; rw [hgl]; refine ⟨⟨by omega, by omega⟩, Z6 (by omega) ⟨⟨by omega, by omega⟩, ?_⟩⟩; refine ⟨fun y z => ∃ s : Nat, z = s /\ s <= X.length /\ y.length = l.length /\ row y t = rsd p m v q X (row l t) s /\ ∀ j, j < t -> row y j = row x j, fun _ z => (X.length - z).toNat, ⟨0, rfl, Nat.zero_le _, by rw [Jgs]; exact hx, ?_, fun j hj' => ?_⟩, ?_⟩
  .show row (x.set t (row l t)) t = _; rw [Qv, if_pos ⟨rfl, by omega⟩]; rfl
  .show row (x.set t (row l t)) j = _; rw [Qv, if_neg (fun hh => by omega)]
  rintro y _ ⟨s, rfl, hsx, hy, hyt, hyj⟩; dsimp only; refine ⟨fun hlt2 => ?_, fun hge2 => ?_⟩
  .have hsl : s < X.length := by rw [Jbn] at hlt2; omega
   have e : gi (pvl q X.length) (s : Int) = (q s : Int) := Jue hsl; have hqs := hq.lt s hsl; rw [e]; refine ⟨⟨by omega, by rw [Jbn]; omega⟩, ⟨by omega, by omega⟩, ⟨by omega, by omega⟩, ⟨by omega, by omega⟩, ?_⟩; have e4 : gi (row l t) (q s : Int) = vo (row l t) (q s) := rfl; have e5 : gl X (s : Int) = row X s := rfl; have e6 : gl y (t : Int) = row y t := rfl; rw [e4, e5, e6]; have hrow : (row X s).length = C.toNat := Yy hs hsl; have hyl : (row y t).length = C.toNat := by rw [hyt, Z8]; exact hwt
   have hyE : Elr p m (row y t) := by rw [hyt]; exact Z9 hp q (Qg hE t) s
   refine Jk4 K (by omega) (by omega) ?_; have hx1 : El p m (vo (row l t) (q s)) := Jcx (Qg hE t) (by omega); rw [Jx6 hF hyE hx1, hyt]; refine ⟨Jq (by omega) (by omega), ⟨s + 1, by push_cast; rfl, by omega, by rw [Jgs]; exact hy, ?_, fun j hj' => ?_⟩, by rw [Jbn] at hlt2; omega⟩
   .show row (y.set t _) t = _; rw [Qv, if_pos ⟨rfl, by omega⟩]; rfl
   .show row (y.set t _) j = _; rw [Qv, if_neg (fun hh => by omega)]; exact hyj j hj'
  .rw [Jbn] at hge2; have hsx' : s = X.length := by omega
   subst hsx'; refine ⟨Jq (by omega) (by omega), ⟨t + 1, by push_cast; rfl, by omega, hy, fun j hj' => ?_⟩, by omega⟩; by_cases e : j = t
   .subst e; exact hyt
   .rw [hyj j (by omega)]; exact hj j (by omega)
 .have : x = l.map fun u => rsd p m v q X u X.length := QF (by simp [hx]) fun i hi => by
   rw [hj i (by omega)]; unfold row; rw [List.getD_eq_getElem?_getD, List.getD_eq_getElem?_getD, List.getElem?_map, List.getElem?_eq_getElem (by omega : i < l.length)]; rfl
  rw [this]; exact h
def zr (u : LI) : Prop := ∀ c, c < u.length -> vo u c = 0
theorem Jqo {l : LL} {Q : Bool -> Prop} (hl : l.length <= 1000000) (hw : ∀ t, t < l.length -> (row l t).length <= 1000000) (h1 : (∀ t, t < l.length -> zr (row l t)) -> Q true) (h2 : (¬ ∀ t, t < l.length -> zr (row l t)) -> Q false) : Jao l Q := by
 refine ⟨fun z => ∃ t : Nat, z = t /\ t <= l.length /\ ∀ j, j < t -> zr (row l j), fun z => (l.length - z).toNat, ⟨0, rfl, Nat.zero_le _, fun j hj => absurd hj (Nat.not_lt_zero j)⟩, ?_⟩; rintro _ ⟨t, rfl, ht, hj⟩; dsimp only; refine ⟨fun hlt => ⟨⟨by omega, by omega⟩, ?_⟩, fun hge => h1 fun j hj' => hj j (by omega)⟩; have htl : t < l.length := by omega
 show Q3 (row l t) _ _; refine Jk7 (hw t htl) (fun k hk hne _ => ⟨fun _ => h2 fun hz => hne (hz t htl k hk), fun hb => ?_⟩) (fun hz => ⟨fun hb => absurd (of_decide_eq_true hb) (by decide), fun _ => ⟨Jq (by omega) (by omega), ⟨t + 1, by push_cast; rfl, by omega, fun j hj' => ?_⟩, by omega⟩⟩)
 .have := of_decide_eq_false hb; omega
 .rcases Nat.lt_or_ge j t with h | h
  .exact hj j h
  .rw [show j = t by omega]; exact hz
end Go.Proofs.YtjgpkljepgcekaaGreat
namespace Go.Proofs.YtjgpkljepgcekaaGreat
/-! ### two spaces: inclusion, quotient -/
variable {P M : Int} {mf : LI} {p m v g : Nat} {C Ca Cb : Int} {X Y a b : LL} {F : GFv}
/-- What is known of a space over a field. -/
structure Sg (P M : Int) (mf : LI) (p m v : Nat) (C : Int) (X : LL) (q : Nat -> Nat) : Prop where
  f : FV P M mf p m v
  s : shp C X
  e : Els p m X
  q : Cnl C.toNat X q
theorem Sg.mk0 {q : Nat -> Nat} (G : Sg P M mf p m v C X q) : mck P M mf C X = 0 := Jcs ⟨p, m, v, G.f⟩ G.s ((QW G.f).2 G.e)
theorem Sg.sck {q : Nat -> Nat} (G : Sg P M mf p m v C X q) : sck P M mf C X = 0 := Jlk G.mk0 ⟨q, G.q⟩
theorem Jlh {l : LL} (hC : 0 <= C /\ C <= 256) (hl : l.length <= 256) (hw : ∀ t, t < l.length -> (row l t).length = C.toNat) : shp C l := by
 unfold shp; refine ⟨hC.1, hC.2, by omega, fun r hr => ?_⟩; obtain ⟨t, ht, rfl⟩ := Jad hr; have := hw t ht; omega
theorem shp_C (hs : shp C X) : 0 <= C /\ C <= 256 := by have := Zl hs; omega
end Go.Proofs.YtjgpkljepgcekaaGreat
namespace Go.Proofs.YtjgpkljepgcekaaGreat
/-! ### sums, intersections, duals -/
variable {P M : Int} {mf : LI} {p m v g w : Nat} {C Ca Cb : Int} {X Y a b : LL}
/-! ### words -/
noncomputable def wdk (P M : Int) (mf : LI) (C : Int) (a : LL) (y : LI) : Int := if sck P M mf C a ≠ 0 then sck P M mf C a else if (y.length : Int) ≠ C then 3 else mck P M mf C [y]
theorem Jir {y : LI} {Q : Int -> Prop} (h : Q (wdk P M mf C a y)) : YX P M mf C a y Q := by
 unfold wdk at h; refine Jim ⟨fun h1 => by rwa [if_pos h1] at h, fun h1 => ⟨fun h2 => by rwa [if_neg h1, if_pos h2] at h, fun h2 => Jd3 (by rwa [if_neg h1, if_neg h2] at h)⟩⟩
theorem Jo5 {y : LI} (hC : 0 <= C /\ C <= 256) (hy : (y.length : Int) = C) : shp C [y] := Jlh hC (by simp) fun t ht => by
 have : t = 0 := by simpa using ht
 subst this; show y.length = _; omega
theorem Jdv {y : LI} : Els p m [y] ↔ Elr p m y := by unfold Els; simp
theorem Jxs {q : Nat -> Nat} {y : LI} (G : Sg P M mf p m v C a q) : wdk P M mf C a y = vce p m y C.toNat := by
 have hC := shp_C G.s; unfold wdk vce; rw [if_neg (fun hh => hh G.sck)]; by_cases h : (y.length : Int) = C
 .have hs := Jo5 (y := y) hC h; rw [if_neg (fun hh => hh h), if_neg (fun hh => hh (by omega))]; by_cases he : Elr p m y
  .rw [if_neg (fun hh => hh he)]; exact Jcs ⟨p, m, v, G.f⟩ hs ((QW G.f).2 (Jdv.2 he))
  .rw [if_pos he]; exact Jdw ⟨p, m, v, G.f⟩ hs fun hh => he (Jdv.1 ((QW G.f).1 hh))
 .rw [if_pos h, if_pos (by omega)]
theorem wdk_ok {q : Nat -> Nat} {y : LI} (G : Sg P M mf p m v C a q) (hy : y.length = C.toNat) (he : Elr p m y) : wdk P M mf C a y = 0 := by
 rw [Jxs G]; exact vce_ok hy he
theorem w_red1 {q : Nat -> Nat} {y : LI} {Q : LL -> Prop} (G : Sg P M mf p m v C a q) (hy : y.length = C.toNat) (he : Elr p m y) (h : Q [rsd p m v q a y a.length]) : ZY P M mf C a [y] Q :=
 Jt5 G.f G.s G.q (by simp) (fun t ht => by
  have : t = 0 := by simpa using ht
  subst this; exact hy) (Jdv.2 he) h
theorem w_Has {q : Nat -> Nat} {y : LI} {Q : Bool × Int -> Prop} (G : Sg P M mf p m v C a q) (hy : y.length = C.toNat) (he : Elr p m y) (h1 : zr (rsd p m v q a y a.length) -> Q (true, 0)) (h2 : ¬ zr (rsd p m v q a y a.length) -> Q (false, 0)) : Jqf P M mf C a y Q := by
 refine Jir ?_; rw [wdk_ok G hy he]; have hC := shp_C G.s; refine ⟨fun hh => absurd rfl hh, fun _ => w_red1 G hy he (Jqo (by simp) (fun t ht => ?_) (fun hz => h1 (hz 0 (by simp))) (fun hz => h2 fun hh => hz fun t ht => ?_))⟩
 .have : t = 0 := by simpa using ht
  subst this; show (rsd p m v q a y a.length).length <= _; rw [Z8]; omega
 .have : t = 0 := by simpa using ht
  subst this; exact hh
end Go.Proofs.YtjgpkljepgcekaaGreat
namespace Go.Proofs.YtjgpkljepgcekaaGreat
/-! ### the words of a set of positions; the examples -/
variable {P M : Int} {mf : LI} {p m v g w : Nat} {C Ca Cb : Int} {X Y a b : LL}
end Go.Proofs.YtjgpkljepgcekaaGreat
namespace Go.Proofs.YtjgpkljepgcekaaGreat
/-! ### the dual of the dual; dimensions -/
variable {P M : Int} {mf : LI} {p m v g w : Nat} {C Ca Cb : Int} {X Y a b : LL}
end Go.Proofs.YtjgpkljepgcekaaGreat
namespace Go.Proofs.YtjgpkljepgcekaaGreat
/-! ### dimensions -/
variable {P M : Int} {mf : LI} {p m v g w : Nat} {C Ca Cb : Int} {X Y a b : LL}
end Go.Proofs.YtjgpkljepgcekaaGreat
namespace Go.Proofs.YtjgpkljepgcekaaGreat
/-! ### package code and its reference -/
section
variable {P M : Int} {mf : LI} {p m v : Nat} {N C : Int} {X Y : LL}
theorem FV.mlen (h : FV P M mf p m v) : mf.length <= 1000 := by
 by_cases h1 : m = 1
 .rw [(h.m1 h1).1]; simp
 .rw [h.m2 h1, JW]; have h2 : 2 <= p := h.pr.two; have := Nat.lt_pow_self (n := m) (show 1 < p by omega); have := h.q; omega
/-- the error of a code -/
noncomputable def cck (P M : Int) (mf : LI) (N : Int) (X : LL) : Int := if ck P M mf ≠ 0 then ck P M mf else if 1 <= N /\ N <= 64 then sck P M mf N X else 4
theorem Jd4 {n : Int} {Q : Bool -> Prop} (h : Q (decide (1 <= n /\ n <= 64))) : YL n Q := by
 refine ⟨fun h1 => ?_, fun h1 => ?_⟩
 .have e : decide (1 <= n /\ n <= 64) = decide (n <= 64) := by simp [h1]
  rw [<- e]; exact h
 .have e : decide (1 <= n /\ n <= 64) = false := by simp [h1]
  rw [<- e]; exact h
theorem Jub {Q : Int -> Prop} (h : Q (cck P M mf N X)) : Jcb P M mf N X Q := by
 unfold cck at h; refine Jor ⟨fun h0 => ?_, fun h0 => Jd4 ⟨fun h1 => ?_, fun h1 => ⟨_, Jim rfl, ?_⟩⟩⟩
 .rw [if_pos h0] at h; exact h
 .rw [if_neg h0, if_neg (fun hh => by rw [decide_eq_true hh] at h1; cases h1)] at h; exact h
 .rw [if_neg h0, if_pos (of_decide_eq_true (by simpa using h1))] at h; exact h
theorem Jqn {Q : Int -> Prop} (h : Q (cck P M mf N X)) : Jal P M mf N X Q := by
 unfold cck at h; refine Jiv ⟨fun h0 => ?_, fun h0 => ⟨fun h1 => ?_, fun h1 => ⟨fun h2 => ?_, fun h2 => Jql ?_⟩⟩⟩
 .rw [if_pos h0] at h; exact h
 .rw [if_neg h0, if_neg (by omega)] at h; exact h
 .rw [if_neg h0, if_neg (by omega)] at h; exact h
 .rw [if_neg h0, if_pos (by omega)] at h; exact h
theorem Jwf {q : Nat -> Nat} (G : Sg P M mf p m v N X q) (h1 : 1 <= N) (h2 : N <= 64) : cck P M mf N X = 0 := by
 unfold cck; rw [if_neg (by rw [Je4 ⟨p, m, v, G.f⟩]; simp), if_pos ⟨h1, h2⟩, G.sck]
theorem Jio {mm : LL} {e : Int} {Q : Option LI × Int -> Prop} (he : e ≠ 0) (h : Q (none, e)) : Jc6 P M mf C mm e Q := ⟨fun _ => h, fun hh => absurd he hh⟩
theorem Jt9 {mm : LL} {Q : Option LI × Int -> Prop} (hm : mf.length <= 1000) (h : Q (some mf, 0)) : Jc6 P M mf C mm 0 Q := ⟨fun hh => absurd rfl hh, fun _ => Z6 (by omega) h⟩
/-- the error of New -/
noncomputable def nck (P M : Int) (mf : LI) (C : Int) (X : LL) : Int := if mck P M mf C X ≠ 0 then mck P M mf C X else if 1 <= C /\ C <= 64 then 0 else 4
theorem w_cNew {Q : Int × Int × LI × Int × LL × Int -> Prop} (h0 : nck P M mf C X ≠ 0 -> Q (0, 0, [], 0, [], nck P M mf C X))
  (h : ∀ p m v, FV P M mf p m v -> shp C X -> Els p m X -> 1 <= C /\ C <= 64 -> Q (P, M, mf, C, Qq p m v C X, 0)) : Jid P M mf C X Q := by
 unfold nck at h0; refine Jit (fun hb => ⟨fun hh => absurd hh hb, fun _ => Jio hb ?_⟩) fun p m v hF hs he hz => ⟨fun _ => Jd4 ?_, fun hh => absurd rfl hh⟩
 .rw [if_pos hb] at h0; exact h0 hb
 .rw [if_neg (fun hh => hh hz)] at h0; by_cases h1 : 1 <= C /\ C <= 64
  .refine ⟨fun z => z = 0, ⟨fun hh => by simp [h1] at hh, fun _ => rfl⟩, ?_⟩; rintro _ rfl; exact Jt9 hF.mlen (h p m v hF hs he h1)
  .refine ⟨fun z => z = 4, ⟨fun _ => rfl, fun hh => by simp [h1] at hh⟩, ?_⟩; rintro _ rfl; rw [if_neg h1] at h0; exact Jio (by decide) (h0 (by decide))
end
end Go.Proofs.YtjgpkljepgcekaaGreat
namespace Go.Proofs.YtjgpkljepgcekaaGreat
/-! ### monomials, lists compared -/
section
/-- the mask of the first i variables -/
def msk (l : LI) (i : Nat) : Nat := (l.take i).foldl (fun a v => a ||| 2 ^ v.toNat) 0
theorem Jjm {l : LI} {i : Nat} (h : i < l.length) : msk l (i + 1) = msk l i ||| 2 ^ (vo l i).toNat := by
 unfold msk vo; rw [List.take_add_one, List.foldl_append, List.getElem?_eq_getElem h, List.getD_eq_getElem?_getD, List.getElem?_eq_getElem h]; rfl
theorem Jl3 {l : LI} {m : Nat} : ∀ i, i <= l.length -> (∀ j, j < i -> 0 <= vo l j /\ vo l j < (m : Int)) -> msk l i < 2 ^ m
 | 0, _, _ => by simp only [msk, List.take_zero, List.foldl_nil]; exact Nat.pos_of_ne_zero (by simp)
 | i + 1, hi, h => by
  rw [Jjm (by omega)]; have := h i (by omega); refine Nat.or_lt_two_pow (Jl3 i (by omega) fun j hj => h j (by omega)) ?_; exact Nat.pow_lt_pow_right (by omega) (by omega)
/-- the values of a monomial at all points -/
def evl (m : Nat) (l : LI) : LI := (List.range (2 ^ m)).map fun x => if x &&& msk l l.length = msk l l.length then 1 else 0
theorem Jjp {x : Nat} (h : x <= 6) : QT 1 (x : Int) = ((2 ^ x : Nat) : Int) := by
 unfold QT; rw [Int.toNat_natCast, show min x IntKind.i64.bits = x from Nat.min_eq_left (by show x <= 64; omega)]; simp
theorem pow6 {x : Nat} (h : x <= 6) : 1 <= 2 ^ x /\ 2 ^ x <= 64 := ⟨Nat.one_le_two_pow, Nat.pow_le_pow_right (by omega) h⟩
theorem Jip {m : Nat} {l : LI} {Q : LI -> Prop} (hm : m <= 6) (hl : l.length <= 1000000) (hv : ∀ j, j < l.length -> 0 <= vo l j /\ vo l j < (m : Int)) (h : Q (evl m l)) : YW (m : Int) l Q := by
 refine ⟨fun x z => ∃ i : Nat, z = i /\ i <= l.length /\ x = ((msk l i : Nat) : Int), fun _ z => (l.length - z).toNat, ⟨0, rfl, Nat.zero_le _, rfl⟩, ?_⟩; rintro _ _ ⟨i, rfl, hi, rfl⟩; dsimp only; have hp := pow6 hm; refine ⟨fun hlt => ?_, fun hge => ?_⟩
 .have hb := hv i (by omega); obtain ⟨y, hy⟩ := Int.eq_ofNat_of_zero_le hb.1; have hg : gi l (i : Int) = (y : Int) := hy; have hy6 : y <= 6 := by omega
  have hp2 := pow6 hy6; have hk := Jl3 (m := m) i hi fun j hj => hv j (by omega); rw [hg, Jjp hy6]; refine ⟨⟨by omega, by omega⟩, ⟨by omega, Jq (by omega) (by omega)⟩, ⟨by omega, by omega, by omega, by omega⟩, Jq (by omega) (by omega), ⟨i + 1, by push_cast; rfl, by omega, ?_⟩, by omega⟩; rw [Jjm (by omega), hy]; simp only [ior, Int.toNat_natCast]
 obtain rfl : i = l.length := by omega
 have hk := Jl3 (m := m) l.length (Nat.le_refl _) hv; rw [Jjp hm]; refine ⟨⟨by omega, Jq (by omega) (by omega)⟩, ⟨by omega, by omega, by omega⟩, fun x z => ∃ k : Nat, z = k /\ k <= 2 ^ m /\ x.length = 2 ^ m /\ ∀ j, j < 2 ^ m -> vo x j = if j < k /\ j &&& msk l l.length = msk l l.length then 1 else 0, fun _ z => ((2 ^ m : Nat) - z).toNat, ⟨0, rfl, Nat.zero_le _, by rw [List.length_replicate, Int.toNat_natCast], fun j hj => ?_⟩, ?_⟩
 .rw [if_neg (by omega)]; unfold vo; rw [List.getD_eq_getElem?_getD, List.getElem?_replicate]; split <;> rfl
 rintro x _ ⟨k, rfl, hk2, hx, hx2⟩; dsimp only; refine ⟨fun hlt => ?_, fun hge => ?_⟩
 .refine ⟨fun y => y.length = 2 ^ m /\ ∀ j, j < 2 ^ m -> vo y j = if j < k + 1 /\ j &&& msk l l.length = msk l l.length then 1 else 0, ⟨⟨by omega, by omega, by omega, by omega⟩, fun he => ⟨⟨by omega, by omega⟩, ?_, fun j hj => ?_⟩, fun hne => ⟨hx, fun j hj => ?_⟩⟩, ?_⟩
  .rw [J8, List.length_set]; exact hx
  .have he' : k &&& msk l l.length = msk l l.length := by
    simp only [Jl8, Int.toNat_natCast] at he; omega
   rw [J8, J5, hx2 j hj]; by_cases e : k = j
   .subst e; rw [if_pos ⟨rfl, by omega⟩, if_pos ⟨by omega, he'⟩]
   .rw [if_neg (fun hh => e hh.1)]; by_cases e2 : j &&& msk l l.length = msk l l.length
    .by_cases e3 : j < k
     .rw [if_pos ⟨e3, e2⟩, if_pos ⟨by omega, e2⟩]
     .rw [if_neg (fun hh => e3 hh.1), if_neg (fun hh => by omega)]
    .rw [if_neg (fun hh => e2 hh.2), if_neg (fun hh => e2 hh.2)]
  .have hne' : ¬ k &&& msk l l.length = msk l l.length := fun e => hne (by simp only [Jl8, Int.toNat_natCast]; omega); rw [hx2 j hj]; by_cases e2 : j &&& msk l l.length = msk l l.length
   .have : j ≠ k := fun e => hne' (e ▸ e2); by_cases e3 : j < k
    .rw [if_pos ⟨e3, e2⟩, if_pos ⟨by omega, e2⟩]
    .rw [if_neg (fun hh => e3 hh.1), if_neg (fun hh => by omega)]
   .rw [if_neg (fun hh => e2 hh.2), if_neg (fun hh => e2 hh.2)]
  .rintro y ⟨h1, h2⟩; exact ⟨Jq (by omega) (by omega), ⟨k + 1, by push_cast; rfl, by omega, h1, h2⟩, by omega⟩
 have hk3 : k = 2 ^ m := by omega
 subst hk3; have e : x = evl m l := by
  refine List.ext_getElem (by simp [evl, hx]) fun j h1 h2 => ?_; have := hx2 j (by omega); unfold vo at this; rw [List.getD_eq_getElem?_getD, List.getElem?_eq_getElem h1] at this; simp only [Option.getD_some] at this; rw [this]; simp only [evl, List.getElem_map, List.getElem_range]; by_cases e2 : j &&& msk l l.length = msk l l.length
  .rw [if_pos ⟨by omega, e2⟩, if_pos e2]
  .rw [if_neg (fun hh => e2 hh.2), if_neg e2]
 rw [e]; exact h
theorem Jk9 {m : Int} {l : LI} {Q : LI × Int -> Prop} (h6 : ¬ (0 <= m /\ m <= 6) -> Q ([], 6)) (h5 : 0 <= m /\ m <= 6 -> ¬ Asc m.toNat l -> Q ([], 5)) (h0 : 0 <= m /\ m <= 6 -> Asc m.toNat l -> Q (evl m.toNat l, 0)) : ZF m l Q := by
 refine ⟨fun hh => h6 (by omega), fun h1 => ⟨fun hh => h6 (by omega), fun h2 => ?_⟩⟩; obtain ⟨n, rfl⟩ := Int.eq_ofNat_of_zero_le (show 0 <= m by omega); have hn : n <= 6 := by omega
 rw [Int.toNat_natCast] at h5 h0; have h5 := h5 ⟨by omega, by omega⟩; have h0 := h0 ⟨by omega, by omega⟩; refine ⟨fun z t => ∃ i : Nat, t = i /\ i <= l.length /\ (i : Int) <= z + 1 /\ z < (n : Int) /\ (∀ j, j < i -> 0 <= vo l j /\ vo l j <= z) /\ (∀ a b, a < b -> b < i -> vo l a < vo l b) /\ (0 < i -> z = vo l (i - 1)) /\ -1 <= z /\ (i = 0 -> z = -1), fun _ t => (l.length - t).toNat, ⟨0, rfl, Nat.zero_le _, by omega, by omega, fun j hj => absurd hj (Nat.not_lt_zero _), fun a b _ hb => absurd hb (Nat.not_lt_zero _), fun hh => absurd hh (Nat.lt_irrefl 0), by omega, fun _ => rfl⟩, ?_⟩; rintro z _ ⟨i, rfl, hi, hiz, hzn, ha, hb, hc, hz1, hz0⟩; dsimp only; refine ⟨fun hlt => ⟨⟨by omega, by omega⟩, fun hle => h5 fun hA => ?_, fun hgt => ⟨fun hge => h5 fun hA => ?_, fun hlt2 => ⟨Jq (by omega) (by omega), ⟨i + 1, by push_cast; rfl, by omega, ?_, ?_, fun j hj => ?_, fun a b hab hbi => ?_, fun _ => rfl, ?_, fun hh => absurd hh (Nat.succ_ne_zero _)⟩, by omega⟩⟩⟩, fun hge => ?_⟩
 .have hle' : vo l i <= z := hle; have := hA.1 i (by omega); rcases Nat.eq_zero_or_pos i with e | e
  .have := hz0 e; omega
  .have h1 := hc e; have := hA.2 (i - 1) i (by omega) (by omega); omega
 .have hge' : (n : Int) <= vo l i := hge; have := hA.1 i (by omega); omega
 .have hgt' : ¬ vo l i <= z := hgt; show ((i + 1 : Nat) : Int) <= vo l i + 1; omega
 .have hlt' : ¬ (n : Int) <= vo l i := hlt2; show vo l i < (n : Int)
  omega
 .have hgt' : ¬ vo l i <= z := hgt; show 0 <= vo l j /\ vo l j <= vo l i; rcases Nat.lt_or_ge j i with e | e
  .have := ha j e; omega
  .obtain rfl : j = i := by omega
   omega
 .have hgt' : ¬ vo l i <= z := hgt; rcases Nat.lt_or_ge b i with e | e
  .exact hb a b hab e
  .obtain rfl : b = i := by omega
   have := ha a hab; omega
 .have hgt' : ¬ vo l i <= z := hgt; show -1 <= vo l i; omega
 obtain rfl : i = l.length := by omega
 exact Jip hn (by omega) (fun j hj => by have := ha j hj; omega) (h0 ⟨fun j hj => by have := ha j hj; omega, hb⟩)
theorem asc01 : Asc (2 : Int).toNat [0, 1] := by
 refine ⟨fun i hi => ?_, fun i j hij hj => ?_⟩
 .match i, hi with
  | 0, _ => exact ⟨by decide, by decide⟩
  | 1, _ => exact ⟨by decide, by decide⟩
 .have hj' : j < 2 := hj; obtain rfl : j = 1 := by omega
  obtain rfl : i = 0 := by omega
  decide
theorem Jqp {Q : Bool -> Prop} (h : Q true) : Jap Q := by
 refine Jk9 (fun hh => absurd ⟨by decide, by decide⟩ hh) (fun _ hh => absurd asc01 hh) fun _ _ => ?_; have e : evl (2 : Int).toNat [0, 1] = [0, 0, 0, 1] := by decide
 rw [e]; exact ⟨fun _ => ⟨fun _ => ⟨⟨by decide, by decide⟩, fun _ => ⟨⟨by decide, by decide⟩, fun _ => ⟨⟨by decide, by decide⟩, fun _ => ⟨⟨by decide, by decide⟩, h⟩, fun hh => absurd rfl hh⟩, fun hh => absurd rfl hh⟩, fun hh => absurd rfl hh⟩, fun hh => absurd rfl hh⟩, fun hh => absurd rfl hh⟩
end
end Go.Proofs.YtjgpkljepgcekaaGreat
namespace Go.Proofs.YtjgpkljepgcekaaGreat
/-! ### the points of a projective space -/
section
variable {P M : Int} {mf : LI} {p m v g : Nat} {F : GFv}
/-- how many points there are -/
def cnt (q : Nat) : Nat -> Nat
  | 0 => 0
  | r + 1 => cnt q r * q + 1
end
end Go.Proofs.YtjgpkljepgcekaaGreat
namespace Go.Proofs.YtjgpkljepgcekaaGreat
/-! ### the reference's points; the law of points -/
section
variable {P M : Int} {mf : LI} {p m v g : Nat} {F : GFv}
end
end Go.Proofs.YtjgpkljepgcekaaGreat
namespace Go.Proofs.YtjgpkljepgcekaaGreat
/-! ### repetition and parity codes -/
section
variable {P M : Int} {mf : LI} {p m v : Nat} {N C n : Int} {X Y : LL}
theorem sg_can (hF : FV P M mf p m v) (hs : shp C X) (he : Els p m X) : ∃ q, Sg P M mf p m v C (Qq p m v C X) q :=
 ⟨_, hF, Jkb hs, Jwj hF he, Jwh hF hs he⟩
end
end Go.Proofs.YtjgpkljepgcekaaGreat
namespace Go.Proofs.YtjgpkljepgcekaaGreat
/-! ### Hamming and simplex codes -/
section
variable {P M : Int} {mf : LI} {p m v : Nat} {N C r : Int} {X Y : LL}
/-- a column -/
def cl (A : LL) (c k : Nat) : LI := (List.range k).map fun t => vo (row A t) c
end
end Go.Proofs.YtjgpkljepgcekaaGreat
namespace Go.Proofs.YtjgpkljepgcekaaGreat
section
variable {P M : Int} {mf : LI} {p m v : Nat} {N C r : Int} {X Y : LL}
end
end Go.Proofs.YtjgpkljepgcekaaGreat
namespace Go.Proofs.YtjgpkljepgcekaaGreat
/-! ### Jq primes; quadratic residue codes -/
section
def lst (n : Nat) : Nat := if n % 2 = 0 then 2 else if n % 3 = 0 then 3 else if n % 5 = 0 then 5 else if n % 7 = 0 then 7 else if n % 11 = 0 then 11 else if n % 13 = 0 then 13 else if n % 17 = 0 then 17 else if n % 19 = 0 then 19 else if n % 23 = 0 then 23 else if n % 29 = 0 then 29 else if n % 31 = 0 then 31 else n
theorem tm0 {n d : Nat} : ((n : Int).tmod (d : Int) = 0) ↔ n % d = 0 := by rw [YM]; omega
theorem Jt8 {n : Nat} {Q : Int -> Prop} (h1 : 2 <= n) (h2 : n <= 64) (h : Q ((lst n : Nat) : Int)) : Jb7 (n : Int) Q := by
 refine ⟨fun z => (z = 0) ∨ (z = 1 /\ n % 2 ≠ 0) ∨ (z = 2 /\ n % 2 ≠ 0 /\ n % 3 ≠ 0) ∨ (z = 3 /\ n % 2 ≠ 0 /\ n % 3 ≠ 0 /\ n % 5 ≠ 0), fun z => (3 - z).toNat, .inl rfl, ?_⟩; intro z hz; rcases hz with rfl | ⟨rfl, g2⟩ | ⟨rfl, g2, g3⟩ | ⟨rfl, g2, g3, g5⟩
 .refine ⟨fun _ => ⟨⟨by decide, by decide⟩, by decide, fun he => ?_, fun hne => ⟨Jq (by decide) (by decide), ?_, by decide⟩⟩, fun hh => absurd (by decide) hh⟩
  .have hd : n % 2 = 0 := tm0.1 he; have e : lst n = 2 := by unfold lst; simp [hd]
   rw [e] at h; exact h
  .have hd : n % 2 ≠ 0 := fun hh => hne (tm0.2 hh); exact .inr (.inl (⟨rfl, hd⟩))
 .refine ⟨fun _ => ⟨⟨by decide, by decide⟩, by decide, fun he => ?_, fun hne => ⟨Jq (by decide) (by decide), ?_, by decide⟩⟩, fun hh => absurd (by decide) hh⟩
  .have hd : n % 3 = 0 := tm0.1 he; have e : lst n = 3 := by unfold lst; rw [if_neg g2]; simp [hd]
   rw [e] at h; exact h
  .have hd : n % 3 ≠ 0 := fun hh => hne (tm0.2 hh); exact .inr (.inr (.inl (⟨rfl, g2, hd⟩)))
 .refine ⟨fun _ => ⟨⟨by decide, by decide⟩, by decide, fun he => ?_, fun hne => ⟨Jq (by decide) (by decide), ?_, by decide⟩⟩, fun hh => absurd (by decide) hh⟩
  .have hd : n % 5 = 0 := tm0.1 he; have e : lst n = 5 := by unfold lst; rw [if_neg g2, if_neg g3]; simp [hd]
   rw [e] at h; exact h
  .have hd : n % 5 ≠ 0 := fun hh => hne (tm0.2 hh); exact .inr (.inr (.inr (⟨rfl, g2, g3, hd⟩)))
 .refine ⟨fun hh => absurd hh (by decide), fun _ => ⟨fun x => x = ((lst n : Nat) : Int), ⟨fun z => z = 0 ∨ (z = 30 /\ n % 7 ≠ 0 /\ n % 11 ≠ 0 /\ n % 13 ≠ 0 /\ n % 17 ≠ 0 /\ n % 19 ≠ 0 /\ n % 23 ≠ 0 /\ n % 29 ≠ 0 /\ n % 31 ≠ 0), fun z => (31 - z).toNat, .inl rfl, ?_⟩, ?_⟩⟩
  .intro z hz; rcases hz with rfl | ⟨rfl, k7, k11, k13, k17, k19, k23, k29, k31⟩
   .refine ⟨Jq (by decide) (by decide), fun _ => ⟨fun z => (z = 0) ∨ (z = 1 /\ n % 7 ≠ 0) ∨ (z = 2 /\ n % 7 ≠ 0 /\ n % 11 ≠ 0) ∨ (z = 3 /\ n % 7 ≠ 0 /\ n % 11 ≠ 0 /\ n % 13 ≠ 0) ∨ (z = 4 /\ n % 7 ≠ 0 /\ n % 11 ≠ 0 /\ n % 13 ≠ 0 /\ n % 17 ≠ 0) ∨ (z = 5 /\ n % 7 ≠ 0 /\ n % 11 ≠ 0 /\ n % 13 ≠ 0 /\ n % 17 ≠ 0 /\ n % 19 ≠ 0) ∨ (z = 6 /\ n % 7 ≠ 0 /\ n % 11 ≠ 0 /\ n % 13 ≠ 0 /\ n % 17 ≠ 0 /\ n % 19 ≠ 0 /\ n % 23 ≠ 0) ∨ (z = 7 /\ n % 7 ≠ 0 /\ n % 11 ≠ 0 /\ n % 13 ≠ 0 /\ n % 17 ≠ 0 /\ n % 19 ≠ 0 /\ n % 23 ≠ 0 /\ n % 29 ≠ 0) ∨ (z = 8 /\ n % 7 ≠ 0 /\ n % 11 ≠ 0 /\ n % 13 ≠ 0 /\ n % 17 ≠ 0 /\ n % 19 ≠ 0 /\ n % 23 ≠ 0 /\ n % 29 ≠ 0 /\ n % 31 ≠ 0), fun z => (8 - z).toNat, .inl rfl, ?_⟩, fun hh => absurd (by omega) hh⟩; intro z hz; rcases hz with rfl | ⟨rfl, k7⟩ | ⟨rfl, k7, k11⟩ | ⟨rfl, k7, k11, k13⟩ | ⟨rfl, k7, k11, k13, k17⟩ | ⟨rfl, k7, k11, k13, k17, k19⟩ | ⟨rfl, k7, k11, k13, k17, k19, k23⟩ | ⟨rfl, k7, k11, k13, k17, k19, k23, k29⟩ | ⟨rfl, k7, k11, k13, k17, k19, k23, k29, k31⟩
    .refine ⟨fun _ => ⟨⟨by decide, by decide⟩, Jq (by decide) (by decide), by decide, fun he => ⟨Jq (by decide) (by decide), ?_⟩, fun hne => ⟨Jq (by decide) (by decide), ?_, by decide⟩⟩, fun hh => absurd (by decide) hh⟩
     .have hd : n % 7 = 0 := tm0.1 he; have e : lst n = 7 := by unfold lst; rw [if_neg g2, if_neg g3, if_neg g5]; simp [hd]
      rw [e]; rfl
     .have hd : n % 7 ≠ 0 := fun hh => hne (tm0.2 hh); exact .inr (.inl (⟨rfl, hd⟩))
    .refine ⟨fun _ => ⟨⟨by decide, by decide⟩, Jq (by decide) (by decide), by decide, fun he => ⟨Jq (by decide) (by decide), ?_⟩, fun hne => ⟨Jq (by decide) (by decide), ?_, by decide⟩⟩, fun hh => absurd (by decide) hh⟩
     .have hd : n % 11 = 0 := tm0.1 he; have e : lst n = 11 := by unfold lst; rw [if_neg g2, if_neg g3, if_neg g5, if_neg k7]; simp [hd]
      rw [e]; rfl
     .have hd : n % 11 ≠ 0 := fun hh => hne (tm0.2 hh); exact .inr (.inr (.inl (⟨rfl, k7, hd⟩)))
    .refine ⟨fun _ => ⟨⟨by decide, by decide⟩, Jq (by decide) (by decide), by decide, fun he => ⟨Jq (by decide) (by decide), ?_⟩, fun hne => ⟨Jq (by decide) (by decide), ?_, by decide⟩⟩, fun hh => absurd (by decide) hh⟩
     .have hd : n % 13 = 0 := tm0.1 he; have e : lst n = 13 := by unfold lst; rw [if_neg g2, if_neg g3, if_neg g5, if_neg k7, if_neg k11]; simp [hd]
      rw [e]; rfl
     .have hd : n % 13 ≠ 0 := fun hh => hne (tm0.2 hh); exact .inr (.inr (.inr (.inl (⟨rfl, k7, k11, hd⟩))))
    .refine ⟨fun _ => ⟨⟨by decide, by decide⟩, Jq (by decide) (by decide), by decide, fun he => ⟨Jq (by decide) (by decide), ?_⟩, fun hne => ⟨Jq (by decide) (by decide), ?_, by decide⟩⟩, fun hh => absurd (by decide) hh⟩
     .have hd : n % 17 = 0 := tm0.1 he; have e : lst n = 17 := by unfold lst; rw [if_neg g2, if_neg g3, if_neg g5, if_neg k7, if_neg k11, if_neg k13]; simp [hd]
      rw [e]; rfl
     .have hd : n % 17 ≠ 0 := fun hh => hne (tm0.2 hh); exact .inr (.inr (.inr (.inr (.inl (⟨rfl, k7, k11, k13, hd⟩)))))
    .refine ⟨fun _ => ⟨⟨by decide, by decide⟩, Jq (by decide) (by decide), by decide, fun he => ⟨Jq (by decide) (by decide), ?_⟩, fun hne => ⟨Jq (by decide) (by decide), ?_, by decide⟩⟩, fun hh => absurd (by decide) hh⟩
     .have hd : n % 19 = 0 := tm0.1 he; have e : lst n = 19 := by unfold lst; rw [if_neg g2, if_neg g3, if_neg g5, if_neg k7, if_neg k11, if_neg k13, if_neg k17]; simp [hd]
      rw [e]; rfl
     .have hd : n % 19 ≠ 0 := fun hh => hne (tm0.2 hh); exact .inr (.inr (.inr (.inr (.inr (.inl (⟨rfl, k7, k11, k13, k17, hd⟩))))))
    .refine ⟨fun _ => ⟨⟨by decide, by decide⟩, Jq (by decide) (by decide), by decide, fun he => ⟨Jq (by decide) (by decide), ?_⟩, fun hne => ⟨Jq (by decide) (by decide), ?_, by decide⟩⟩, fun hh => absurd (by decide) hh⟩
     .have hd : n % 23 = 0 := tm0.1 he; have e : lst n = 23 := by unfold lst; rw [if_neg g2, if_neg g3, if_neg g5, if_neg k7, if_neg k11, if_neg k13, if_neg k17, if_neg k19]; simp [hd]
      rw [e]; rfl
     .have hd : n % 23 ≠ 0 := fun hh => hne (tm0.2 hh); exact .inr (.inr (.inr (.inr (.inr (.inr (.inl (⟨rfl, k7, k11, k13, k17, k19, hd⟩)))))))
    .refine ⟨fun _ => ⟨⟨by decide, by decide⟩, Jq (by decide) (by decide), by decide, fun he => ⟨Jq (by decide) (by decide), ?_⟩, fun hne => ⟨Jq (by decide) (by decide), ?_, by decide⟩⟩, fun hh => absurd (by decide) hh⟩
     .have hd : n % 29 = 0 := tm0.1 he; have e : lst n = 29 := by unfold lst; rw [if_neg g2, if_neg g3, if_neg g5, if_neg k7, if_neg k11, if_neg k13, if_neg k17, if_neg k19, if_neg k23]; simp [hd]
      rw [e]; rfl
     .have hd : n % 29 ≠ 0 := fun hh => hne (tm0.2 hh); exact .inr (.inr (.inr (.inr (.inr (.inr (.inr (.inl (⟨rfl, k7, k11, k13, k17, k19, k23, hd⟩))))))))
    .refine ⟨fun _ => ⟨⟨by decide, by decide⟩, Jq (by decide) (by decide), by decide, fun he => ⟨Jq (by decide) (by decide), ?_⟩, fun hne => ⟨Jq (by decide) (by decide), ?_, by decide⟩⟩, fun hh => absurd (by decide) hh⟩
     .have hd : n % 31 = 0 := tm0.1 he; have e : lst n = 31 := by unfold lst; rw [if_neg g2, if_neg g3, if_neg g5, if_neg k7, if_neg k11, if_neg k13, if_neg k17, if_neg k19, if_neg k23, if_neg k29]; simp [hd]
      rw [e]; rfl
     .have hd : n % 31 ≠ 0 := fun hh => hne (tm0.2 hh); exact .inr (.inr (.inr (.inr (.inr (.inr (.inr (.inr (⟨rfl, k7, k11, k13, k17, k19, k23, k29, hd⟩))))))))
    .exact ⟨fun hh => absurd hh (by decide), fun _ => ⟨Jq (by decide) (by decide), .inr ⟨rfl, k7, k11, k13, k17, k19, k23, k29, k31⟩, by decide⟩⟩
   .refine ⟨Jq (by decide) (by decide), fun hh => by omega, fun _ => ?_⟩; have e : lst n = n := by unfold lst; rw [if_neg g2, if_neg g3, if_neg g5, if_neg k7, if_neg k11, if_neg k13, if_neg k17, if_neg k19, if_neg k23, if_neg k29, if_neg k31]
    rw [e]
  .rintro _ rfl; exact h
/-- the lengths of quadratic residue codes -/
def isQ (n : Nat) : Bool := decide (3 <= n) && decide (n <= 64) && (decide (n % 8 = 1) || decide (n % 8 = 7)) && (List.range' 2 (n - 2)).all fun d => n % d != 0
theorem Jyd : (List.range' 2 63).all (fun n => decide (lst n = n) == ((List.range' 2 (n - 2)).all fun d => n % d != 0)) = true := by decide +kernel
end
end Go.Proofs.YtjgpkljepgcekaaGreat
namespace Go.Proofs.YtjgpkljepgcekaaGreat
section
variable {P M : Int} {mf : LI} {p m v : Nat} {N C r : Int} {X Y : LL}
theorem Jo1 {n : Nat} (h1 : 2 <= n) (h2 : n <= 64) : lst n = n ↔ ((List.range' 2 (n - 2)).all fun d => n % d != 0) = true := by
 have := List.all_eq_true.1 Jyd n (by rw [List.mem_range'_1]; omega); simp only [beq_iff_eq] at this; rw [<- this]; simp
theorem Jxw {n : Int} {Q : Bool -> Prop} (h64 : n <= 64) (h : Q (decide (2 <= n /\ lst n.toNat = n.toNat))) : Jd2 n Q := by
 refine ⟨fun h1 => ⟨fun _ => ?_, fun hh => absurd (by omega) hh⟩, fun h1 => ?_⟩
 .obtain ⟨k, rfl⟩ := Int.eq_ofNat_of_zero_le (show 0 <= n by omega); refine Jt8 (by omega) (by omega) ?_; rw [Int.toNat_natCast] at h; have e : decide (2 <= (k : Int) /\ lst k = k) = decide (((lst k : Nat) : Int) = (k : Int)) := by
   by_cases hl : lst k = k
   .rw [decide_eq_true ⟨h1, hl⟩, decide_eq_true (by omega)]
   .rw [decide_eq_false (fun hh => hl hh.2), decide_eq_false (by omega)]
  rw [<- e]; exact h
 .rw [decide_eq_false (fun hh => h1 hh.1)] at h; exact h
theorem Jc9 {n : Int} {Q : Bool -> Prop} (h : Q (isQ n.toNat)) : YV n Q := by
 have hno : ∀ b, isQ n.toNat = b -> Q b := fun b e => by rw [<- e]; exact h
 refine ⟨fun h1 => hno _ (by unfold isQ; rw [decide_eq_false (show ¬ 3 <= n.toNat by omega)]; rfl), fun h1 => ⟨fun h2 => hno _ (by unfold isQ; rw [decide_eq_false (show ¬ n.toNat <= 64 by omega)]; simp), fun h2 => ?_⟩⟩; obtain ⟨k, rfl⟩ := Int.eq_ofNat_of_zero_le (show 0 <= n by omega); rw [Int.toNat_natCast] at *
 have t8 : ((k : Int).tmod 8) = ((k % 8 : Nat) : Int) := YM k 8; have loop : (k % 8 = 1 ∨ k % 8 = 7) -> ∃ (I : Int -> Prop) (μ : Int -> Nat), I (2 : Int) /\ ∀ (z : Int), (I z -> (((z < (k : Int)) -> ((z ≠ 0) /\ (((((k : Int).tmod z) = (0 : Int)) -> Q false) /\ (¬ (((k : Int).tmod z) = (0 : Int)) -> ((I64 (z + (1 : Int))) /\ (I (z + (1 : Int)) /\ μ (z + (1 : Int)) < μ z)))))) /\ (¬ (z < (k : Int)) -> Q true))) := fun h8 => by
  refine ⟨fun z => ∃ t : Nat, z = t /\ 2 <= t /\ t <= k /\ ∀ d, 2 <= d -> d < t -> k % d ≠ 0, fun z => (k - z).toNat, ⟨2, rfl, by omega, by omega, fun d a b => by omega⟩, ?_⟩; rintro _ ⟨t, rfl, ht, ht2, hd⟩; dsimp only; refine ⟨fun hlt => ⟨by omega, fun he => hno _ ?_, fun hne => ⟨Jq (by omega) (by omega), ⟨t + 1, by push_cast; rfl, by omega, by omega, fun d a b => ?_⟩, by omega⟩⟩, fun hge => hno _ ?_⟩
  .have h0 : k % t = 0 := tm0.1 he; unfold isQ; have : ((List.range' 2 (k - 2)).all fun d => k % d != 0) = false := by
    rw [List.all_eq_false]; exact ⟨t, by rw [List.mem_range'_1]; omega, by simp [h0]⟩
   rw [this]; simp
  .rcases Nat.lt_or_ge d t with h3 | h3
   .exact hd d a h3
   .obtain rfl : d = t := by omega
    exact fun hh => hne (tm0.2 hh)
  .have : ((List.range' 2 (k - 2)).all fun d => k % d != 0) = true := List.all_eq_true.2 fun d h3 => by
    rw [List.mem_range'_1] at h3; have := hd d h3.1 (by omega); simp [this]
   unfold isQ; rw [this, decide_eq_true (show 3 <= k by omega), decide_eq_true (show k <= 64 by omega)]; rcases h8 with h8 | h8 <;> simp [h8]
 refine ⟨fun h3 => ⟨fun h4 => hno _ ?_, fun h4 => loop (.inr ?_)⟩, fun h3 => loop (.inl ?_)⟩
 .rw [t8] at h3 h4; unfold isQ; rw [decide_eq_false (show ¬ k % 8 = 1 by omega), decide_eq_false (show ¬ k % 8 = 7 by omega)]; simp
 .rw [t8] at h4; omega
 .rw [t8] at h3; omega
/-- the list with ones at the squares -/
def sqs (n t : Nat) : LI := (List.range' 1 t).foldl (fun x i => x.set (i * i % n) 1) (List.replicate n 0)
theorem Joz (n : Nat) : ∀ t, (sqs n t).length = n
 | 0 => by simp [sqs]
 | t + 1 => by
  have := Joz n t; unfold sqs at *
  rw [List.range'_1_concat, List.foldl_append]
  simpa using this
theorem Jux (n t : Nat) : sqs n (t + 1) = (sqs n t).set ((1 + t) * (1 + t) % n) 1 := by
 unfold sqs; rw [List.range'_1_concat, List.foldl_append]; rfl
def sqI (n : Nat) (x : LI) (z : Int) : Prop := ∃ t : Nat, z = ((1 + t : Nat) : Int) /\ 1 + t <= n /\ x = sqs n t
theorem sqI_0 {n : Nat} (h : 1 <= n) : sqI n (List.replicate n 0) 1 := ⟨0, rfl, by omega, rfl⟩
theorem sqI_s {n : Nat} {x : LI} {z : Int} (hn : n <= 64) (h : sqI n x z) (hz : z < (n : Nat)) :
  I64 (z * z) /\ (n : Int) ≠ 0 /\ (0 <= (z * z).tmod (n : Int) /\ (z * z).tmod (n : Int) < (n : Nat)) /\ I64 (z + 1) /\ sqI n (si x ((z * z).tmod (n : Int)) 1) (z + 1) := by
 obtain ⟨t, rfl, ht, rfl⟩ := h; have e : (((1 + t : Nat) : Int) * ((1 + t : Nat) : Int)) = (((1 + t) * (1 + t) : Nat) : Int) := by push_cast; rfl
 have hb : (1 + t) * (1 + t) <= 64 * 64 := Nat.mul_le_mul (by omega) (by omega); have hm := Nat.mod_lt ((1 + t) * (1 + t)) (show 0 < n by omega); rw [e, YM]; exact ⟨Yj (by omega), by omega, ⟨by omega, Int.ofNat_lt.2 hm⟩, Jq (by omega) (by omega), t + 1, by push_cast; omega, by omega, by rw [J8, Jux]⟩
/-- the word whose shifts generate the code -/
def qw (n : Nat) : LI := if n % 8 = 1 then (sqs n (n - 1)).set 0 1 else sqs n (n - 1)
theorem Jvf (n : Nat) : (qw n).length = n := by unfold qw; split <;> simp [Joz]
def shf (l : LI) : LL := (List.range l.length).map fun i => l.drop i ++ l.take i
def rsf (l : LI) : LL := (List.range l.length).map fun k => (List.range l.length).foldl (fun x i => x.set ((i + k) % l.length) (vo l i)) (List.replicate l.length 0)
theorem Jbl {l : LI} {t : Nat} (h : t < l.length) : row (shf l) t = l.drop t ++ l.take t := Jgw h
theorem Jqk {y : LI} {Q : Int × Int × LI × Int × LL × Int -> Prop} (hy : 1 <= y.length /\ y.length <= 64) (hF : FV P M mf p m v) (he : Els p m (shf y)) (h : Q (P, M, mf, (y.length : Int), Qq p m v (y.length : Int) (shf y), 0)) : YC P M mf y Q := by
 have hs : shp (y.length : Int) (shf y) := Jlh ⟨by omega, by omega⟩ (by simp [shf]; omega) fun t ht => by
  have ht' : t < y.length := by simpa [shf] using ht
  rw [Jbl ht', Int.toNat_natCast, List.length_append, List.length_drop, List.length_take]; omega
 refine ⟨⟨by omega, by omega, by omega⟩, fun x z => ∃ i : Nat, z = i /\ i <= y.length /\ x.length = y.length /\ ∀ t, t < i -> row x t = y.drop t ++ y.take t, fun _ z => (y.length - z).toNat, ⟨0, rfl, Nat.zero_le _, by simp, fun t ht => absurd ht (Nat.not_lt_zero _)⟩, ?_⟩; rintro x _ ⟨i, rfl, hi, hx, hr⟩; dsimp only; refine ⟨fun hlt => ⟨⟨by omega, by omega⟩, ⟨by omega, by omega⟩, y.drop i ++ y.take i, ⟨?_, by simp, ?_⟩, ⟨by omega, by omega⟩, Jq (by omega) (by omega), ⟨i + 1, by push_cast; rfl, by omega, by show (x.set _ _).length = _; rw [List.length_set]; exact hx, fun t ht => ?_⟩, by omega⟩, fun hge => ?_⟩
 .simp; omega
 .simp
 .show row (x.set i _) t = _; rw [Qv]; by_cases e : i = t
  .subst e; rw [if_pos ⟨rfl, by omega⟩]
  .rw [if_neg (fun hh => e hh.1)]; exact hr t (by omega)
 .have hi' : i = y.length := by omega
  have e : x = shf y := QF (by rw [hx]; simp [shf]) fun t ht => by rw [hr t (by omega), Jbl (by omega)]
  rw [e]; refine w_cNew (fun hh => ?_) fun p' m' v' hF' _ _ _ => ?_
  .unfold nck at hh; rw [Jcs ⟨p, m, v, hF⟩ hs ((QW hF).2 he), if_neg (fun h => h rfl), if_pos (by omega)] at hh; exact absurd rfl hh
  .obtain ⟨rfl, rfl, rfl⟩ := hF.uniq3 hF'; exact h
end
end Go.Proofs.YtjgpkljepgcekaaGreat
set_option maxRecDepth 100000
namespace Go.Proofs.YtjgpkljepgcekaaGreat
section
variable {P M : Int} {mf : LI} {p m v : Nat} {N C r : Int} {X Y : LL}
theorem Jyy : (List.range 65).all (fun n => !isQ n || [7, 17, 23, 31, 41, 47].contains n) = true := by decide +kernel
theorem Jhl {n : Nat} (h : isQ n = true) : n = 7 ∨ n = 17 ∨ n = 23 ∨ n = 31 ∨ n = 41 ∨ n = 47 := by
 have h64 : n <= 64 := by
  unfold isQ at h; simp only [Bool.and_eq_true, decide_eq_true_eq] at h; exact h.1.1.2
 have := List.all_eq_true.1 Jyy n (by rw [List.mem_range]; omega); rw [h] at this
 simpa using this
def isb (X : LL) : Bool := X.all fun r => r.all fun x => decide (0 <= x) && decide (x < 2)
theorem Jpr (h : isb X = true) : Els 2 1 X := fun r hr x hx => by
 have h1 := List.all_eq_true.1 h r hr; have h2 := List.all_eq_true.1 h1 x hx; simp only [Bool.and_eq_true, decide_eq_true_eq] at h2; exact ⟨h2.1, h2.2⟩
def rot (l : LI) : Bool := (List.range l.length).all fun i => row (shf l) i == row (rsf l) ((l.length - i) % l.length)
theorem isb7 : isb (shf (qw 7)) = true /\ isb (rsf (qw 7)) = true /\ rot (qw 7) = true := by decide +kernel
theorem isb17 : isb (shf (qw 17)) = true /\ isb (rsf (qw 17)) = true /\ rot (qw 17) = true := by decide +kernel
theorem isb23 : isb (shf (qw 23)) = true /\ isb (rsf (qw 23)) = true /\ rot (qw 23) = true := by decide +kernel
theorem isb31 : isb (shf (qw 31)) = true /\ isb (rsf (qw 31)) = true /\ rot (qw 31) = true := by decide +kernel
theorem isb41 : isb (shf (qw 41)) = true /\ isb (rsf (qw 41)) = true /\ rot (qw 41) = true := by decide +kernel
theorem isb47 : isb (shf (qw 47)) = true /\ isb (rsf (qw 47)) = true /\ rot (qw 47) = true := by decide +kernel
theorem Jph {n : Nat} (h : isQ n = true) : isb (shf (qw n)) = true /\ isb (rsf (qw n)) = true /\ rot (qw n) = true := by
 rcases Jhl h with rfl | rfl | rfl | rfl | rfl | rfl
 .exact isb7
 .exact isb17
 .exact isb23
 .exact isb31
 .exact isb41
 .exact isb47
end
end Go.Proofs.YtjgpkljepgcekaaGreat
namespace Go.Proofs.YtjgpkljepgcekaaGreat
section
variable {P M : Int} {mf : LI} {p m v : Nat} {N C r : Int} {X Y : LL}
theorem Jds (l : LI) : (shf l).length = l.length := by simp [shf]
theorem Jbu {f : Nat -> Nat} {g : Nat -> Int} : ∀ (L : List Nat) (x : LI), (L.foldl (fun x i => x.set (f i) (g i)) x).length = x.length
 | [], x => rfl
 | i :: L, x => by rw [List.foldl_cons, Jbu L]; simp
theorem Jx4 {l : LI} (h : 1 <= l.length /\ l.length <= 64) : shp (l.length : Int) (shf l) := Jlh ⟨by omega, by omega⟩ (by rw [Jds]; omega) fun t ht => by
 rw [Jds] at ht; rw [Jbl ht, Int.toNat_natCast, List.length_append, List.length_drop, List.length_take]; omega
theorem Jqq {n : Int} {Q : Int × Int × LI × Int × LL × Int -> Prop} (h6 : isQ n.toNat = false -> Q (0, 0, [], 0, [], 6)) (h : isQ n.toNat = true -> 7 <= n /\ n <= 64 -> Q (2, 1, [], n, Qq 2 1 0 n (shf (qw n.toNat)), 0)) : Jaq n Q := by
 refine ⟨fun hh => h6 (by unfold isQ; rw [decide_eq_false (show ¬ n.toNat <= 64 by omega)]; simp), fun h64 => Jxw (by omega) ⟨fun hh => h6 ?_, fun hp => ?_⟩⟩
 .have hh' : ¬ (2 <= n /\ lst n.toNat = n.toNat) := fun e => by rw [decide_eq_true e] at hh; cases hh
  unfold isQ; by_cases h3 : 3 <= n.toNat
  .have : ¬ ((List.range' 2 (n.toNat - 2)).all fun d => n.toNat % d != 0) = true := fun e => hh' ⟨by omega, (Jo1 (by omega) (by omega)).2 e⟩; rw [Bool.eq_false_iff.2 this]; simp
  .rw [decide_eq_false h3]; rfl
 have hp' : 2 <= n /\ lst n.toNat = n.toNat := by
  by_cases e : 2 <= n /\ lst n.toNat = n.toNat
  .exact e
  .rw [decide_eq_false e] at hp; cases hp
 obtain ⟨k, rfl⟩ := Int.eq_ofNat_of_zero_le (show 0 <= n by omega); rw [Int.toNat_natCast] at *
 have ha := (Jo1 (by omega) (by omega)).1 hp'.2; have t8 : ((k : Int).tmod 8) = ((k % 8 : Nat) : Int) := YM k 8; have hq : isQ k = true ↔ k % 8 = 1 ∨ k % 8 = 7 := by
  unfold isQ; rw [ha]; by_cases h3 : 3 <= k
  .rw [decide_eq_true h3, decide_eq_true (show k <= 64 by omega)]; simp
  .have : k = 2 := by omega
   subst this; simp
 rw [t8]; have fin : isQ k = true -> ∀ (x : LI) (z : Int), sqI k x z -> ¬ z < (k : Int) -> ∃ J : LI -> Prop, (((((k % 8 : Nat) : Int) = 1) -> ((0 <= (0 : Int) /\ (0 : Int) < ((k : Int).toNat : Nat)) /\ J (si x 0 1))) /\ (¬ (((k % 8 : Nat) : Int) = 1) -> J x)) /\ ∀ y, J y -> Z3 (fun q => match q with | (r51, r52, x53) => YC r51 r52 x53 y (fun q => match q with | (r58, r59, x60, c61, x62, r63) => Q (r58, r59, x60, c61, x62, r63))) := by
  intro hQ x z hx hz; obtain ⟨t, rfl, ht, rfl⟩ := hx; obtain rfl : t = k - 1 := by omega
  have hk7 := Jhl hQ; refine ⟨fun y => y = qw k, ⟨fun h1 => ⟨⟨by omega, by rw [Int.toNat_natCast]; omega⟩, ?_⟩, fun h1 => ?_⟩, ?_⟩
  .unfold qw; rw [if_pos (by omega)]; rfl
  .unfold qw; rw [if_neg (by omega)]
  .rintro _ rfl; have hb := Jph hQ; have hl := Jvf k; refine Jqk (by rw [hl]; omega) fv2 (Jpr hb.1) ?_; rw [hl]; exact h hQ (by omega)
 have loop : isQ k = true -> ∀ (x : LI) (z : Int), sqI k x z -> z < (k : Int) -> (I64 (z * z)) /\ (((k : Int) ≠ 0) /\ ((0 <= ((z * z).tmod (k : Int)) /\ ((z * z).tmod (k : Int)) < ((k : Int).toNat : Nat)) /\ ((I64 (z + (1 : Int))) /\ (sqI k (si x ((z * z).tmod (k : Int)) (1 : Int)) (z + (1 : Int)) /\ ((k : Int) - (z + 1)).toNat < ((k : Int) - z).toNat)))) := by
  intro hQ x z hx hz; obtain ⟨a, b, c, d, e⟩ := sqI_s (by omega) hx hz; exact ⟨a, b, by rw [Int.toNat_natCast]; exact c, d, e, by omega⟩
 refine ⟨fun h1 => ⟨fun h7 => h6 (Bool.eq_false_iff.2 fun e => by have := hq.1 e; omega), fun h7 => ?_⟩, fun h1 => ?_⟩
 .have hQ : isQ k = true := hq.2 (by omega); refine ⟨⟨by omega, by omega, by omega⟩, sqI k, fun _ z => ((k : Int) - z).toNat, sqI_0 (by omega), fun x z hx => ⟨fun hz => loop hQ x z hx hz, fun hz => fin hQ x z hx hz⟩⟩
 .have hQ : isQ k = true := hq.2 (by omega); refine ⟨⟨by omega, by omega, by omega⟩, sqI k, fun _ z => ((k : Int) - z).toNat, sqI_0 (by omega), fun x z hx => ⟨fun hz => loop hQ x z hx hz, fun hz => fin hQ x z hx hz⟩⟩
end
end Go.Proofs.YtjgpkljepgcekaaGreat
namespace Go.Proofs.YtjgpkljepgcekaaGreat
/-! ### quadratic residue codes keep their words under i -> a i + b -/
section
variable {P M : Int} {mf : LI} {p m v : Nat} {N C r : Int} {X Y : LL}
def sqc (l : LI) (n : Nat) : Bool := (List.range' 1 (n - 1)).all fun x => (List.range n).any (fun c => x * x % n * c % n == 1) && (List.range n).all fun j => vo l (x * x % n * j % n) == vo l j
theorem ql7 : qw 7 = [0, 1, 1, 0, 1, 0, 0] := by decide +kernel
theorem sc7 : sqc [0, 1, 1, 0, 1, 0, 0] 7 = true := by decide +kernel
theorem ql17 : qw 17 = [1, 1, 1, 0, 1, 0, 0, 0, 1, 1, 0, 0, 0, 1, 0, 1, 1] := by decide +kernel
theorem sc17 : sqc [1, 1, 1, 0, 1, 0, 0, 0, 1, 1, 0, 0, 0, 1, 0, 1, 1] 17 = true := by decide +kernel
theorem ql23 : qw 23 = [0, 1, 1, 1, 1, 0, 1, 0, 1, 1, 0, 0, 1, 1, 0, 0, 1, 0, 1, 0, 0, 0, 0] := by decide +kernel
theorem sc23 : sqc [0, 1, 1, 1, 1, 0, 1, 0, 1, 1, 0, 0, 1, 1, 0, 0, 1, 0, 1, 0, 0, 0, 0] 23 = true := by decide +kernel
theorem ql31 : qw 31 = [0, 1, 1, 0, 1, 1, 0, 1, 1, 1, 1, 0, 0, 0, 1, 0, 1, 0, 1, 1, 1, 0, 0, 0, 0, 1, 0, 0, 1, 0, 0] := by decide +kernel
theorem sc31 : sqc [0, 1, 1, 0, 1, 1, 0, 1, 1, 1, 1, 0, 0, 0, 1, 0, 1, 0, 1, 1, 1, 0, 0, 0, 0, 1, 0, 0, 1, 0, 0] 31 = true := by decide +kernel
theorem ql41 : qw 41 = [1, 1, 1, 0, 1, 1, 0, 0, 1, 1, 1, 0, 0, 0, 0, 0, 1, 0, 1, 0, 1, 1, 0, 1, 0, 1, 0, 0, 0, 0, 0, 1, 1, 1, 0, 0, 1, 1, 0, 1, 1] := by decide +kernel
theorem sc41 : sqc [1, 1, 1, 0, 1, 1, 0, 0, 1, 1, 1, 0, 0, 0, 0, 0, 1, 0, 1, 0, 1, 1, 0, 1, 0, 1, 0, 0, 0, 0, 0, 1, 1, 1, 0, 0, 1, 1, 0, 1, 1] 41 = true := by decide +kernel
theorem ql47 : qw 47 = [0, 1, 1, 1, 1, 0, 1, 1, 1, 1, 0, 0, 1, 0, 1, 0, 1, 1, 1, 0, 0, 1, 0, 0, 1, 1, 0, 1, 1, 0, 0, 0, 1, 0, 1, 0, 1, 1, 0, 0, 0, 0, 1, 0, 0, 0, 0] := by decide +kernel
theorem sc47 : sqc [0, 1, 1, 1, 1, 0, 1, 1, 1, 1, 0, 0, 1, 0, 1, 0, 1, 1, 1, 0, 0, 1, 0, 0, 1, 1, 0, 1, 1, 0, 0, 0, 1, 0, 1, 0, 1, 1, 0, 0, 0, 0, 1, 0, 0, 0, 0] 47 = true := by decide +kernel
theorem Jx3 {n : Nat} (h : isQ n = true) : sqc (qw n) n = true := by
 rcases Jhl h with rfl | rfl | rfl | rfl | rfl | rfl
 .rw [ql7]; exact sc7
 .rw [ql17]; exact sc17
 .rw [ql23]; exact sc23
 .rw [ql31]; exact sc31
 .rw [ql41]; exact sc41
 .rw [ql47]; exact sc47
theorem vo_dt {l : LI} {t i : Nat} (ht : t < l.length) (hi : i < l.length) : vo (l.drop t ++ l.take t) i = vo l ((i + t) % l.length) := by
 unfold vo; rw [List.getD_eq_getElem?_getD, List.getD_eq_getElem?_getD, List.getElem?_append, List.length_drop]; by_cases h : i < l.length - t
 .rw [if_pos h, List.getElem?_drop, Nat.mod_eq_of_lt (by omega), Nat.add_comm]
 .rw [if_neg h, List.getElem?_take, if_pos (by omega)]
  congr 2
  rw [Nat.mod_eq_sub_mod (by omega), Nat.mod_eq_of_lt (by omega)]; omega
theorem Jk5 {q : Nat -> Nat} {y : LI} {Q : LI × Int -> Prop} (G : Sg P M mf p m v N X q) (h1 : 1 <= N /\ N <= 64) (he : ∀ e : Int, e ≠ 0 -> Q ([], e)) (h : y.length = X.length -> Elr p m y -> Q (cmb p m v y N.toNat X X.length, 0)) : ZB P M mf N X y Q := by
 refine Jqn ?_; rw [Jwf G h1.1 h1.2]; have hl := Jgt G.s; refine ⟨fun z => (z ≠ 0) ∨ (z = 0 /\ y.length = X.length /\ Elr p m y), ⟨fun _ => ⟨fun hne => .inl (by decide), fun heq => ?_⟩, fun hh => absurd rfl hh⟩, ?_⟩
 .have hyl : y.length = X.length := by omega
  exact Ja5 G.f (by omega) (fun h2 => .inr ⟨rfl, hyl, h2⟩) (fun _ => .inl (by decide))
 .rintro z (hz | ⟨rfl, h2, h3⟩)
  .exact ⟨fun _ => he z hz, fun hh => absurd hz hh⟩
  .exact ⟨fun hh => absurd rfl hh, fun _ => Jk6 G.f G.s h2 (h h2 h3)⟩
theorem w_cHas {q : Nat -> Nat} {y : LI} {Q : Bool × Int -> Prop} (G : Sg P M mf p m v N X q) (h1 : 1 <= N /\ N <= 64) (hy : y.length = N.toNat) (he : Elr p m y) (ht : zr (rsd p m v q X y X.length) -> Q (true, 0)) (hf : ¬ zr (rsd p m v q X y X.length) -> Q (false, 0)) : Jff P M mf N X y Q := by
 unfold Jff YY; refine Jub ?_; rw [Jwf G h1.1 h1.2]; refine ⟨fun hh => absurd rfl hh, fun _ => ⟨fun hh => absurd (by omega) hh, fun _ => Jd3 ?_⟩⟩; rw [Jcs ⟨p, m, v, G.f⟩ (Jo5 (by omega) (by omega)) ((QW G.f).2 (Jdv.2 he))]; refine ⟨fun hh => absurd rfl hh, fun _ => ?_⟩; by_cases hz : zr (rsd p m v q X y X.length)
 .exact ⟨true, 0, w_Has G hy he (fun _ => rfl) (fun hh => absurd hz hh), ht hz⟩
 .exact ⟨false, 0, w_Has G hy he (fun hh => absurd hh hz) (fun _ => rfl), hf hz⟩
theorem zr_sp {q : Nat -> Nat} {y : LI} (G : Sg P M mf p m v N X q) (hy : y.length = N.toNat) (he : Elr p m y) : zr (rsd p m v q X y X.length) ↔ Sp p m v N.toNat X y := by
 rw [sp_rsd G.f G.s G.e G.q hy he]; unfold zr; rw [Z8, hy]
/-- a list filled at places that differ -/
def fil (n : Nat) (g : Nat -> Nat) (w : LI) (k : Nat) : LI := (List.range k).foldl (fun x i => x.set (g i) (vo w i)) (List.replicate n 0)
theorem Je0 (n : Nat) (g : Nat -> Nat) (w : LI) (k : Nat) : fil n g w (k + 1) = (fil n g w k).set (g k) (vo w k) := by
 unfold fil; rw [List.range_succ, List.foldl_append]; rfl
theorem Jpn (n : Nat) (g : Nat -> Nat) (w : LI) (k : Nat) : (fil n g w k).length = n := by
 unfold fil; rw [Jbu, List.length_replicate]
theorem Jv6 {n : Nat} {g : Nat -> Nat} {w : LI} (hg : ∀ i, i < n -> g i < n) (hi : ∀ i j, i < n -> j < n -> g i = g j -> i = j) : ∀ k, k <= n -> ∀ i, i < k -> vo (fil n g w k) (g i) = vo w i
 | 0, _, i, h => absurd h (Nat.not_lt_zero i)
 | k + 1, hk, i, h => by
  rw [Je0, J5, Jpn]; by_cases e : i = k
  .subst e; rw [if_pos ⟨rfl, hg i (by omega)⟩]
  .rw [if_neg (fun hh => e (hi k i (by omega) (by omega) hh.1).symm)]; exact Jv6 hg hi k (by omega) i (by omega)
theorem Jpo (hF : FV P M mf p m v) {n : Nat} {g : Nat -> Nat} {w : LI} (hw : Elr p m w) : ∀ k, Elr p m (fil n g w k)
 | 0 => fun x hx => by
  have hx' : x ∈ List.replicate n (0 : Int) := hx; have := hF.ring.q2; rw [(List.mem_replicate.1 hx').2]; exact ⟨by decide, by omega⟩
 | k + 1 => fun x hx => by
  rw [Je0] at hx; rcases List.mem_or_eq_of_mem_set hx with h | h
  .exact Jpo hF hw k x h
  .rw [h]; exact Jbv hF hw k
theorem Jat (n : Int) (y : LI) (by0 by1 : Int) : Z4 n y by0 by1 (fun b => b = true) := by
 refine Jqp ⟨(fun hh => by cases hh), fun _ => ?_⟩; refine Jqq (fun h6 => Jc9 (by rw [h6]; exact ⟨fun _ => rfl, (fun hh => by cases hh)⟩)) fun hQ hn => ?_; refine Jc9 ?_; rw [hQ]; refine ⟨(fun hh => by cases hh), fun _ => ⟨fun hh => absurd rfl hh, fun _ => ?_⟩⟩; obtain ⟨k, rfl⟩ := Int.eq_ofNat_of_zero_le (show 0 <= n by omega); rw [Int.toNat_natCast] at hQ; rw [Int.toNat_natCast]; have hl := Jvf k; have hb := Jph hQ; have hk : 7 <= k /\ k <= 64 := by omega
 have hs := Jx4 (l := qw k) (by rw [hl]; omega); rw [hl] at hs; have he := Jpr hb.1; obtain ⟨q, G⟩ := sg_can fv2 hs he; refine Jk5 G (by omega) (fun e he => ⟨fun _ => rfl, fun hh => absurd he hh⟩) fun hyl hye => ⟨fun hh => absurd rfl hh, fun _ => ⟨fun _ => rfl, fun h0 => ⟨fun _ => rfl, fun h1 => ⟨fun _ => rfl, fun h2 => ⟨fun _ => rfl, fun h3 => ?_⟩⟩⟩⟩⟩
 obtain ⟨b, rfl⟩ := Int.eq_ofNat_of_zero_le (show 0 <= by0 by omega); obtain ⟨x, rfl⟩ := Int.eq_ofNat_of_zero_le (show 0 <= by1 by omega); have hsq := List.all_eq_true.1 (Jx3 hQ) x (by rw [List.mem_range'_1]; omega); simp only [Bool.and_eq_true, List.any_eq_true, List.all_eq_true, List.mem_range, beq_iff_eq] at hsq; obtain ⟨⟨c, hc, hac⟩, hinv⟩ := hsq; have hxx : x * x <= 64 * 64 := Nat.mul_le_mul (by omega) (by omega); have ha := Nat.mod_lt (x * x) (show 0 < k by omega); have e1 : ((x : Int) * (x : Int)).tmod (k : Int) = ((x * x % k : Nat) : Int) := by
  rw [show (x : Int) * (x : Int) = ((x * x : Nat) : Int) by push_cast; rfl, YM]
 rw [e1]; generalize hA : x * x % k = a at *
 have hxi : (x : Int) * (x : Int) = ((x * x : Nat) : Int) := by push_cast; rfl
 generalize hW : cmb 2 1 0 y ((k : Nat) : Int).toNat (Qq 2 1 0 (k : Int) (shf (qw k))) (Qq 2 1 0 (k : Int) (shf (qw k))).length = w; have hwl : w.length = k := by rw [<- hW, Jdy, Int.toNat_natCast]
 have hwe : Elr 2 1 w := by rw [<- hW]; exact Jpu fv2 _
 have hg : ∀ i, i < k -> (a * i + b) % k < k := fun i _ => Nat.mod_lt _ (by omega); have hτ : ∀ i, i < k -> c * ((a * i + b) % k + (k - b)) % k = i := fun i hi => by
  have h1 : c * ((a * i + b) % k + (k - b)) % k = c * (a * i) % k := by
   rw [Nat.mul_mod, Nat.mod_add_mod, show a * i + b + (k - b) = a * i + k by omega, Nat.add_mod_right, <- Nat.mul_mod]
  rw [h1, <- Nat.mul_assoc, Nat.mul_comm c a, Nat.mul_mod, hac, Nat.one_mul, Nat.mod_mod, Nat.mod_eq_of_lt hi]
 have hinj : ∀ i j, i < k -> j < k -> (a * i + b) % k = (a * j + b) % k -> i = j := fun i j hi hj e => by
  rw [<- hτ i hi, e, hτ j hj]
 refine ⟨by rw [hxi]; exact Yj (by omega), by omega, ⟨by omega, by omega, by omega⟩, fun x z => ∃ t : Nat, z = t /\ t <= k /\ x = fil k (fun i => (a * i + b) % k) w t, fun _ z => (k - z).toNat, ⟨0, rfl, Nat.zero_le _, by simp [fil]⟩, ?_⟩; rintro _ _ ⟨t, rfl, ht, rfl⟩; dsimp only; have hat : a * t <= 64 * 64 := Nat.mul_le_mul (by omega) (by omega); have e2 : (a : Int) * (t : Int) = ((a * t : Nat) : Int) := by push_cast; rfl
 have e3 : ((a : Int) * (t : Int) + (b : Int)).tmod (k : Int) = (((a * t + b) % k : Nat) : Int) := by
  rw [show (a : Int) * (t : Int) + (b : Int) = ((a * t + b : Nat) : Int) by push_cast; rfl, YM]
 have hm := Nat.mod_lt (a * t + b) (show 0 < k by omega); rw [e3, e2]; refine ⟨fun hlt => ⟨Yj (by omega), Jq (by omega) (by omega), by omega, ⟨by omega, by rw [hwl]; omega⟩, ⟨Int.natCast_nonneg _, Int.ofNat_lt.2 hm⟩, Jq (by omega) (by omega), ⟨t + 1, by push_cast; rfl, by omega, by rw [Je0]; rfl⟩, by omega⟩, fun hge => ?_⟩; obtain rfl : t = k := by omega
 have hzl := Jpn t (fun i => (a * i + b) % t) w t; have hze := Jpo fv2 (n := t) (g := fun i => (a * i + b) % t) hwe t; have hzv := Jv6 (w := w) hg hinj t (Nat.le_refl _); generalize fil t (fun i => (a * i + b) % t) w t = z at *
 refine w_cHas G (by omega) (by rw [hzl, Int.toNat_natCast]) hze (fun _ => ⟨fun _ => rfl, fun hh => absurd rfl hh⟩) fun hz => absurd ((zr_sp G (by rw [hzl, Int.toNat_natCast]) hze).2 ?_) hz; intro f L hf; rw [Int.toNat_natCast] at L; have hX : Ann 2 1 f (shf (qw t)) := (Jpw fv2 hs he (by rw [Int.toNat_natCast]; exact L)).1 hf
 -- the map behind the permutation
 have hlt : ∀ j, c * (j + (t - b)) % t < t := fun j => Nat.mod_lt _ (by omega); have L' : Lin 2 1 0 t (fun u => f fun j => u (c * (j + (t - b)) % t)) := ⟨fun u => L.lt _, fun h => L.cg fun j _ => h _ (hlt j), fun ha hb hx => L.ad (fun j => ha _) (fun j => hb _) hx, fun ha hx => L.ml (fun j => ha _) hx⟩
 have hback : ∀ j, j < t -> (a * (c * (j + (t - b)) % t) + b) % t = j := fun j hj => by
  rw [<- Nat.mod_add_mod, Nat.mul_mod_mod, <- Nat.mul_assoc, Nat.mul_mod, hac, Nat.one_mul, Nat.mod_mod, Nat.mod_add_mod, show j + (t - b) + b = j + t by omega, Nat.add_mod_right, Nat.mod_eq_of_lt hj]
 have hA' : Ann 2 1 (fun u => f fun j => u (c * (j + (t - b)) % t)) (shf (qw t)) := fun s hs' => by
  rw [Jds, hl] at hs'; have hs2 := Nat.mod_lt (a * s + (t - b)) (show 0 < t by omega); refine Eq.trans (L.cg fun j hj => ?_) (hX ((a * s + (t - b)) % t) (by rw [Jds, hl]; exact hs2)); unfold en
  congr 1
  rw [Jbl (by rw [hl]; exact hs'), Jbl (by rw [hl]; exact hs2), vo_dt (by rw [hl]; exact hs') (by rw [hl]; exact hlt j), vo_dt (by rw [hl]; exact hs2) (by rw [hl]; exact hj), hl]; rw [<- hinv _ (Nat.mod_lt _ (by omega))]
  congr 1
  have e := hback j hj; have h1 : a * ((c * (j + (t - b)) % t + s) % t) % t = (a * (c * (j + (t - b)) % t) + a * s) % t := by rw [Nat.mul_mod_mod, Nat.mul_add]
  rw [h1, Nat.add_mod_mod]; have h2 : (a * (c * (j + (t - b)) % t) + a * s) % t = ((a * (c * (j + (t - b)) % t) + b) + (a * s + (t - b))) % t := by
   rw [show a * (c * (j + (t - b)) % t) + b + (a * s + (t - b)) = a * (c * (j + (t - b)) % t) + a * s + t by omega, Nat.add_mod_right]
  rw [h2, <- Nat.mod_add_mod, e]
 have hA2 := (Jpw fv2 hs he (by rw [Int.toNat_natCast]; exact L')).2 hA'; have h0 : (fun u => f fun j => u (c * (j + (t - b)) % t)) (en 2 1 w) = 0 := by
  rw [<- hW, Int.toNat_natCast]; exact (Jpg fv2 L' _ _ _).trans (Jbs fv2 _ fun i hi => (congrArg (Jv 2 1 (dv 2 0) _) (hA2 i hi)).trans (fv2.ring.M0 (JQ (by have := fv2.ring.q2; omega) _)))
 rw [<- h0]; refine L.cg fun j hj => ?_; unfold en
 congr 1
 have := hzv (c * (j + (t - b)) % t) (hlt j); rw [hback j hj] at this; exact this
end
end Go.Proofs.YtjgpkljepgcekaaGreat
