/- Contracts of functions of the program, and what they lean on: M2, M3, M4, M5, M6, M7, M8, M9, M10, M11, M12, M13, M14, M15, M16, M17, M18, M19, M20, M21, M22, M23, M24, S1, S2, S3, S4, S5, S6, S7, S9, S10, C1, C20, C21, C22, C23, C24, C25. -/
import Derived.Test.YtgjloioccgcceaaCombineProductsG7
set_option linter.unusedVariables false
set_option linter.unusedSimpArgs false
namespace Go.Proofs.Ytgjloioccgcceaa
structure Shp (n w wy : Nat) (S : ES) : Prop where
  xl : S.X.length = n
  xr : ∀ t, t < n -> (row S.X t).length = w
  yl : S.Y.length = n
  yr : ∀ t, t < n -> (row S.Y t).length = wy
  pl : S.pv.length <= n
section
variable {p m v n w wy : Nat}
theorem Ji5 {X : LL} {i j t w : Nat} (hi : i < X.length) (hj : j < X.length) (h : ∀ t, t < X.length -> (row X t).length = w) (ht : t < X.length) : (row (swp X i j) t).length = w := by
 rw [Zu hi hj]; split
 .exact h _ hi
 .split
  .exact h _ hj
  .exact h _ ht
def swq (X : LL) (r cur : Nat) : LL := if r = cur then X else swp X r cur
theorem JS (X : LL) (r cur : Nat) : (swq X r cur).length = X.length := by
 unfold swq; split
 .rfl
 .exact Jdv ..
theorem QE {X : LL} {i j t w : Nat} (hi : i < X.length) (hj : j < X.length) (h : ∀ t, t < X.length -> (row X t).length = w) (ht : t < X.length) : (row (swq X i j) t).length = w := by
 unfold swq; split
 .exact h _ ht
 .exact Ji5 hi hj h ht
def scq (p m v : Nat) (X : LL) (cur : Nat) (e : Int) : LL := X.set cur (sc p m v (Iv p m v e) (row X cur))
theorem Qs (X : LL) (cur : Nat) (e : Int) : (scq p m v X cur e).length = X.length := by simp [scq]
theorem QG {X : LL} {cur t w : Nat} {e : Int} (hc : cur < X.length) (h : ∀ t, t < X.length -> (row X t).length = w) (ht : t < X.length) : (row (scq p m v X cur e) t).length = w := by
 unfold scq; rw [Q5]; split
 .rw [Zb]; exact h _ hc
 .exact h _ ht
theorem Jdj {X : LL} {f : Nat -> Int} {cur t w : Nat} (h : ∀ t, t < X.length -> (row X t).length = w) (ht : t < X.length) : (row (clr p m v f cur X) t).length = w := by
 rw [YX ht]; split
 .exact h _ ht
 .rw [Jig]; exact h _ ht
theorem Ja5 (c r cur : Nat) (S : ES) : (es1 p m v c r cur S).X = clr p m v (fun t => Ng p m (vo (row (scq p m v (swq S.X r cur) cur (vo (row (swq S.X r cur) cur) c)) t) c)) cur (scq p m v (swq S.X r cur) cur (vo (row (swq S.X r cur) cur) c)) := rfl
theorem Jru (c r cur : Nat) (S : ES) : (es1 p m v c r cur S).Y = clr p m v (fun t => Ng p m (vo (row (scq p m v (swq S.X r cur) cur (vo (row (swq S.X r cur) cur) c)) t) c)) cur (scq p m v (swq S.Y r cur) cur (vo (row (swq S.X r cur) cur) c)) := rfl
theorem Juo {c r cur : Nat} {S : ES} (h : Shp n w wy S) (hr : r < n) (hc : cur < n) (hp : S.pv.length < n) : Shp n w wy (es1 p m v c r cur S) := by
 have hx := h.xl; have hy := h.yl; have ax : ∀ t, t < S.X.length -> (row S.X t).length = w := fun t ht => h.xr t (by omega); have ay : ∀ t, t < S.Y.length -> (row S.Y t).length = wy := fun t ht => h.yr t (by omega); refine ⟨?_, fun t ht => ?_, ?_, fun t ht => ?_, ?_⟩
 .rw [Ja5, YA, Qs, JS]; exact hx
 .rw [Ja5]; refine Jdj (fun t ht => ?_) (by rw [Qs, JS]; omega); rw [Qs, JS] at ht; refine QG (by rw [JS]; omega) (fun t ht => ?_) (by rw [JS]; omega); rw [JS] at ht; exact QE (by omega) (by omega) ax ht
 .rw [Jru, YA, Qs, JS]; exact hy
 .rw [Jru]; refine Jdj (fun t ht => ?_) (by rw [Qs, JS]; omega); rw [Qs, JS] at ht; refine QG (by rw [JS]; omega) (fun t ht => ?_) (by rw [JS]; omega); rw [JS] at ht; exact QE (by omega) (by omega) ay ht
 .show (S.pv ++ [(c : Int)]).length <= n; rw [List.length_append]; simp; omega
theorem Jo2 {c : Nat} {S : ES} (h : Shp n w wy S) : Shp n w wy (QU p m v S c) := by
 unfold QU; split
 .rename_i hc
  exact Juo h (by have := h.xl; omega) (by have := h.xl; omega) (by have := h.xl; omega)
 .exact h
theorem Qy (k : Nat) (S : ES) : elim p m v (k + 1) S = QU p m v (elim p m v k S) k := by
 unfold elim; rw [List.range_succ, List.foldl_append]; rfl
theorem YI {S : ES} (h : Shp n w wy S) : ∀ k, Shp n w wy (elim p m v k S)
 | 0 => h
 | k + 1 => by rw [Qy]; exact Jo2 (YI h k)
theorem Jcz {S : ES} {k : Nat} (h : ¬ (elim p m v k S).pv.length < (elim p m v k S).X.length) : ∀ j, elim p m v (k + j) S = elim p m v k S
 | 0 => rfl
 | j + 1 => by
  rw [<- Nat.add_assoc, Qy, Jcz h j]; unfold QU; rw [if_neg (fun hc => h hc.1)]
end
section
variable {F : GFv} {p m v g : Nat} {P M : Int} {mf : LI} {X Y : LL}
theorem Jn4 (R : CR (p ^ m) (JZ p m) (Jy p m (dv p v))) {x : Int} {z : Nat} (hx : inE (p ^ m) x < p ^ m) (hz : z < p ^ m) (h : Jy p m (dv p v) z (inE (p ^ m) x) = 1) : Iv p m v x = (z : Int) := by
 unfold Iv; cases hf : (List.range (p ^ m)).find? fun z => Jy p m (dv p v) z (inE (p ^ m) x) == 1 with
 | none =>
  have := List.find?_eq_none.1 hf z (List.mem_range.2 hz); simp [h] at this
 | some y =>
  have h1 := List.find?_some hf; have h2 := List.mem_range.1 (List.mem_of_find?_eq_some hf); have h1' : Jy p m (dv p v) y (inE (p ^ m) x) = 1 := by simpa using h1
  show (y : Int) = z; have e : y = z := by
   have q1 : 1 < p ^ m := R.q2
   calc y = Jy p m (dv p v) y 1 := (R.M1 h2).symm
    _ = Jy p m (dv p v) y (Jy p m (dv p v) z (inE (p ^ m) x)) := by rw [h]
    _ = Jy p m (dv p v) y (Jy p m (dv p v) (inE (p ^ m) x) z) := by rw [R.Mc hz hx]
    _ = Jy p m (dv p v) (Jy p m (dv p v) y (inE (p ^ m) x)) z := (R.Ma h2 hx hz).symm
    _ = Jy p m (dv p v) 1 z := by rw [h1']
    _ = Jy p m (dv p v) z 1 := R.Mc q1 hz
    _ = z := R.M1 hz
  rw [e]
theorem Jvr (R : CR (p ^ m) (JZ p m) (Jy p m (dv p v))) {x : Int} (hx : inE (p ^ m) x = 0) : Iv p m v x = 0 := by
 unfold Iv; cases hf : (List.range (p ^ m)).find? fun z => Jy p m (dv p v) z (inE (p ^ m) x) == 1 with
 | none => rfl
 | some y =>
  have h1 := List.find?_some hf; have h2 := List.mem_range.1 (List.mem_of_find?_eq_some hf); rw [hx, R.M0 h2] at h1; simp at h1
def prt (p m v : Nat) (f : Nat -> Int) (cur t : Nat) (X : LL) : LL := (List.range X.length).map fun s => if s < t /\ s ≠ cur then adx p m v (row X s) (f s) (row X cur) else row X s
theorem Q6 (f : Nat -> Int) (cur t : Nat) (X : LL) : (prt p m v f cur t X).length = X.length := by simp [prt]
theorem QN {f : Nat -> Int} {cur t s : Nat} (h : s < X.length) : row (prt p m v f cur t X) s = if s < t /\ s ≠ cur then adx p m v (row X s) (f s) (row X cur) else row X s := Jm2 h
theorem Jev (f : Nat -> Int) (cur : Nat) : prt p m v f cur 0 X = X := QO (Q6 ..) fun i hi => by
 rw [Q6] at hi; rw [QN hi, if_neg (by omega)]
theorem Jg7 (f : Nat -> Int) (cur : Nat) : prt p m v f cur X.length X = clr p m v f cur X := QO (by rw [Q6, YA]) fun i hi => by
 rw [Q6] at hi; rw [QN hi, YX hi]; by_cases h : i = cur
 .rw [if_neg (fun hh => hh.2 h), if_pos h]
 .rw [if_pos ⟨hi, h⟩, if_neg h]
theorem prt_same {f : Nat -> Int} {cur : Nat} : prt p m v f cur (cur + 1) X = prt p m v f cur cur X := QO (by rw [Q6, Q6]) fun i hi => by
 rw [Q6] at hi; rw [QN hi, QN hi]; by_cases h : i = cur
 .rw [if_neg (fun hh => hh.2 h), if_neg (fun hh => hh.2 h)]
 .by_cases h1 : i < cur
  .rw [if_pos ⟨by omega, h⟩, if_pos ⟨h1, h⟩]
  .rw [if_neg (fun hh => h1 (by omega)), if_neg (fun hh => h1 hh.1)]
theorem Jbr {f : Nat -> Int} {cur t : Nat} (ht : t < X.length) (hc : t ≠ cur) : (prt p m v f cur t X).set t (adx p m v (row X t) (f t) (row X cur)) = prt p m v f cur (t + 1) X := QO (by rw [List.length_set, Q6, Q6]) fun i hi => by
 rw [List.length_set, Q6] at hi; rw [Q5, Q6, QN (t := t + 1) hi]; by_cases h : t = i
 .subst h; rw [if_pos ⟨rfl, ht⟩, if_pos ⟨by omega, hc⟩]
 .rw [if_neg (fun hh => h hh.1), QN hi]; by_cases h1 : i < t
  .by_cases h2 : i = cur
   .rw [if_neg (fun hh => hh.2 h2), if_neg (fun hh => hh.2 h2)]
   .rw [if_pos ⟨h1, h2⟩, if_pos ⟨by omega, h2⟩]
  .rw [if_neg (fun hh => h1 hh.1), if_neg (fun hh => h1 (by omega))]
theorem Jiy {cols wy : Nat} {Q : LI × Int × LL × LL -> Prop} (K : GFk F p m v g) (hX : X.length <= 300) (hc : cols <= 300) (hw : wy <= 300) (hS : Shp X.length cols wy ⟨X, Y, [], 1⟩)
  (h : Q ((elim p m v cols ⟨X, Y, [], 1⟩).pv, (elim p m v cols ⟨X, Y, [], 1⟩).d, (elim p m v cols ⟨X, Y, [], 1⟩).X, (elim p m v cols ⟨X, Y, [], 1⟩).Y)) : Yw F cols X Y Q := by
 have hYl : Y.length = X.length := hS.yl; generalize hS0 : (⟨X, Y, [], 1⟩ : ES) = S0 at h hS; refine ⟨fun a b c d => (⟨a, b, c, d⟩ : ES) = elim p m v cols S0, ⟨fun a b c d z => ∃ k : Nat, z = k /\ k <= cols /\ (⟨a, b, c, d⟩ : ES) = elim p m v k S0, fun _ _ _ _ z => (cols - z).toNat, ⟨0, rfl, Nat.zero_le _, hS0⟩, ?_⟩, ?_⟩
 .rintro a b c d _ ⟨k, rfl, hk, he⟩; have hs := YI (p := p) (m := m) (v := v) hS k; have hstop := Jcz (p := p) (m := m) (v := v) (S := S0) (k := k); have hsucc := Qy (p := p) (m := m) (v := v) k S0; rw [<- he] at hs hstop hsucc; have hal : a.length = X.length := hs.xl; have hbl : b.length = X.length := hs.yl; have har := hs.xr; have hbr := hs.yr; have hpl : c.length <= X.length := hs.pl; simp only at har hbr; refine ⟨fun hlt => ⟨fun hlc => ?_, fun hge => ?_⟩, fun hge => ?_⟩
  .have hcur : c.length < X.length := by omega
   have hkc : k < cols := by omega
   refine ⟨fun pv x y d' _ _ => (⟨x, y, pv, d'⟩ : ES) = elim p m v (k + 1) S0, Jtf (by omega) (by omega) (fun t ht => by rw [har t (by omega)]; exact hkc) ?_, ?_⟩
   .refine ⟨fun heq => ?_, fun hne => ?_⟩
    .rw [hsucc]; unfold QU; rw [if_neg (fun hh => by have := hh.2; simp only at this; omega)]
    .have hnz := (Zx a k c.length (by omega)).1; have hr : nz a k c.length < X.length := by omega
     generalize hrr : nz a k c.length = r at hr hne; rw [show QU p m v ⟨a, b, c, d⟩ k = es1 p m v k r c.length ⟨a, b, c, d⟩ by unfold QU; rw [if_pos ⟨by simp only; omega, by simp only; omega⟩, <- hrr]] at hsucc; refine ⟨fun x y d' => x = swq a r c.length /\ y = swq b r c.length /\ d' = (if r = c.length then d else Ng p m d), ⟨fun hrc => ⟨⟨by omega, by omega⟩, ⟨by omega, by omega⟩, ⟨by omega, by omega⟩, ⟨by omega, by omega⟩, ⟨by omega, by omega⟩, ⟨by omega, by omega⟩, ⟨by omega, by omega⟩, ⟨by omega, by omega⟩, v_Neg K ?_⟩, fun hrc => ?_⟩, ?_⟩
     .have hrc' : r ≠ c.length := fun e => hrc (by rw [e]); refine ⟨?_, ?_, by rw [if_neg hrc']; rfl⟩
      .unfold swq; rw [if_neg hrc']; rfl
      .unfold swq; rw [if_neg hrc']; rfl
     .have hrc' : r = c.length := by have := Classical.not_not.1 hrc; omega
      refine ⟨?_, ?_, by rw [if_pos hrc']⟩
      .unfold swq; rw [if_pos hrc']
      .unfold swq; rw [if_pos hrc']
     .rintro _ _ _ ⟨rfl, rfl, rfl⟩; have hx1 : ∀ t, t < X.length -> (row (swq a r c.length) t).length = cols := fun t ht => QE (by omega) (by omega) (fun t ht => har t (by omega)) (by omega); have hy1 : ∀ t, t < X.length -> (row (swq b r c.length) t).length = wy := fun t ht => QE (by omega) (by omega) (fun t ht => hbr t (by omega)) (by omega); have hl1 := JS a r c.length; have hl2 := JS b r c.length; have hxs := Ja5 (p := p) (m := m) (v := v) k r c.length ⟨a, b, c, d⟩; have hys := Jru (p := p) (m := m) (v := v) k r c.length ⟨a, b, c, d⟩; have hds : (es1 p m v k r c.length ⟨a, b, c, d⟩).d = Ml p m v (if r = c.length then d else Ng p m d) (vo (row (swq a r c.length) c.length) k) := rfl; have hps : (es1 p m v k r c.length ⟨a, b, c, d⟩).pv = c ++ [(k : Int)] := rfl; simp only at hxs hys; generalize swq a r c.length = x1 at *
      generalize swq b r c.length = y1 at *
      have he1 : gi (gl x1 (c.length : Nat)) (k : Int) = vo (row x1 c.length) k := rfl; refine ⟨⟨by omega, by omega⟩, ⟨by omega, ?_⟩, _, Jmt K rfl, fun z => z = Iv p m v (vo (row x1 c.length) k), ⟨⟨by omega, by omega⟩, ⟨by omega, ?_⟩, Iv p m v (vo (row x1 c.length) k), ?_⟩, ?_⟩
      .show (k : Int) < ((row x1 c.length).length : Nat); rw [hx1 _ hcur]; omega
      .show (k : Int) < ((row x1 c.length).length : Nat); rw [hx1 _ hcur]; omega
      .by_cases h0 : inE (p ^ m) (vo (row x1 c.length) k) = 0
       .exact ⟨7, v_Inv K (fun _ => by rw [Jvr K.fv.ring h0]) (fun z h1 => absurd h0 h1), rfl⟩
       .exact ⟨0, v_Inv K (fun h1 => absurd h1 h0) (fun z h1 h2 h3 => by have e := Jn4 (x := vo (row x1 c.length) k) K.fv.ring (J6 (by have := K.fv.ring.q2; omega) _) h2 h3; rw [e]), rfl⟩
      .rintro _ rfl; have hsx : sll x1 (c.length : Int) (sc p m v (Iv p m v (vo (row x1 c.length) k)) (row x1 c.length)) = scq p m v x1 c.length (vo (row x1 c.length) k) := rfl; have hsy : sll y1 (c.length : Int) (sc p m v (Iv p m v (vo (row x1 c.length) k)) (row y1 c.length)) = scq p m v y1 c.length (vo (row x1 c.length) k) := rfl; refine ⟨⟨by omega, by omega⟩, _, Jgu K (by show (row x1 c.length).length <= 1000; rw [hx1 _ hcur]; omega) rfl, ⟨by omega, by omega⟩, ⟨by omega, by omega⟩, _, Jgu K (by show (row y1 c.length).length <= 1000; rw [hy1 _ hcur]; omega) rfl, ⟨by omega, by omega⟩, ?_⟩; have hx2 : ∀ t, t < X.length -> (row (scq p m v x1 c.length (vo (row x1 c.length) k)) t).length = cols := fun t ht => QG (by omega) (fun t ht => hx1 t (by omega)) (by omega); have hy2 : ∀ t, t < X.length -> (row (scq p m v y1 c.length (vo (row x1 c.length) k)) t).length = wy := fun t ht => QG (by omega) (fun t ht => hy1 t (by omega)) (by omega); have hl3 := Qs (p := p) (m := m) (v := v) x1 c.length (vo (row x1 c.length) k); have hl4 := Qs (p := p) (m := m) (v := v) y1 c.length (vo (row x1 c.length) k); generalize scq p m v x1 c.length (vo (row x1 c.length) k) = x2 at *
       generalize scq p m v y1 c.length (vo (row x1 c.length) k) = y2 at *
       have hfm : ∀ t, t < X.length -> vo (row (prt p m v (fun t => Ng p m (vo (row x2 t) k)) c.length t x2) t) k = vo (row x2 t) k := fun t ht => by
        rw [QN (by omega), if_neg (by omega)]
       generalize hf : (fun t => Ng p m (vo (row x2 t) k)) = f at *
       refine ⟨fun x y z => ∃ t : Nat, z = t /\ t <= X.length /\ x = prt p m v f c.length t x2 /\ y = prt p m v f c.length t y2, fun x y z => (X.length - z).toNat, ⟨0, rfl, Nat.zero_le _, hsx.trans (Jev _ _).symm, hsy.trans (Jev _ _).symm⟩, ?_⟩; rintro _ _ _ ⟨t, rfl, ht, rfl, rfl⟩; refine ⟨fun hlt2 => ?_, fun hge2 => ?_⟩
       .have htX : t < X.length := by omega
        have hg1 : gl (prt p m v f c.length t x2) (t : Int) = row x2 t := by
         show row (prt p m v f c.length t x2) t = _; rw [QN (by omega), if_neg (by omega)]
        have hg2 : gl (prt p m v f c.length t y2) (t : Int) = row y2 t := by
         show row (prt p m v f c.length t y2) t = _; rw [QN (by omega), if_neg (by omega)]
        have hg3 : gl (prt p m v f c.length t x2) (c.length : Int) = row x2 c.length := by
         show row (prt p m v f c.length t x2) c.length = _; rw [QN (by omega), if_neg (by omega)]
        have hg4 : gl (prt p m v f c.length t y2) (c.length : Int) = row y2 c.length := by
         show row (prt p m v f c.length t y2) c.length = _; rw [QN (by omega), if_neg (by omega)]
        rw [hg1, hg2, hg3, hg4]; have hft : Ng p m (gi (row x2 t) (k : Int)) = f t := by rw [<- hf]; rfl
        refine ⟨fun x y z => x = prt p m v f c.length (t + 1) x2 /\ y = prt p m v f c.length (t + 1) y2, ⟨⟨by omega, by omega⟩, ⟨by omega, by rw [hx2 t htX]; omega⟩, _, v_Neg K rfl, fun hne2 => ?_, fun he2 => ?_⟩, ?_⟩
        .have hne3 : t ≠ c.length := fun e => hne2 (by rw [e]); have hne4 : (c.length : Int).toNat ≠ (t : Int).toNat := by omega
         refine ⟨⟨by omega, by omega⟩, ⟨by omega, by omega⟩, hne4, Ja0 K (by rw [hx2 t htX, hx2 _ hcur]; exact Nat.le_refl _) (by rw [hx2 t htX]; omega) ⟨⟨by omega, by omega⟩, ⟨by omega, by omega⟩, hne4, Ja0 K (by rw [hy2 t htX, hy2 _ hcur]; exact Nat.le_refl _) (by rw [hy2 t htX]; omega) ⟨?_, ?_⟩⟩⟩
         .show (prt p m v f c.length t x2).set t (adx p m v (row x2 t) (Ng p m (gi (row x2 t) (k : Int))) (row x2 c.length)) = _; rw [hft, Jbr (by omega) hne3]
         .show (prt p m v f c.length t y2).set t (adx p m v (row y2 t) (Ng p m (gi (row x2 t) (k : Int))) (row y2 c.length)) = _; rw [hft, Jbr (by omega) hne3]
        .have he3 : t = c.length := by have := Classical.not_not.1 he2; omega
         subst he3; exact ⟨prt_same.symm, prt_same.symm⟩
        .rintro _ _ _ ⟨rfl, rfl⟩; refine ⟨Jq (by omega) (by omega), ⟨t + 1, by push_cast; rfl, by omega, rfl, rfl⟩, ?_⟩; show ((X.length : Int) - ((t : Int) + 1)).toNat < ((X.length : Int) - (t : Int)).toNat; omega
       .have hte : t = X.length := by omega
        subst hte; refine ⟨by omega, ?_⟩; have e1 := Jg7 (p := p) (m := m) (v := v) (X := x2) f c.length; have e2 := Jg7 (p := p) (m := m) (v := v) (X := y2) f c.length; rw [show x2.length = X.length by omega] at e1; rw [show y2.length = X.length by omega] at e2; rw [e1, e2, hsucc]; rw [<- hxs, <- hys]; show (⟨_, _, c ++ [(k : Int)], _⟩ : ES) = _; rw [<- hps]; show (⟨(es1 p m v k r c.length ⟨a, b, c, d⟩).X, (es1 p m v k r c.length ⟨a, b, c, d⟩).Y, (es1 p m v k r c.length ⟨a, b, c, d⟩).pv, Ml p m v (if r = c.length then d else Ng p m d) (vo (row x1 c.length) k)⟩ : ES) = _; rw [<- hds]
   .rintro pv x y d' _ _ hE; refine ⟨Jq (by omega) (by omega), ⟨k + 1, by push_cast; rfl, by omega, hE⟩, ?_⟩; show ((cols : Int) - ((k : Int) + 1)).toNat < ((cols : Int) - (k : Int)).toNat; omega
  .have hst := hstop (by show ¬ c.length < a.length; omega) (cols - k); rw [show k + (cols - k) = cols by omega] at hst; exact hst.symm
  .show (⟨a, b, c, d⟩ : ES) = _; rw [he, show k = cols by omega]
 .rintro a b c d he; rw [<- he] at h; exact h
end
end Go.Proofs.Ytgjloioccgcceaa
namespace Go.Proofs.Ytgjloioccgcceaa
section
variable {p m v n w wy : Nat}
theorem Jry {q : Nat} (h : q < p ^ m) : El p m (q : Int) := ⟨by omega, by omega⟩
theorem Jcy {l : LI} (h : Elr p m l) {t : Nat} (ht : t < l.length) : El p m (vo l t) := h _ (Jcg ht)
theorem Qi {X : LL} (h : Els p m X) (t : Nat) : Elr p m (row X t) := by
 rcases Nat.lt_or_ge t X.length with ht | ht
 .exact h _ (YW ht)
 .rw [row_hi ht]; exact fun x hx => by cases hx
theorem Jba {X : LL} (h : ∀ t, t < X.length -> Elr p m (row X t)) : Els p m X := fun r hr => by
 obtain ⟨t, ht, rfl⟩ := YY hr; exact h t ht
theorem Jrx {l : LI} (h : ∀ t, t < l.length -> El p m (vo l t)) : Elr p m l := fun x hx => by
 obtain ⟨t, ht, rfl⟩ := Jln hx; exact h t ht
theorem Jk6 (hp : 0 < p) {x : Int} {l : LI} : Elr p m (sc p m v x l) := Jrx fun t ht => by
 rw [Zb] at ht; rw [Jeh ht]; exact Jry (Jh2 hp _ _)
theorem Ju2 (hp : 0 < p) {a o : LI} {x : Int} (ha : Elr p m a) : Elr p m (adm p m v a x o) := Jrx fun t ht => by
 rw [Jb1] at ht; rw [ZQ ht]; split
 .exact Jcy ha ht
 .exact Jry (Jnl hp _ _)
theorem Ju1 (hp : 0 < p) {a o : LI} {x : Int} (ha : Elr p m a) : Elr p m (adx p m v a x o) := by
 unfold adx; split
 .exact ha
 .exact Ju2 hp ha
theorem Jh7 (hp : 0 < p) {c r cur : Nat} {S : ES} (h : Els p m S.X) (hr : r < S.X.length) (hc : cur < S.X.length) : Els p m (es1 p m v c r cur S).X := by
 rw [Ja5]; have h1 : Els p m (swq S.X r cur) := Jba fun t ht => by
  rw [JS] at ht; unfold swq; split
  .exact Qi h t
  .rw [Zu hr hc]; split
   .exact Qi h _
   .split <;> exact Qi h _
 have h2 : ∀ e, Els p m (scq p m v (swq S.X r cur) cur e) := fun e => Jba fun t ht => by
  unfold scq; rw [Q5]; split
  .exact Jk6 hp
  .exact Qi h1 t
 refine Jba fun t ht => ?_; rw [YA] at ht; rw [YX ht]; split
 .exact Qi (h2 _) t
 .exact Ju1 hp (Qi (h2 _) t)
theorem Jo3 (hp : 0 < p) {c : Nat} {S : ES} (h : Els p m S.X) : Els p m (QU p m v S c).X := by
 unfold QU; split
 .rename_i hc; exact Jh7 hp h hc.2 hc.1
 .exact h
theorem ZZ (hp : 0 < p) {S : ES} (h : Els p m S.X) : ∀ k, Els p m (elim p m v k S).X
 | 0 => h
 | k + 1 => by rw [Qy]; exact Jo3 hp (ZZ hp h k)
end
section
variable {F : GFv} {p m v g : Nat} {P M : Int} {mf : LI} {X Y : LL}
theorem Jct {x : Int} (h : El p m x) : ((inE (p ^ m) x : Nat) : Int) = x := by
 unfold inE; rw [if_pos (show 0 <= x /\ x < ((p ^ m : Nat) : Int) from h)]; have := h.1; omega
theorem Jnf (hF : FV P M mf p m v) {x : Int} (h : El p m x) : Ng p m x = 0 ↔ x = 0 := by
 have R := hF.ring; have hp := hF.p2; have hx := J6 (q := p ^ m) (by have := R.q2; omega) x; have h1 := ZY (p := p) (m := m) (by omega) hx; constructor
 .intro h0; have h2 : Yy p m (inE (p ^ m) x) = 0 := Int.ofNat.inj h0; rw [h2, R.Az hx] at h1; rw [<- Jct h, h1]; rfl
 .intro h0; have h3 : inE (p ^ m) x = 0 := by rw [h0]; unfold inE; split <;> rfl
  rw [h3] at h1; show ((Yy p m (inE (p ^ m) x) : Nat) : Int) = 0; rw [h3]; have h4 : Yy p m 0 < p ^ m := Jd1 (by omega) 0; have h5 : JZ p m 0 (Yy p m 0) = Yy p m 0 := by rw [R.Ac, R.Az h4]
  rw [h5] at h1; rw [h1]; rfl
theorem ml_one (hF : FV P M mf p m v) {x : Int} (h : El p m x) : Ml p m v 1 x = x := by
 have R := hF.ring; have hq := R.q2; have hx := J6 (q := p ^ m) (by omega) x; unfold Ml; rw [show inE (p ^ m) (1 : Int) = 1 from QB (x := 1) (by omega), R.Mc (by omega) hx, R.M1 hx]; exact Jct h
theorem Jri (hF : FV P M mf p m v) : Iv p m v 1 = 1 := by
 have R := hF.ring; have hq := R.q2; have e1 : inE (p ^ m) (1 : Int) = 1 := QB (x := 1) (by omega); exact Jn4 R (z := 1) (by rw [e1]; omega) (by omega) (by rw [e1]; exact R.M1 (by omega))
theorem Jqq (hF : FV P M mf p m v) {l : LI} (h : Elr p m l) : sc p m v 1 l = l := Yx (Zb _ _) fun i hi => by
 rw [Zb] at hi; rw [Jeh hi, ml_one hF (Jcy h hi)]
theorem w_rInv {x : Int} {Q : Int -> Prop} (hF : FV P M mf p m v) (h : Q (Iv p m v x)) : Jim P M mf x Q := by
 have hq := hF.q; have R := hF.ring; have hq2 := R.q2; have hxl := J6 (q := p ^ m) (by omega) x; refine ⟨fun z => ∃ n : Nat, z = n /\ 1 <= n /\ n <= p ^ m /\ ∀ k, k < n -> Jy p m (dv p v) (inE (p ^ m) x) k ≠ 1, fun z => (((p ^ m : Nat) : Int) - z).toNat, ⟨1, rfl, Nat.le_refl 1, by omega, fun k hk => by
  rw [show k = 0 by omega, R.M0 hxl]; omega⟩, ?_⟩
 rintro _ ⟨n, rfl, hn1, hn, hk⟩; refine Jej ?_; rw [hF.ord]; dsimp only; refine ⟨fun hlt => Jgx hF ?_, fun hge => ?_⟩
 .have hnq : n < p ^ m := Int.ofNat_lt.1 hlt; rw [QB hnq]; refine ⟨fun he => ?_, fun hne => ⟨Jq (by omega) (by omega), ⟨n + 1, by push_cast; rfl, by omega, by omega, fun k hk' => ?_⟩, by omega⟩⟩
  .have h1 : Jy p m (dv p v) (inE (p ^ m) x) n = 1 := Int.ofNat.inj he; rw [<- Jn4 R hxl hnq (by rw [R.Mc hnq hxl]; exact h1)]; exact h
  .rcases Nat.lt_or_ge k n with h | h
   .exact hk k h
   .rw [show k = n by omega]; exact fun e => hne (by rw [e]; rfl)
 .have e : Iv p m v x = 0 := by
   unfold Iv; cases hf : (List.range (p ^ m)).find? fun z => Jy p m (dv p v) z (inE (p ^ m) x) == 1 with
   | none => rfl
   | some y =>
    have h1 := List.find?_some hf; have h2 := List.mem_range.1 (List.mem_of_find?_eq_some hf); have h1' : Jy p m (dv p v) y (inE (p ^ m) x) = 1 := by simpa using h1
    exact absurd (by rw [R.Mc hxl h2]; exact h1') (hk y (by omega))
  rw [e] at h; exact h
theorem Jfr {cols W wy : Nat} {d0 : Int} {Q : LL × LI -> Prop} (hF : FV P M mf p m v) (hX : X.length <= 300) (hc : cols <= W) (hW : W <= 1000) (hS : Shp X.length W wy ⟨X, Y, [], d0⟩) (hE : Els p m X)
  (h : Q ((elim p m v cols ⟨X, Y, [], d0⟩).X, (elim p m v cols ⟨X, Y, [], d0⟩).pv)) : QQ P M mf X cols Q := by
 have hp2 := hF.p2; have hE0 : ∀ k, Els p m (elim p m v k ⟨X, Y, [], d0⟩).X := ZZ (by omega) hE; have hXr : ∀ r ∈ X, r.length <= 1000000 := fun r hr => by
  obtain ⟨t, ht, rfl⟩ := YY hr; have := hS.xr t ht; simp only at this; omega
 refine Jtd (by omega) hXr ?_; generalize hS0 : (⟨X, Y, [], d0⟩ : ES) = S0 at h hS hE0; have hX0 : X = S0.X := by rw [<- hS0]
 have hP0 : ([] : LI) = S0.pv := by rw [<- hS0]
 refine ⟨fun a c => a = (elim p m v cols S0).X /\ c = (elim p m v cols S0).pv, ⟨fun a c z y => ∃ k : Nat, y = k /\ k <= cols /\ a = (elim p m v k S0).X /\ c = (elim p m v k S0).pv /\ z = ((elim p m v k S0).pv.length : Nat), fun _ _ _ y => (cols - y).toNat, ⟨0, rfl, Nat.zero_le _, hX0, hP0, by show (0 : Int) = ((S0.pv.length : Nat) : Int); rw [<- hP0]; rfl⟩, ?_⟩, ?_⟩
 .rintro _ _ _ _ ⟨k, rfl, hk, rfl, rfl, rfl⟩; have hs := YI (p := p) (m := m) (v := v) hS k; have hstop := Jcz (p := p) (m := m) (v := v) (S := S0) (k := k); have hsucc := Qy (p := p) (m := m) (v := v) k S0; have hek := hE0 k; generalize hSk : elim p m v k S0 = S at *
  have hal := hs.xl; have har := hs.xr; have hpl := hs.pl; refine ⟨fun hlt => ⟨fun hlc => ?_, fun hge => ?_⟩, fun hge => ?_⟩
  .have hcur : S.pv.length < X.length := by omega
   have hkc : k < cols := by omega
   have hsp := Zx S.X k S.pv.length (by omega); refine ⟨fun pv x z _ _ _ _ => x = (elim p m v (k + 1) S0).X /\ pv = (elim p m v (k + 1) S0).pv /\ z = ((elim p m v (k + 1) S0).pv.length : Nat), ⟨fun r _ _ => r = ((nz S.X k S.pv.length : Nat) : Int), ⟨fun z _ => ∃ t : Nat, z = t /\ S.pv.length <= t /\ t <= X.length /\ ∀ s, S.pv.length <= s -> s < t -> vo (row S.X s) k = 0, fun z _ => (X.length - z).toNat, ⟨_, rfl, Nat.le_refl _, by omega, fun s h1 h2 => by omega⟩, ?_⟩, ?_⟩, ?_⟩
   .rintro _ _ ⟨t, rfl, h1, h2, h3⟩; dsimp only; refine ⟨fun hlt2 => ⟨⟨by omega, by omega⟩, ⟨by omega, by show (k : Int) < ((row S.X t).length : Nat); rw [har t (by omega)]; omega⟩, fun he => ⟨Jq (by omega) (by omega), ⟨t + 1, by push_cast; rfl, by omega, by omega, fun s hs1 hs2 => ?_⟩, by omega⟩, fun hne => ?_⟩, fun hge2 => ?_⟩
    .rcases Nat.lt_or_ge s t with h | h
     .exact h3 s hs1 h
     .rw [show s = t by omega]; exact he
    .exact congrArg _ (Jjp h1 (by omega) h3 fun _ => hne)
    .exact congrArg _ (Jjp h1 (by omega) h3 fun h => by omega)
   .rintro _ _ _ rfl; refine ⟨fun heq => ?_, fun hne => ?_⟩
    .have e : elim p m v (k + 1) S0 = S := by
      rw [hsucc]; unfold QU; rw [if_neg (fun hh => by have := hh.2; omega)]
     rw [e]; exact ⟨rfl, rfl, rfl⟩
    .have hr : nz S.X k S.pv.length < X.length := by have := hsp.1; omega
     have hge := Jne S.X k S.pv.length; generalize hrr : nz S.X k S.pv.length = r at hr hge hsp; rw [show QU p m v S k = es1 p m v k r S.pv.length S by unfold QU; rw [if_pos ⟨by omega, by omega⟩, <- hrr]] at hsucc; have hsw : sll (sll S.X ((S.pv.length : Nat) : Int) (gl S.X (r : Int))) (r : Int) (gl S.X ((S.pv.length : Nat) : Int)) = swq S.X r S.pv.length := by
      show swp S.X S.pv.length r = _; unfold swq; split
      .rename_i e; rw [e]; exact Jqj (by omega)
      .exact Jqk (by omega) (by omega)
     refine ⟨True, ⟨⟨by omega, by omega⟩, ⟨by omega, by omega⟩, ⟨by omega, by omega⟩, ⟨by omega, by omega⟩, trivial⟩, fun _ => ?_⟩; rw [hsw]; have hx1 : ∀ t, t < X.length -> (row (swq S.X r S.pv.length) t).length = W := fun t ht => QE (by omega) (by omega) (fun t ht => har t (by omega)) (by omega); have hl1 := JS S.X r S.pv.length; have hes : Els p m (es1 p m v k r S.pv.length S).X := Jh7 (by omega) hek (by omega) (by omega); have hxs := Ja5 (p := p) (m := m) (v := v) k r S.pv.length S; have hps : (es1 p m v k r S.pv.length S).pv = S.pv ++ [(k : Int)] := rfl; have hel1 : Els p m (swq S.X r S.pv.length) := Jba fun t ht => by
      rw [JS] at ht; unfold swq; split
      .exact Qi hek t
      .rw [Zu (by omega) (by omega)]; split
       .exact Qi hek _
       .split <;> exact Qi hek _
     generalize swq S.X r S.pv.length = x1 at *
     refine ⟨⟨by omega, by omega⟩, ⟨by omega, by show (k : Int) < ((row x1 S.pv.length).length : Nat); rw [hx1 _ hcur]; omega⟩, fun x => x = scq p m v x1 S.pv.length (vo (row x1 S.pv.length) k), ⟨fun hne1 => ⟨⟨by omega, by omega⟩, ⟨by omega, by show (k : Int) < ((row x1 S.pv.length).length : Nat); rw [hx1 _ hcur]; omega⟩, _, w_rInv hF rfl, ⟨by omega, by omega⟩, _, Jpy hF (by show (row x1 S.pv.length).length <= 1000; rw [hx1 _ hcur]; omega) rfl, ⟨by omega, by omega⟩, rfl⟩, fun he1 => ?_⟩, ?_⟩
     .have he2 : vo (row x1 S.pv.length) k = 1 := Classical.not_not.1 he1; unfold scq; rw [he2, Jri hF, Jqq hF (Qi hel1 _)]; refine (QO (by rw [List.length_set]) fun i hi => ?_).symm; rw [Q5]; split
      .rename_i h; rw [h.1]
      .rfl
     .rintro _ rfl; have hx2 : ∀ t, t < X.length -> (row (scq p m v x1 S.pv.length (vo (row x1 S.pv.length) k)) t).length = W := fun t ht => QG (by omega) (fun t ht => hx1 t (by omega)) (by omega); have hl3 := Qs (p := p) (m := m) (v := v) x1 S.pv.length (vo (row x1 S.pv.length) k); have hel2 : Els p m (scq p m v x1 S.pv.length (vo (row x1 S.pv.length) k)) := Jba fun t ht => by
       unfold scq; rw [Q5]; split
       .exact Jk6 (by omega)
       .exact Qi hel1 t
      generalize scq p m v x1 S.pv.length (vo (row x1 S.pv.length) k) = x2 at *
      generalize hf : (fun t => Ng p m (vo (row x2 t) k)) = f at *
      refine ⟨fun x z => ∃ t : Nat, z = t /\ t <= X.length /\ x = prt p m v f S.pv.length t x2, fun x z => (X.length - z).toNat, ⟨0, rfl, Nat.zero_le _, (Jev _ _).symm⟩, ?_⟩; rintro _ _ ⟨t, rfl, ht, rfl⟩; refine ⟨fun hlt2 => ?_, fun hge2 => ?_⟩
      .have htX : t < X.length := by omega
       have hg1 : gl (prt p m v f S.pv.length t x2) (t : Int) = row x2 t := by
        show row (prt p m v f S.pv.length t x2) t = _; rw [QN (by omega), if_neg (by omega)]
       have hg3 : gl (prt p m v f S.pv.length t x2) ((S.pv.length : Nat) : Int) = row x2 S.pv.length := by
        show row (prt p m v f S.pv.length t x2) S.pv.length = _; rw [QN (by omega), if_neg (by omega)]
       rw [hg1, hg3]; have hft : Ng p m (gi (row x2 t) (k : Int)) = f t := by rw [<- hf]; rfl
       have hent : El p m (vo (row x2 t) k) := Jcy (Qi hel2 t) (by rw [hx2 t htX]; omega); have hz := Jnf hF hent; refine ⟨fun x _ => x = prt p m v f S.pv.length (t + 1) x2, ⟨fun hne2 => ?_, fun he2 => ?_⟩, ?_⟩
       .have hne3 : t ≠ S.pv.length := fun e => hne2 (by rw [e]); refine ⟨⟨by omega, by omega⟩, ⟨by omega, by rw [hx2 t htX]; omega⟩, fun hnz => ?_, fun hnz => ?_⟩
        .refine ⟨⟨by omega, by omega⟩, ⟨by omega, by omega⟩, ⟨by omega, by rw [hx2 t htX]; omega⟩, _, v_rNeg hF rfl, ⟨by omega, by omega⟩, _, Jpz hF (by rw [hx2 t htX, hx2 _ hcur]; exact Nat.le_refl _) (by rw [hx2 t htX]; omega) rfl, ⟨by omega, by omega⟩, ?_⟩; rw [<- Jbr (by omega) hne3, <- hft]; show _ = (prt p m v f S.pv.length t x2).set t (adx p m v (row x2 t) (Ng p m (vo (row x2 t) k)) (row x2 S.pv.length)); unfold adx; rw [if_neg (fun h0 => hnz (hz.1 h0))]; rfl
        .have hnz' : vo (row x2 t) k = 0 := Classical.not_not.1 hnz; rw [<- Jbr (by omega) hne3, <- hft]; show prt p m v f S.pv.length t x2 = (prt p m v f S.pv.length t x2).set t (adx p m v (row x2 t) (Ng p m (vo (row x2 t) k)) (row x2 S.pv.length)); unfold adx; rw [if_pos (hz.2 hnz')]; refine QO (by rw [List.length_set]) fun i hi => ?_; rw [Q5]; split
         .rename_i hh; rw [<- hh.1]; exact hg1
         .rfl
       .have he3 : t = S.pv.length := by have := Classical.not_not.1 he2; omega
        subst he3; exact prt_same.symm
       .rintro _ _ rfl; refine ⟨Jq (by omega) (by omega), ⟨t + 1, by push_cast; rfl, by omega, rfl⟩, ?_⟩; show ((X.length : Int) - ((t : Int) + 1)).toNat < ((X.length : Int) - (t : Int)).toNat; omega
      .have hte : t = X.length := by omega
       subst hte; have e1 := Jg7 (p := p) (m := m) (v := v) (X := x2) f S.pv.length; rw [show x2.length = X.length by omega] at e1; refine ⟨by omega, Jq (by omega) (by omega), ?_⟩; rw [hsucc, e1, hxs, hps]; exact ⟨rfl, rfl, by rw [List.length_append]; simp⟩
   .rintro _ _ _ _ _ _ _ ⟨rfl, rfl, rfl⟩; refine ⟨Jq (by omega) (by omega), ⟨k + 1, by push_cast; rfl, by omega, rfl, rfl, rfl⟩, ?_⟩; show ((cols : Int) - ((k : Int) + 1)).toNat < ((cols : Int) - (k : Int)).toNat; omega
  .have hst := hstop (by omega) (cols - k); rw [show k + (cols - k) = cols by omega] at hst; rw [hst]; exact ⟨rfl, rfl⟩
  .have hkc : k = cols := by omega
   subst hkc; exact ⟨by rw [hSk], by rw [hSk]⟩
 .rintro _ _ ⟨rfl, rfl⟩; exact h
theorem Jgt {cols wy : Nat} {d0 : Int} {Q : LL × LI -> Prop} (hF : FV P M mf p m v) (hX : X.length <= 300) (hc : cols <= 300) (hS : Shp X.length cols wy ⟨X, Y, [], d0⟩) (hE : Els p m X)
 (h : Q ((elim p m v cols ⟨X, Y, [], d0⟩).X, (elim p m v cols ⟨X, Y, [], d0⟩).pv)) : QQ P M mf X cols Q := Jfr hF hX (Nat.le_refl _) (by omega) hS hE h
end
end Go.Proofs.Ytgjloioccgcceaa
namespace Go.Proofs.Ytgjloioccgcceaa
section
variable {F : GFv} {p m v g : Nat} {P M : Int} {mf : LI} {X Y : LL} {C : Int}
def Jpu (P M : Int) (mf : LI) (X : LL) : Prop := ∃ p m v, FV P M mf p m v /\ Els p m X
open Classical in
noncomputable def mck (P M : Int) (mf : LI) (C : Int) (X : LL) : Int := if ¬ Yu P M mf then 1 else if ¬ shp C X then 3 else if ¬ Jpu P M mf X then 2 else 0
theorem FV.uniq {p' m' v' : Nat} (h : FV P M mf p m v) (h' : FV P M mf p' m' v') : p = p' /\ m = m' := ⟨by have := h.eP; have := h'.eP; omega, by have := h.eM; have := h'.eM; omega⟩
theorem Zi (h : FV P M mf p m v) : Jpu P M mf X ↔ Els p m X := ⟨fun ⟨p', m', v', h1, h2⟩ => by obtain ⟨rfl, rfl⟩ := h.uniq h1; exact h2, fun h2 => ⟨p, m, v, h, h2⟩⟩
theorem Jht (h : ¬ Yu P M mf) : mck P M mf C X = 1 := if_pos h
theorem Jag (h : Yu P M mf) (hs : ¬ shp C X) : mck P M mf C X = 3 := by unfold mck; rw [if_neg (fun hh => hh h), if_pos hs]
theorem Jhu (h : Yu P M mf) (hs : shp C X) (he : ¬ Jpu P M mf X) : mck P M mf C X = 2 := by unfold mck; rw [if_neg (fun hh => hh h), if_neg (fun hh => hh hs), if_pos he]
theorem Jlo (h : Yu P M mf) (hs : shp C X) (he : Jpu P M mf X) : mck P M mf C X = 0 := by unfold mck; rw [if_neg (fun hh => hh h), if_neg (fun hh => hh hs), if_neg (fun hh => hh he)]
theorem Jbu (h : mck P M mf C X = 0) : Yu P M mf /\ shp C X /\ Jpu P M mf X := by
 by_cases h1 : Yu P M mf
 .by_cases h2 : shp C X
  .by_cases h3 : Jpu P M mf X
   .exact ⟨h1, h2, h3⟩
   .rw [Jhu h1 h2 h3] at h; exact absurd h (by decide)
  .rw [Jag h1 h2] at h; exact absurd h (by decide)
 .rw [Jht h1] at h; exact absurd h (by decide)
theorem Jg4 (h : shp C X) : X.length <= 256 := h.2.2.1
theorem Qt (h : shp C X) {t : Nat} (ht : t < X.length) : (row X t).length = C.toNat := by
 have := h.2.2.2 _ (YW ht); have := h.1; omega
noncomputable def Jhh (P M : Int) (mf : LI) : List Mt -> Int
  | [] => 0
  | (C, X) :: ms => if mck P M mf C X = 0 then Jhh P M mf ms else mck P M mf C X
theorem w_open {ms : List Mt} {Q : Option GFv × Int -> Prop} (hl : ms.length <= 1000) (hno : ¬ Yu P M mf -> Q (none, 1))
  (h : ∀ (F : GFv) (p m v g : Nat), GFk F p m v g -> FV P M mf p m v -> Jhh P M mf ms = 0 -> Q (some F, 0)) (hb : Yu P M mf -> Jhh P M mf ms ≠ 0 -> Q (none, Jhh P M mf ms)) : Jc5 P M mf ms Q := by
 refine v_New (fun hn => ⟨fun h0 => ⟨h0, hno hn⟩, fun h0 => absurd (show (1 : Int) ≠ 0 by decide) h0⟩) fun F p m v g K eP eM emf => ⟨fun h0 => absurd rfl h0, fun _ => ?_⟩
 have hF : FV P M mf p m v := by rw [<- eP, <- eM, <- emf]; exact K.fv
 have hV : Yu P M mf := ⟨p, m, v, hF⟩
 refine ⟨fun z => ∃ t : Nat, z = t /\ t <= ms.length /\ Jhh P M mf (ms.drop t) = Jhh P M mf ms, fun z => (ms.length - z).toNat, ⟨0, rfl, Nat.zero_le _, rfl⟩, ?_⟩; rintro _ ⟨t, rfl, ht, he⟩; refine ⟨fun hlt => ?_, fun hge => ?_⟩
 .have htl : t < ms.length := by omega
  have hd : ms.drop t = gm ms t :: ms.drop (t + 1) := by
   rw [List.drop_eq_getElem_cons htl]
   congr 1
   unfold gm; show _ = ms.getD t (0, []); rw [List.getD_eq_getElem?_getD, List.getElem?_eq_getElem htl]; rfl
  rw [hd] at he; generalize gm ms t = mt at *
  obtain ⟨C, X⟩ := mt; simp only [Jhh] at he; dsimp only; refine ⟨⟨by omega, by omega⟩, Jkv (fun hs => ⟨fun h => absurd h (by decide), fun _ => ?_⟩) (fun hs => ⟨fun _ => ⟨by decide, ?_⟩, fun h => absurd h (by decide)⟩)⟩
  .refine ⟨fun z => ∃ s : Nat, z = s /\ s <= X.length /\ ∀ k, k < s -> Elr p m (row X k), fun z => (X.length - z).toNat, ⟨0, rfl, Nat.zero_le _, fun k hk => by omega⟩, ?_⟩; rintro _ ⟨s, rfl, hs1, hs2⟩; have hX : X.length <= 256 := Jg4 hs; dsimp only; refine ⟨fun hlt2 => ⟨⟨by omega, by omega⟩, Jft K (by show (row X s).length <= _; rw [Qt hs (by omega)]; have := hs.2.1; omega) (fun hel => ⟨fun h => absurd h (by decide), fun _ => ⟨Jq (by omega) (by omega), ⟨s + 1, by push_cast; rfl, by omega, fun k hk => ?_⟩, by omega⟩⟩) (fun hel => ⟨fun _ => ⟨by decide, ?_⟩, fun h => absurd h (by decide)⟩)⟩, fun hge2 => ?_⟩
   .rcases Nat.lt_or_ge k s with h | h
    .exact hs2 k h
    .rw [show k = s by omega]; exact hel
   .have e : mck P M mf C X = 2 := Jhu hV hs fun hv => hel (Qi ((Zi hF).1 hv) s); rw [e, if_neg (by decide)] at he; have := hb hV (by rw [<- he]; decide)
    rwa [<- he] at this
   .have e : mck P M mf C X = 0 := Jlo hV hs ((Zi hF).2 (Jba fun k hk => hs2 k (by omega))); rw [e, if_pos rfl] at he; exact ⟨Jq (by omega) (by omega), ⟨t + 1, by push_cast; rfl, by omega, he⟩, by omega⟩
  .have e : mck P M mf C X = 3 := Jag hV hs; rw [e, if_neg (by decide)] at he; have := hb hV (by rw [<- he]; decide)
   rwa [<- he] at this
 .rw [show t = ms.length by omega, List.drop_length] at he; exact h F p m v g K hF he.symm
theorem Jjf : Jhh P M mf [(C, X)] = mck P M mf C X := by
 simp only [Jhh]; split
 .rename_i h; exact h.symm
 .rfl
theorem Jmp {Q : Option GFv × Int -> Prop} (hb : mck P M mf C X ≠ 0 -> Q (none, mck P M mf C X))
    (h : ∀ (F : GFv) (p m v g : Nat), GFk F p m v g -> FV P M mf p m v -> shp C X -> Els p m X -> mck P M mf C X = 0 -> Q (some F, 0)) : Jc5 P M mf [(C, X)] Q := by
  refine w_open (by simp) (fun hn => ?_) (fun F p m v g K hF he => ?_) (fun hV he => ?_)
  . have := hb (by rw [Jht hn]; decide); rwa [Jht hn] at this
  . rw [Jjf] at he
    obtain ⟨_, h2, h3⟩ := Jbu he
    exact h F p m v g K hF h2 ((Zi hF).1 h3) he
  . rw [Jjf] at he ⊢; exact hb he
theorem Jp1 {Q : Int -> Prop} (h : Q (mck P M mf C X)) : Jca P M mf C X Q := Jmp (fun _ _ => h) (fun F p m v g K hF h1 h2 h3 => by show Q 0; rw [<- h3]; exact h)
theorem Jn6 {Q : Int -> Prop} (h : Q (mck P M mf C X)) : Jal P M mf C X Q := by
 refine Ji2 ?_; by_cases hV : Yu P M mf
 .rw [Jgj hV]; refine ⟨fun h0 => absurd rfl h0, fun _ => ⟨fun h0 => ?_, fun h0 => ⟨fun h1 => ?_, fun h1 => ⟨fun h2 => ?_, fun h2 => ?_⟩⟩⟩⟩
  .rw [Jag hV fun s => by have := s.1; omega] at h; exact h
  .rw [Jag hV fun s => by have := s.2.1; omega] at h; exact h
  .rw [Jag hV fun s => by have := s.2.2.1; omega] at h; exact h
  .refine ⟨fun z => ∃ t : Nat, z = t /\ t <= X.length /\ ∀ k, k < t -> ((row X k).length : Int) = C, fun z => (X.length - z).toNat, ⟨0, rfl, Nat.zero_le _, fun k hk => by omega⟩, ?_⟩; rintro _ ⟨t, rfl, ht, hk⟩; dsimp only; refine ⟨fun hlt => ⟨⟨by omega, by omega⟩, fun hne => ?_, fun he => ⟨Jq (by omega) (by omega), ⟨t + 1, by push_cast; rfl, by omega, fun k hk' => ?_⟩, by omega⟩⟩, fun hge => ?_⟩
   .rw [Jag hV fun s => hne (s.2.2.2 _ (YW (by omega)))] at h; exact h
   .rcases Nat.lt_or_ge k t with h | h
    .exact hk k h
    .rw [show k = t by omega]; exact Classical.not_not.1 he
   .have hs : shp C X := ⟨by omega, by omega, by omega, fun r hr => by obtain ⟨s, h3, rfl⟩ := YY hr; exact hk s (by omega)⟩
    obtain ⟨p, m, v, hF⟩ := hV; refine ⟨fun r z => r = 0 /\ ∃ s : Nat, z = s /\ s <= X.length /\ ∀ k, k < s -> Elr p m (row X k), fun _ z => (X.length - z).toNat, ⟨rfl, 0, rfl, Nat.zero_le _, fun k hk => by omega⟩, ?_⟩; rintro _ _ ⟨rfl, s, rfl, hs1, hs2⟩; dsimp only; refine ⟨fun hlt2 => ⟨⟨by omega, by omega⟩, ?_⟩, fun hge2 => ?_⟩
    .have hrl : (row X s).length <= 1000000 := by rw [Qt hs (by omega)]; have := hs.2.1; omega
     by_cases hel : Elr p m (row X s)
     .refine ⟨0, Jec hF hrl (fun _ => rfl) (fun h => absurd hel h), fun h0 => absurd rfl h0, fun _ => ⟨Jq (by omega) (by omega), ⟨rfl, s + 1, by push_cast; rfl, by omega, fun k hk' => ?_⟩, by omega⟩⟩; rcases Nat.lt_or_ge k s with h | h
      .exact hs2 k h
      .rw [show k = s by omega]; exact hel
     .refine ⟨2, Jec hF hrl (fun h => absurd h hel) (fun _ => rfl), fun _ => ?_, fun h0 => absurd (by decide) h0⟩; rw [Jhu ⟨p, m, v, hF⟩ hs fun hv => hel (Qi ((Zi hF).1 hv) s)] at h; exact h
    .rw [Jlo ⟨p, m, v, hF⟩ hs ((Zi hF).2 (Jba fun k hk' => hs2 k (by omega)))] at h; exact h
 .rw [Yr hV]; rw [Jht hV] at h; exact ⟨fun _ => h, fun h0 => absurd (by decide) h0⟩
def ec (p m v : Nat) (C : Int) (X : LL) : ES := elim p m v C.toNat ⟨X, List.replicate X.length [], [], 1⟩
def J9 (p m v : Nat) (C : Int) (X : LL) : LL := (ec p m v C X).X.take (ec p m v C X).pv.length
def J2 (p m v : Nat) (C : Int) (X : LL) : LI := (ec p m v C X).pv
theorem Jtq {n t : Nat} {l : LI} (h : t < n) : row (List.replicate n l) t = l := by
 unfold row; rw [List.getD_eq_getElem?_getD, List.getElem?_replicate, if_pos h]; rfl
theorem shp_S0 (hs : shp C X) {Z : LL} {wz : Nat} {d : Int} (hZ : Z.length = X.length) (hz : ∀ t, t < X.length -> (row Z t).length = wz) : Shp X.length C.toNat wz ⟨X, Z, [], d⟩ := ⟨rfl, fun t ht => Qt hs ht, hZ, hz, Nat.zero_le _⟩
theorem Jad (hs : shp C X) : Shp X.length C.toNat 0 ⟨X, List.replicate X.length [], [], 1⟩ := shp_S0 hs (by simp) fun t ht => by rw [Jtq ht]; rfl
theorem Jcj (hs : shp C X) : X.length <= 256 /\ C.toNat <= 256 /\ ((C.toNat : Nat) : Int) = C := ⟨hs.2.2.1, by have := hs.2.1; omega, by have := hs.1; omega⟩
theorem Jqm (hs : shp C X) : ∀ r ∈ X, r.length <= 1000000 := fun r hr => by have := hs.2.2.2 r hr; have := hs.2.1; omega
theorem Z1 (hs : shp C X) : Shp X.length C.toNat 0 (ec p m v C X) := YI (Jad hs) _
theorem Jiz {Q : Int × LL × LI -> Prop} (K : GFk F p m v g) (hs : shp C X) (h : Q (C, J9 p m v C X, J2 p m v C X)) : Y8 F C X Q := by
 obtain ⟨h1, h2, h3⟩ := Jcj hs; refine Jp2 (by omega) (Jqm hs) ⟨⟨by omega, by omega, by omega⟩, ?_⟩; show Yw F C X (List.replicate X.length ([] : LI)) _; rw [<- h3]; refine Jiy K (by omega) (by omega) (wy := 0) (by omega) (Jad hs) ?_; rw [h3]; have := (Z1 (p := p) (m := m) (v := v) hs).pl; exact ⟨⟨by omega, by show ((ec p m v C X).pv.length : Int) <= _; omega⟩, h⟩
theorem Ji0 {Q : Int × LL × LI × Int -> Prop} (hb : mck P M mf C X ≠ 0 -> Q (0, [], [], mck P M mf C X))
  (h : ∀ p m v, FV P M mf p m v -> shp C X -> Els p m X -> mck P M mf C X = 0 -> Q (C, J9 p m v C X, J2 p m v C X, 0)) : Za P M mf C X Q :=
 Jmp (fun h0 _ => hb h0) fun F p m v g K hF hs he h0 => Jiz K hs (h p m v hF hs he h0)
theorem Jiu {Q : LL × LI -> Prop} (hF : FV P M mf p m v) (hs : shp C X) (he : Els p m X) (h : Q (J9 p m v C X, J2 p m v C X)) : Jaa P M mf X C Q := by
 obtain ⟨h1, h2, h3⟩ := Jcj hs; show QQ P M mf X C _; rw [<- h3]; refine Jgt hF (by omega) (by omega) (Jad hs) he ?_; have h4 := Z1 (p := p) (m := m) (v := v) hs; exact ⟨⟨by omega, by have := h4.pl; have := h4.xl; show ((ec p m v C X).pv.length : Int) <= ((ec p m v C X).X.length : Nat); omega⟩, h⟩
theorem FV.uniq3 {p' m' v' : Nat} (h : FV P M mf p m v) (h' : FV P M mf p' m' v') : p = p' /\ m = m' /\ v = v' := by
 obtain ⟨e1, e2⟩ := h.uniq h'; subst e1; subst e2; refine ⟨rfl, rfl, ?_⟩; by_cases hm : m = 1
 .rw [(h.m1 hm).2, (h'.m1 hm).2]
 .have e1 := h.m2 hm; have e2 := h'.m2 hm; have hp := h.p2; have h3 : dv p v = dv p v' := by rw [<- h.vo, <- h'.vo]
  have h4 := Ja4 (p := p) (m := m) (x := v) (by omega) h.vlt; have h5 := Ja4 (p := p) (m := m) (x := v') (by omega) h'.vlt; rw [<- h4, <- h5, h3]
end
end Go.Proofs.Ytgjloioccgcceaa
namespace Go.Proofs.Ytgjloioccgcceaa
section
variable {p m v : Nat}
def Asc (k : Nat) (l : LI) : Prop := (∀ i, i < l.length -> 0 <= vo l i /\ vo l i < (k : Int)) /\ ∀ i j, i < j -> j < l.length -> vo l i < vo l j
theorem Jbn {l : LI} {x : Int} {i : Nat} : vo (l ++ [x]) i = if i < l.length then vo l i else if i = l.length then x else 0 := by
 unfold vo; rw [List.getD_eq_getElem?_getD, List.getD_eq_getElem?_getD, List.getElem?_append]; by_cases h : i < l.length
 .rw [if_pos h, if_pos h]
 .rw [if_neg h, if_neg h]; by_cases h2 : i = l.length
  .subst h2; simp
  .rw [if_neg h2]; have : i - l.length ≠ 0 := by omega
   cases hh : i - l.length with
   | zero => omega
   | succ n => simp
theorem Asc.snoc {k : Nat} {l : LI} (h : Asc k l) : Asc (k + 1) (l ++ [(k : Int)]) := by
 refine ⟨fun i hi => ?_, fun i j hij hj => ?_⟩
 .rw [List.length_append] at hi; rw [Jbn]; split
  .rename_i h1; have := h.1 i h1; omega
  .split
   .omega
   .simp at hi; omega
 .rw [List.length_append] at hj; have hj' : j < l.length + 1 := by simpa using hj
  rw [Jbn, Jbn, if_pos (show i < l.length by omega)]; split
  .rename_i h1; exact h.2 i j hij h1
  .rw [if_pos (show j = l.length by omega)]; exact (h.1 i (by omega)).2
theorem Asc.up {k : Nat} {l : LI} (h : Asc k l) : Asc (k + 1) l := ⟨fun i hi => by have := h.1 i hi; omega, h.2⟩
theorem Jfb {S : ES} (h : S.pv = []) : ∀ k, Asc k (elim p m v k S).pv
 | 0 => by
  show Asc 0 S.pv; rw [h]; exact ⟨fun i hi => absurd hi (Nat.not_lt_zero i), fun i j _ hj => absurd hj (Nat.not_lt_zero j)⟩
 | k + 1 => by
  have ih := Jfb h k; rw [Qy]; unfold QU; split
  .exact ih.snoc
  .exact ih.up
theorem YK (C : Int) (X : LL) : Asc C.toNat (J2 p m v C X) := Jfb rfl _
end
section
variable {F : GFv} {p m v g : Nat} {P M : Int} {mf : LI} {X Y : LL} {C : Int}
theorem Ys (hs : shp C X) : (J9 p m v C X).length = (J2 p m v C X).length := by
 have h0 := Z1 (p := p) (m := m) (v := v) hs; unfold J9 J2; rw [List.length_take]; have h1 := h0.pl; have h2 := h0.xl; omega
theorem ZR {Z : LL} {n t : Nat} (h : t < n) : row (Z.take n) t = row Z t := by
 unfold row; rw [List.getD_eq_getElem?_getD, List.getD_eq_getElem?_getD, List.getElem?_take, if_pos h]
theorem Jr5 (hs : shp C X) {t : Nat} (ht : t < (J9 p m v C X).length) : (row (J9 p m v C X) t).length = C.toNat := by
 have h1 := Z1 (p := p) (m := m) (v := v) hs; rw [Ys hs] at ht; unfold J9; rw [ZR (n := (ec p m v C X).pv.length) ht]; exact h1.xr t (Nat.lt_of_lt_of_le ht h1.pl)
theorem Z2 (hs : shp C X) : shp C (J9 p m v C X) := by
 obtain ⟨h1, h2, h3⟩ := Jcj hs; have h4 := Z1 (p := p) (m := m) (v := v) hs; refine ⟨hs.1, hs.2.1, by rw [Ys hs]; have := h4.pl; show (ec p m v C X).pv.length <= 256; omega, fun r hr => ?_⟩; obtain ⟨t, ht, rfl⟩ := YY hr; rw [Jr5 hs ht]; exact h3
theorem Jkc (hs : shp C X) : (J2 p m v C X).length <= X.length := (Z1 (p := p) (m := m) (v := v) hs).pl
end
end Go.Proofs.Ytgjloioccgcceaa
namespace Go.Proofs.Ytgjloioccgcceaa
section
variable {F : GFv} {p m v g : Nat} {P M : Int} {mf : LI} {X Y : LL} {C : Int}
open Classical in
noncomputable def sqe (P M : Int) (mf : LI) (C : Int) (X : LL) : Int := if mck P M mf C X ≠ 0 then mck P M mf C X else if (X.length : Int) ≠ C then 3 else 0
def cmb (p m v : Nat) (x : LI) (C : Nat) (X : LL) (k : Nat) : LI := (List.range k).foldl (fun s i => adx p m v s (vo x i) (row X i)) (List.replicate C 0)
open Classical in
noncomputable def vce (p m : Nat) (x : LI) (n : Nat) : Int := if x.length ≠ n then 3 else if ¬ Elr p m x then 2 else 0
def rgt (b : LI) : LL := b.map fun y => [y]
def eb (p m v : Nat) (C : Int) (X : LL) (b : LI) : ES := elim p m v C.toNat ⟨X, rgt b, [], 1⟩
end
def A3 : LL := [[1, 1, 0], [0, 1, 1], [1, 0, 1]]
def A2 : LL := [[1, 2], [3, 4]]
instance (p m : Nat) (x : Int) : Decidable (El p m x) := inferInstanceAs (Decidable (_ /\ _))
end Go.Proofs.Ytgjloioccgcceaa
namespace Go.Proofs.Ytgjloioccgcceaa
end Go.Proofs.Ytgjloioccgcceaa
namespace Go.Proofs.Ytgjloioccgcceaa
section
variable {F : GFv} {p m v g : Nat} {P M : Int} {mf : LI} {X : LL} {C : Int} {set y : LI}
end
end Go.Proofs.Ytgjloioccgcceaa
namespace Go.Proofs.Ytgjloioccgcceaa
section
variable {p m v : Nat} {P M : Int} {mf : LI} {X Y : LL} {C : Int} {w : Nat}
def en (p m : Nat) (l : LI) : Nat -> Nat := fun c => inE (p ^ m) (vo l c)
structure Lin (p m v w : Nat) (f : (Nat -> Nat) -> Nat) : Prop where
  lt : ∀ a, f a < p ^ m
  cg : ∀ {a b : Nat -> Nat}, (∀ c, c < w -> a c = b c) -> f a = f b
  ad : ∀ {a b : Nat -> Nat} {x : Nat}, (∀ c, a c < p ^ m) -> (∀ c, b c < p ^ m) -> x < p ^ m -> f (fun c => JZ p m (a c) (Jy p m (dv p v) x (b c))) = JZ p m (f a) (Jy p m (dv p v) x (f b))
  ml : ∀ {a : Nat -> Nat} {x : Nat}, (∀ c, a c < p ^ m) -> x < p ^ m -> f (fun c => Jy p m (dv p v) x (a c)) = Jy p m (dv p v) x (f a)
theorem Jrw (hF : FV P M mf p m v) {a o : LI} {x : Int} {c : Nat} (hc : c < a.length) : en p m (adx p m v a x o) c = JZ p m (en p m a c) (Jy p m (dv p v) (inE (p ^ m) x) (en p m o c)) := by
 have R := hF.ring; have hq : 0 < p ^ m := by have := R.q2; omega
 have e0 : inE (p ^ m) 0 = 0 := QB (x := 0) hq; have hz : ∀ y, y < p ^ m -> Jy p m (dv p v) 0 y = 0 := fun y hy => by rw [R.Mc hq hy]; exact R.M0 hy
 unfold en adx; split
 .rename_i h; subst h
  rw [e0, hz _ (J6 hq _), R.Az (J6 hq _)]
 .rw [ZQ hc]; split
  .rename_i h; rw [h, e0, R.M0 (J6 hq _), R.Az (J6 hq _)]
  .unfold Ad Ml; rw [QB (R.Al _ _), QB (R.Ml _ _)]
theorem Zt {r cur t : Nat} (hr : r < X.length) (hc : cur < X.length) : row (swq X r cur) t = if t = cur then row X r else if t = r then row X cur else row X t := by
  unfold swq
  split
  . rename_i h; subst h
    split
    . rename_i h; rw [h]
    . rfl
  . exact Zu hr hc
theorem Jg5 {cur t : Nat} {e : Int} (hc : cur < X.length) : row (scq p m v X cur e) t = if t = cur then sc p m v (Iv p m v e) (row X cur) else row X t := by
 unfold scq; rw [Q5]; by_cases h : cur = t
 .rw [if_pos ⟨h, hc⟩, if_pos h.symm]
 .rw [if_neg (fun hh => h hh.1), if_neg (fun hh => h hh.symm)]
theorem iv_ex {g : Nat} (K : Gn (p ^ m) (Jy p m (dv p v)) g) (hF : FV P M mf p m v) {x : Int} (h0 : x ≠ 0) (hx : El p m x) : inE (p ^ m) x < p ^ m /\ Jy p m (dv p v) (inE (p ^ m) x) (inE (p ^ m) (Iv p m v x)) = 1 := by
 have R := hF.ring; have q1 : 1 < p ^ m := R.q2; have hx1 := J6 (q := p ^ m) (by omega) x; have hne : 0 < inE (p ^ m) x := by
  have := Jct hx; omega
 have h1 := K.xone R hne hx1; refine ⟨hx1, ?_⟩; have hz : pw (Jy p m (dv p v)) (inE (p ^ m) x) (p ^ m - 1 - 1) < p ^ m := by
  cases p ^ m - 1 - 1 with
  | zero => exact q1
  | succ n => exact R.Ml _ _
 have h2 : Jy p m (dv p v) (pw (Jy p m (dv p v)) (inE (p ^ m) x) (p ^ m - 1 - 1)) (inE (p ^ m) x) = 1 := by
  rw [show p ^ m - 1 = (p ^ m - 1 - 1) + 1 by omega] at h1; exact h1
 rw [Jn4 R hx1 hz h2, QB hz, R.Mc hx1 hz]; exact h2
end
end Go.Proofs.Ytgjloioccgcceaa
namespace Go.Proofs.Ytgjloioccgcceaa
section
variable {p m v g : Nat} {P M : Int} {mf : LI} {X Y : LL} {C : Int} {w : Nat}
structure Red (k : Nat) (S : ES) : Prop where
  one : ∀ i, i < S.pv.length -> ∀ t, t < S.X.length -> vo (row S.X t) (vo S.pv i).toNat = if t = i then 1 else 0
  lo : ∀ t, S.pv.length <= t -> t < S.X.length -> ∀ c, c < k -> vo (row S.X t) c = 0
  lf : ∀ i, i < S.pv.length -> ∀ c : Nat, (c : Int) < vo S.pv i -> vo (row S.X i) c = 0
theorem Jth {a o : LI} {x : Int} {c : Nat} (h : vo o c = 0) : vo (adx p m v a x o) c = vo a c := by
 unfold adx; split
 .rfl
 .rcases Nat.lt_or_ge c a.length with hc | hc
  .rw [ZQ hc, if_pos h]
  .rw [Jbm hc, Jbm (by rw [Jb1]; exact hc)]
theorem Jp3 (hF : FV P M mf p m v) {l : LI} {x : Int} {c : Nat} (h : vo l c = 0) : vo (sc p m v x l) c = 0 := by
 have hq : 0 < p ^ m := by have := hF.ring.q2; omega
 rcases Nat.lt_or_ge c l.length with hc | hc
 .rw [Jeh hc, h]; unfold Ml; rw [show inE (p ^ m) 0 = 0 from QB (x := 0) hq, hF.ring.M0 (J6 hq _)]; rfl
 .exact Jbm (by unfold sc; rw [List.length_map]; exact hc)
theorem Jqx (K : Gn (p ^ m) (Jy p m (dv p v)) g) (hF : FV P M mf p m v) {S : ES} {k : Nat} (hA : Asc k S.pv) (hl : S.pv.length <= S.X.length) (he : Els p m S.X) (h : Red k S) : Red (k + 1) (QU p m v S k) := by
 have R := hF.ring; have q1 : 1 < p ^ m := R.q2; have hp : 0 < p := by have := hF.p2; omega
 unfold QU; split
 case isFalse h1 =>
  refine ⟨h.one, fun t ht1 ht2 c hc => ?_, h.lf⟩; rcases Nat.lt_or_ge c k with hck | hck
  .exact h.lo t ht1 ht2 c hck
  .have e : c = k := by omega
   subst e; have hs := Zx S.X c S.pv.length hl; exact hs.2.1 t ht1 (by
    rcases Nat.lt_or_ge t (nz S.X c S.pv.length) with h | h
    .exact h
    .exact absurd ⟨by omega, by omega⟩ h1)
 case isTrue h1 =>
  obtain ⟨hc, hr⟩ := h1; have hrs := Jne S.X k S.pv.length; have hne := (Zx S.X k S.pv.length hl).2.2 hr; have hkl : k < (row S.X (nz S.X k S.pv.length)).length := by
   rcases Nat.lt_or_ge k (row S.X (nz S.X k S.pv.length)).length with h | h
   .exact h
   .exact absurd (Jbm h) hne
  have hel : El p m (vo (row S.X (nz S.X k S.pv.length)) k) := Qi he _ _ (Jcg hkl); obtain ⟨h4, h5⟩ := iv_ex K hF hne hel; have hE3 : Els p m (es1 p m v k (nz S.X k S.pv.length) S.pv.length S).X := Jh7 hp he hr hc; have hn : (es1 p m v k (nz S.X k S.pv.length) S.pv.length S).X.length = S.X.length := by rw [Ja5, YA, Qs, JS]
  generalize hrr : nz S.X k S.pv.length = r at *
  have hx2 : ∀ t, row (scq p m v (swq S.X r S.pv.length) S.pv.length (vo (row (swq S.X r S.pv.length) S.pv.length) k)) t = if t = S.pv.length then sc p m v (Iv p m v (vo (row S.X r) k)) (row S.X r) else if t = r then row S.X S.pv.length else row S.X t := fun t => by
   rw [Jg5 (by rw [JS]; exact hc), Zt hr hc, Zt hr hc, if_pos rfl]; split <;> rfl
  have hx3 : ∀ t, t < S.X.length -> row (es1 p m v k r S.pv.length S).X t = if t = S.pv.length then sc p m v (Iv p m v (vo (row S.X r) k)) (row S.X r) else adx p m v (if t = r then row S.X S.pv.length else row S.X t) (Ng p m (vo (if t = r then row S.X S.pv.length else row S.X t) k)) (sc p m v (Iv p m v (vo (row S.X r) k)) (row S.X r)) := fun t ht => by
   rw [Ja5, YX (by rw [Qs, JS]; exact ht), hx2, hx2, if_pos rfl]; split
   .rfl
   .rfl
  -- the columns before stay
  have hold : ∀ t, t < S.X.length -> ∀ c, c < k -> vo (row (es1 p m v k r S.pv.length S).X t) c = vo (row S.X t) c := fun t ht c hck => by
   have z1 : vo (row S.X r) c = 0 := h.lo r hrs hr c hck; have z2 : vo (row S.X S.pv.length) c = 0 := h.lo _ (Nat.le_refl _) hc c hck; rw [hx3 t ht]; split
   .rename_i e; rw [Jp3 hF z1, e, z2]
   .rw [Jth (Jp3 hF z1)]; split
    .rename_i e; rw [z2, e, z1]
    .rfl
  have hone : vo (sc p m v (Iv p m v (vo (row S.X r) k)) (row S.X r)) k = 1 := by
   rw [Jeh hkl]; unfold Ml; rw [R.Mc (J6 (by omega) _) h4, h5]; rfl
  have hnew : ∀ t, t < S.X.length -> vo (row (es1 p m v k r S.pv.length S).X t) k = if t = S.pv.length then 1 else 0 := fun t ht => by
   have hEt := Qi hE3 t; have hx := hx3 t ht; by_cases e : t = S.pv.length
   .rw [if_pos e] at hx ⊢; rw [hx]; exact hone
   .rw [if_neg e] at hx ⊢; rcases Nat.lt_or_ge k (if t = r then row S.X S.pv.length else row S.X t).length with hkt | hkt
    .have h6 := Jrw hF (x := Ng p m (vo (if t = r then row S.X S.pv.length else row S.X t) k)) (o := sc p m v (Iv p m v (vo (row S.X r) k)) (row S.X r)) hkt; rw [<- hx] at h6; have h7 : en p m (sc p m v (Iv p m v (vo (row S.X r) k)) (row S.X r)) k = 1 := by unfold en; rw [hone]; exact QB (x := 1) q1
     rw [h7] at h6; unfold Ng at h6; have h8 : Yy p m (inE (p ^ m) (vo (if t = r then row S.X S.pv.length else row S.X t) k)) < p ^ m := Jd1 hp _; rw [QB h8, R.M1 h8] at h6; have h9 : en p m (row (es1 p m v k r S.pv.length S).X t) k = 0 := by rw [h6]; exact ZY hp (J6 (by omega) _)
     have h10 : El p m (vo (row (es1 p m v k r S.pv.length S).X t) k) := hEt _ (Jcg (by rw [hx, Jig]; exact hkt)); rw [<- Jct h10]; show ((en p m (row (es1 p m v k r S.pv.length S).X t) k : Nat) : Int) = 0; rw [h9]; rfl
    .rw [hx]; exact Jbm (by rw [Jig]; exact hkt)
  have hpv : (es1 p m v k r S.pv.length S).pv = S.pv ++ [(k : Int)] := rfl; refine ⟨fun i hi t ht => ?_, fun t ht1 ht2 c hck => ?_, fun i hi c hci => ?_⟩
  .rw [hn] at ht; rw [hpv, List.length_append, List.length_singleton] at hi; rw [hpv, Jbn]; by_cases e : i < S.pv.length
   .rw [if_pos e, hold t ht _ (by have := hA.1 i e; omega)]; exact h.one i e t ht
   .have e2 : i = S.pv.length := by omega
    rw [if_neg e, if_pos e2, e2]; exact hnew t ht
  .rw [hn] at ht2; rw [hpv, List.length_append, List.length_singleton] at ht1; rcases Nat.lt_or_ge c k with h6 | h6
   .rw [hold t ht2 c h6]; exact h.lo t (by omega) ht2 c h6
   .rw [show c = k by omega, hnew t ht2, if_neg (by omega)]
  .rw [hpv, List.length_append, List.length_singleton] at hi; rw [hpv, Jbn] at hci; by_cases e : i < S.pv.length
   .rw [if_pos e] at hci; rw [hold i (by omega) c (by have := hA.1 i e; omega)]; exact h.lf i e c hci
   .have e2 : i = S.pv.length := by omega
    rw [if_neg e, if_pos e2] at hci; rw [hold i (by omega) c (by omega), e2]; exact h.lo _ (Nat.le_refl _) hc c (by omega)
theorem Jjb (K : Gn (p ^ m) (Jy p m (dv p v)) g) (hF : FV P M mf p m v) {n wy : Nat} {S : ES} (hS : Shp n w wy S) (he : Els p m S.X) (h0 : S.pv = []) : ∀ k, Red k (elim p m v k S)
 | 0 => ⟨fun i hi => by
   have : (elim p m v 0 S).pv = [] := h0; rw [this] at hi; exact absurd hi (Nat.not_lt_zero _), fun t _ _ c hc => absurd hc (Nat.not_lt_zero _), fun i hi => by
   have : (elim p m v 0 S).pv = [] := h0; rw [this] at hi; exact absurd hi (Nat.not_lt_zero _)⟩
 | k + 1 => by
  rw [Qy]; have hk := YI (p := p) (m := m) (v := v) hS k; exact Jqx K hF (Jfb h0 k) (by have := hk.pl; have := hk.xl; omega) (ZZ (by have := hF.p2; omega) he k) (Jjb K hF hS he h0 k)
end
end Go.Proofs.Ytgjloioccgcceaa
namespace Go.Proofs.Ytgjloioccgcceaa
section
variable {p m v g : Nat} {P M : Int} {mf : LI} {X Y : LL} {C : Int} {w : Nat}
def fs (p m : Nat) (f : Nat -> Nat) : Nat -> Nat
  | 0 => 0
  | n + 1 => JZ p m (fs p m f n) (f n)
theorem Jrq (hF : FV P M mf p m v) : ∃ g, Gn (p ^ m) (Jy p m (dv p v)) g := hF.gen
end
end Go.Proofs.Ytgjloioccgcceaa
namespace Go.Proofs.Ytgjloioccgcceaa
section
variable {p m v g : Nat} {P M : Int} {mf : LI} {X Y : LL} {C : Int} {w : Nat}
theorem Jid (hF : FV P M mf p m v) (hs : shp C X) (he : Els p m X) : Red C.toNat (ec p m v C X) := by
 obtain ⟨g, G⟩ := Jrq hF; exact Jjb G hF (Jad hs) he rfl _
theorem Jby (hF : FV P M mf p m v) (hs : shp C X) (he : Els p m X) {i t : Nat} (hi : i < (J2 p m v C X).length) (ht : t < (J2 p m v C X).length) : vo (row (J9 p m v C X) t) (vo (J2 p m v C X) i).toNat = if t = i then 1 else 0 := by
 have hS := Z1 (p := p) (m := m) (v := v) hs; have := Jkc (p := p) (m := m) (v := v) hs; rw [show row (J9 p m v C X) t = row (ec p m v C X).X t from ZR ht]; exact (Jid hF hs he).one i hi t (by have := hS.xl; omega)
theorem Jfg (hF : FV P M mf p m v) (hs : shp C X) (he : Els p m X) {i c : Nat} (hi : i < (J2 p m v C X).length) (hc : (c : Int) < vo (J2 p m v C X) i) : vo (row (J9 p m v C X) i) c = 0 := by
 rw [show row (J9 p m v C X) i = row (ec p m v C X).X i from ZR hi]; exact (Jid hF hs he).lf i hi c hc
end
end Go.Proofs.Ytgjloioccgcceaa
namespace Go.Proofs.Ytgjloioccgcceaa
end Go.Proofs.Ytgjloioccgcceaa
namespace Go.Proofs.Ytgjloioccgcceaa
section
variable {p m v : Nat} {P M : Int} {mf : LI} {X Y : LL} {C : Int} {w : Nat}
end
end Go.Proofs.Ytgjloioccgcceaa
namespace Go.Proofs.Ytgjloioccgcceaa
section
variable {p m v : Nat} {P M : Int} {mf : LI} {X Y : LL} {C : Int} {w : Nat}
end
end Go.Proofs.Ytgjloioccgcceaa
namespace Go.Proofs.Ytgjloioccgcceaa
section
variable {p m v : Nat} {P M : Int} {mf : LI} {X Y : LL} {C : Int} {w : Nat}
end
end Go.Proofs.Ytgjloioccgcceaa
namespace Go.Proofs.Ytgjloioccgcceaa
section
variable {p m v : Nat} {P M : Int} {mf : LI} {X Y : LL} {C : Int} {w : Nat}
end
end Go.Proofs.Ytgjloioccgcceaa
namespace Go.Proofs.Ytgjloioccgcceaa
section
variable {p m v : Nat} {P M : Int} {mf : LI} {X Y : LL} {C : Int} {w wy : Nat}
def e2 (p m w : Nat) (a b : LI) : Nat -> Nat := fun c => if c < w then en p m a c else en p m b (c - w)
end
end Go.Proofs.Ytgjloioccgcceaa
namespace Go.Proofs.Ytgjloioccgcceaa
section
variable {p m v : Nat} {P M : Int} {mf : LI} {X Y : LL} {C : Int} {w wy : Nat}
def u1 (p m w : Nat) (u : Nat -> Nat) : Nat -> Nat := fun c => if c < w then u c else Yy p m 1
end
end Go.Proofs.Ytgjloioccgcceaa
namespace Go.Proofs.Ytgjloioccgcceaa
end Go.Proofs.Ytgjloioccgcceaa
namespace Go.Proofs.Ytgjloioccgcceaa
section
variable {p m v : Nat} {P M : Int} {mf : LI} {X Y : LL} {C D : Int} {w wy : Nat}
def mm (p m v w : Nat) (A B : LL) : LL := (List.range A.length).map fun t => cmb p m v (row A t) w B B.length
end
end Go.Proofs.Ytgjloioccgcceaa
namespace Go.Proofs.Ytgjloioccgcceaa
section
variable {P M : Int} {mf : LI} {X : LL} {C : Int}
end
end Go.Proofs.Ytgjloioccgcceaa
namespace Go.Proofs.Ytgjloioccgcceaa
section
variable {p m v : Nat} {P M : Int} {mf : LI} {X Y : LL} {C D : Int} {w wy : Nat}
end
end Go.Proofs.Ytgjloioccgcceaa
namespace Go.Proofs.Ytgjloioccgcceaa
section
variable {p m v : Nat} {P M : Int} {mf : LI} {X Y : LL} {C D : Int} {w wy : Nat}
end
end Go.Proofs.Ytgjloioccgcceaa
namespace Go.Proofs.Ytgjloioccgcceaa
/-! ### canonical matrices -/
variable {P M : Int} {mf : LI} {p m v : Nat} {C : Int} {X Y : LL}
/-- The rows are canonical; q: the columns of their first entries. -/
structure Cnl (C : Nat) (X : LL) (q : Nat -> Nat) : Prop where
  lt : ∀ i, i < X.length -> q i < C
  one : ∀ i, i < X.length -> ∀ t, t < X.length -> vo (row X t) (q i) = if t = i then 1 else 0
  lf : ∀ i, i < X.length -> ∀ c, c < q i -> vo (row X i) c = 0
  asc : ∀ i j, i < j -> j < X.length -> q i < q j
def Jkr (C : Int) (X : LL) : Prop := ∃ q, Cnl C.toNat X q
theorem Jsj (a o : LI) : adx p m v a 0 o = a := by unfold adx; rw [if_pos rfl]
theorem ng_0 (hF : FV P M mf p m v) : Ng p m 0 = 0 := (Jnf hF ⟨by omega, by
 have := hF.ring.q2; have h : (0 : Int) < ((p ^ m : Nat) : Int) := by exact_mod_cast (by omega : 0 < p ^ m)
 exact h⟩).2 rfl
theorem Jup (hF : FV P M mf p m v) {S : ES} {k : Nat} (he : Els p m S.X) (hj : S.pv.length < S.X.length) (h1 : ∀ t, t < S.X.length -> vo (row S.X t) k = if t = S.pv.length then 1 else 0) : (es1 p m v k S.pv.length S.pv.length S).X = S.X := by
 rw [Ja5]; have e1 : swq S.X S.pv.length S.pv.length = S.X := by unfold swq; rw [if_pos rfl]
 rw [e1]; have e2 : scq p m v S.X S.pv.length (vo (row S.X S.pv.length) k) = S.X := by
  unfold scq; rw [h1 _ hj, if_pos rfl, Jri hF, Jqq hF (Qi he _)]; refine QO (by simp) fun i hi => ?_; rw [Q5]; split
  .rename_i h; rw [h.1]
  .rfl
 rw [e2]; refine QO (by rw [YA]) fun i hi => ?_; rw [YA] at hi; rw [YX hi]; split
 .rfl
 .rename_i hne
  rw [h1 i hi, if_neg hne, ng_0 hF, Jsj]
theorem Jjv (hF : FV P M mf p m v) {q : Nat -> Nat} {w wy : Nat} {Y : LL} {d : Int} (hq : Cnl w X q) (he : Els p m X) : ∀ k, k <= w -> (elim p m v k ⟨X, Y, [], d⟩).X = X /\ ∃ j, j <= X.length /\ (∀ i, i < j -> q i < k) /\ (∀ i, j <= i -> i < X.length -> k <= q i) /\ (elim p m v k ⟨X, Y, [], d⟩).pv = (List.range j).map fun i => ((q i : Nat) : Int)
 | 0, _ => ⟨rfl, 0, Nat.zero_le _, fun i h => absurd h (Nat.not_lt_zero i), fun i _ _ => Nat.zero_le _, rfl⟩
 | k + 1, hk => by
  obtain ⟨h1, j, hj, h2, h3, h4⟩ := Jjv hF (Y := Y) (d := d) (wy := wy) hq he k (by omega); rw [Qy]; generalize elim p m v k ⟨X, Y, [], d⟩ = S at h1 h4 ⊢; have hl : S.pv.length = j := by rw [h4]; simp
  unfold QU; rw [hl, h1]; by_cases hjn : j < X.length
  .by_cases hqk : q j = k
   .have hn : nz X k j = j := (Jjp (Nat.le_refl _) hj (fun t a b => by omega) (fun hh => by
     have := hq.one j hh j hh; rw [hqk, if_pos rfl] at this; rw [this]; decide)).symm
    rw [hn, if_pos ⟨hjn, hjn⟩]; have e := Jup (k := k) hF (S := S) (by rw [h1]; exact he) (by rw [hl, h1]; exact hjn) (fun t ht => by
     rw [h1] at ht ⊢; rw [hl, <- hqk]; exact hq.one j hjn t ht)
    rw [hl] at e; refine ⟨e.trans h1, j + 1, hjn, fun i hi => ?_, fun i a b => ?_, ?_⟩
    .rcases Nat.lt_or_ge i j with h | h
     .have := h2 i h; omega
     .have : i = j := by omega
      subst this; omega
    .have := hq.asc j i (by omega) b; omega
    .show S.pv ++ [(k : Int)] = _; rw [h4, List.range_succ, List.map_append, List.map_cons, List.map_nil, hqk]
   .have hlt : k < q j := by have := h3 j (Nat.le_refl _) hjn; omega
    have hz : ∀ t, j <= t -> t < X.length -> vo (row X t) k = 0 := fun t a b => hq.lf t b k (by
     rcases Nat.lt_or_ge j t with h | h
     .have := hq.asc j t h b; omega
     .have : t = j := by omega
      subst this; exact hlt)
    have hn : ¬ nz X k j < X.length := fun hh => (Zx X k j hj).2.2 hh (hz _ (Jne X k j) hh); rw [if_neg (fun hh => hn hh.2)]; refine ⟨h1, j, hj, fun i hi => by have := h2 i hi; omega, fun i a b => ?_, h4⟩; rcases Nat.lt_or_ge j i with h | h
    .have := hq.asc j i h b; omega
    .have : i = j := by omega
     subst this; omega
  .rw [if_neg (fun hh => hjn hh.1)]; exact ⟨h1, j, hj, fun i hi => by have := h2 i hi; omega, fun i a b => by omega, h4⟩
theorem Juu (hF : FV P M mf p m v) (hs : shp C X) (he : Els p m X) {q : Nat -> Nat} (hq : Cnl C.toNat X q) : J9 p m v C X = X /\ J2 p m v C X = (List.range X.length).map fun i => ((q i : Nat) : Int) := by
 obtain ⟨h1, j, hj, h2, h3, h4⟩ := Jjv (wy := 0) (Y := List.replicate X.length []) (d := 1) hF hq he C.toNat (Nat.le_refl _); have e : j = X.length := by
  rcases Nat.lt_or_ge j X.length with h | h
  .have := h3 j (Nat.le_refl _) h; have := hq.lt j h; omega
  .omega
 subst e; have hP : J2 p m v C X = (List.range X.length).map fun i => ((q i : Nat) : Int) := h4; refine ⟨?_, hP⟩; show (elim p m v C.toNat ⟨X, List.replicate X.length [], [], 1⟩).X.take (elim p m v C.toNat ⟨X, List.replicate X.length [], [], 1⟩).pv.length = X; rw [h1, h4, List.length_map, List.length_range, List.take_length]
theorem Jb0 (hs : shp C X) {i : Nat} (hi : i < (J2 p m v C X).length) : (((vo (J2 p m v C X) i).toNat : Nat) : Int) = vo (J2 p m v C X) i /\ (vo (J2 p m v C X) i).toNat < C.toNat := by
 have h := (YK (p := p) (m := m) (v := v) C X).1 i hi; omega
theorem can_cn (hF : FV P M mf p m v) (hs : shp C X) (he : Els p m X) : Cnl C.toNat (J9 p m v C X) fun i => (vo (J2 p m v C X) i).toNat := by
 have hl := Ys (p := p) (m := m) (v := v) hs; refine ⟨fun i hi => (Jb0 hs (by omega)).2, fun i hi t ht => Jby hF hs he (by omega) (by omega), fun i hi c hc => ?_, fun i j hij hj => ?_⟩
 .exact Jfg hF hs he (by omega) (by have := (Jb0 (p := p) (m := m) (v := v) hs (i := i) (by omega)).1; omega)
 .have h := (YK (p := p) (m := m) (v := v) C X).2 i j hij (by omega); have h1 := (Jb0 (p := p) (m := m) (v := v) hs (i := i) (by omega)).1; have h2 := (Jb0 (p := p) (m := m) (v := v) hs (i := j) (by omega)).1; omega
theorem Jr2 (hF : FV P M mf p m v) (hs : shp C X) (he : Els p m X) : Jkr C X ↔ J9 p m v C X = X :=
 ⟨fun ⟨q, hq⟩ => (Juu hF hs he hq).1, fun h => ⟨_, by have := can_cn hF hs he; rwa [h] at this⟩⟩
/-- Canonical rows are no more than columns. -/
theorem Cnl.len {w : Nat} {q : Nat -> Nat} (h : Cnl w X q) : X.length <= w := by
  have : ∀ k, k <= X.length -> k = 0 ∨ k <= q (k - 1) + 1 := by
    intro k
    induction k with
    | zero => intro _; exact .inl rfl
    | succ k ih =>
      intro hk
      refine .inr ?_
      rcases ih (by omega) with h0 | h1
      . subst h0; omega
      . rcases Nat.eq_zero_or_pos k with h0 | h0
        . subst h0; omega
        . have := h.asc (k - 1) k (by omega) (by omega)
          rw [Nat.add_sub_cancel]; omega
  rcases this X.length (Nat.le_refl _) with h0 | h1
  . omega
  . rcases Nat.eq_zero_or_pos X.length with h0 | h0
    . omega
    . have := h.lt (X.length - 1) (by omega); omega
end Go.Proofs.Ytgjloioccgcceaa
namespace Go.Proofs.Ytgjloioccgcceaa
/-! ### words reduced by canonical rows -/
variable {P M : Int} {mf : LI} {p m v : Nat} {C : Int} {X Y : LL} {w : Nat}
end Go.Proofs.Ytgjloioccgcceaa
namespace Go.Proofs.Ytgjloioccgcceaa
/-! ### the checks of a space -/
variable {P M : Int} {mf : LI} {p m v g : Nat} {C : Int} {X Y : LL} {F : GFv}
theorem Jte {l : LI} {pf : Int -> (Bool -> Prop) -> Prop} {f : Int -> Bool} {Q : Int -> Prop} (hl : l.length <= 1000000) (hp : ∀ x (R : Bool -> Prop), R (f x) -> pf x R)
  (h1 : ∀ k : Nat, k < l.length -> f (vo l k) = true -> (∀ j, j < k -> f (vo l j) = false) -> Q (k : Int)) (h2 : (∀ j, j < l.length -> f (vo l j) = false) -> Q (-1)) : ZL l pf Q := by
 refine ⟨fun z => ∃ k : Nat, z = k /\ k <= l.length /\ ∀ j, j < k -> f (vo l j) = false, fun z => (l.length - z).toNat, ⟨0, rfl, Nat.zero_le _, fun j hj => by omega⟩, ?_⟩; rintro _ ⟨k, rfl, hk, hv⟩; dsimp only; refine ⟨fun hlt => ⟨⟨by omega, by omega⟩, hp _ _ ⟨fun hb => h1 k (by omega) hb hv, fun hb => ⟨Jq (by omega) (by omega), ⟨k + 1, by push_cast; rfl, by omega, fun j hj => ?_⟩, by omega⟩⟩⟩, fun hge => h2 fun j hj => hv j (by omega)⟩; rcases Nat.lt_or_ge j k with h | h
 .exact hv j h
 .have : j = k := by omega
  subst this; exact hb
theorem w_lead {l : LI} {Q : Int -> Prop} (hl : l.length <= 1000000)
  (h1 : ∀ k : Nat, k < l.length -> vo l k ≠ 0 -> (∀ j, j < k -> vo l j = 0) -> Q (k : Int)) (h2 : (∀ j, j < l.length -> vo l j = 0) -> Q (-1)) : ZL l (fun xc Qc => Y6 xc Qc) Q :=
 Jte (f := fun x => decide (x ≠ 0)) hl (fun x R hR => hR) (fun k hk hb hv => h1 k hk (of_decide_eq_true hb) fun j hj => Classical.not_not.1 (of_decide_eq_false (hv j hj))) (fun hv => h2 fun j hj => Classical.not_not.1 (of_decide_eq_false (hv j hj)))
/-- The first entry of a canonical row. -/
theorem Cnl.lead {w : Nat} {q : Nat -> Nat} (h : Cnl w X q) {t k : Nat} (ht : t < X.length) (hk : vo (row X t) k ≠ 0) (hz : ∀ j, j < k -> vo (row X t) j = 0) : q t = k := by
  rcases Nat.lt_trichotomy (q t) k with h1 | h1 | h1
  . have := hz _ h1
    rw [h.one t ht t ht, if_pos rfl] at this; exact absurd this (by decide)
  . exact h1
  . exact absurd (h.lf t ht k h1) hk
theorem Jfs {Q : Bool -> Prop} (hs : shp C X) (h1 : Jkr C X -> Q true) (h2 : ¬ Jkr C X -> Q false) : Yk C X Q := by
 obtain ⟨hX, hC, hCe⟩ := Jcj hs; have hw : ∀ t, t < X.length -> (row X t).length = C.toNat := fun t ht => Qt hs ht; refine ⟨fun last z => ∃ t : Nat, z = t /\ t <= X.length /\ ∃ q : Nat -> Nat, (∀ i, i < t -> q i < C.toNat /\ (∀ s, s < X.length -> vo (row X s) (q i) = if s = i then 1 else 0) /\ ∀ c, c < q i -> vo (row X i) c = 0) /\ (∀ i j, i < j -> j < t -> q i < q j) /\ (t = 0 -> last = -1) /\ ∀ u, t = u + 1 -> last = (q u : Int), fun _ z => (X.length - z).toNat, ⟨0, rfl, Nat.zero_le _, fun _ => 0, fun i hi => absurd hi (Nat.not_lt_zero i), fun i j _ hj => absurd hj (Nat.not_lt_zero j), fun _ => rfl, fun u hu => by omega⟩, ?_⟩; rintro last _ ⟨t, rfl, ht, q, hq1, hq2, hl0, hl1⟩; dsimp only; refine ⟨fun hlt => ?_, fun hge => ?_⟩
 .have htl : t < X.length := by omega
  have hwt := hw t htl; refine ⟨⟨by omega, by omega⟩, ?_⟩; show ZL (row X t) _ _; have hlast : ∀ q', Cnl C.toNat X q' -> ∀ u, t = u + 1 -> last = (q' u : Int) := fun q' hq' u hu => by
   have hul : u < X.length := by omega
   have := hq'.lead (t := u) (k := q u) hul (by rw [(hq1 u (by omega)).2.1 u hul, if_pos rfl]; decide) (hq1 u (by omega)).2.2; rw [this]; exact hl1 u hu
  refine w_lead (by omega) (fun k hk hne hz => ?_) (fun hz => ?_)
  .have hkq : ∀ q', Cnl C.toNat X q' -> q' t = k := fun q' hq' => hq'.lead htl hne hz; refine ⟨fun hle => h2 ?_, fun hgt => ?_⟩
   .rintro ⟨q', hq'⟩; rcases Nat.eq_zero_or_pos t with h0 | h0
    .have := hl0 h0; omega
    .have e1 := hlast q' hq' (t - 1) (by omega); have e2 := hq'.asc (t - 1) t (by omega) htl; have e3 := hkq q' hq'; omega
   .refine ⟨⟨by omega, by show (k : Int) < ((row X t).length : Nat); omega⟩, fun hn1 => h2 ?_, fun h1' => ?_⟩
    .rintro ⟨q', hq'⟩; have := hq'.one t htl t htl; rw [hkq q' hq', if_pos rfl] at this; exact hn1 this
    .have hone : vo (row X t) k = 1 := Classical.not_not.1 h1'; refine ⟨fun z => ∃ u : Nat, z = u /\ u <= X.length /\ ∀ j, j < u -> j ≠ t -> vo (row X j) k = 0, fun z => (X.length - z).toNat, ⟨0, rfl, Nat.zero_le _, fun j hj => absurd hj (Nat.not_lt_zero j)⟩, ?_⟩; rintro _ ⟨u, rfl, hu, hju⟩; dsimp only; refine ⟨fun hlt2 => ?_, fun hge2 => ?_⟩
     .have hul : u < X.length := by omega
      have hwu := hw u hul; refine ⟨fun _ => u = t ∨ vo (row X u) k = 0, ⟨⟨by omega, by omega⟩, fun hne2 => ⟨⟨by omega, by show (k : Int) < ((row X u).length : Nat); omega⟩, fun hnz => h2 ?_, fun hz2 => .inr (Classical.not_not.1 hz2)⟩, fun he => .inl (by have := Classical.not_not.1 he; omega)⟩, ?_⟩
      .rintro ⟨q', hq'⟩; have := hq'.one t htl u hul; rw [hkq q' hq', if_neg (by omega)] at this; exact hnz this
      .intro b hb; refine ⟨Jq (by omega) (by omega), ⟨u + 1, by push_cast; rfl, by omega, fun j hj hne2 => ?_⟩, by omega⟩; rcases Nat.lt_or_ge j u with h | h
       .exact hju j h hne2
       .have : j = u := by omega
        subst this; exact hb.resolve_left hne2
     .obtain ⟨q2, e1, e2⟩ : ∃ q2 : Nat -> Nat, q2 t = k /\ ∀ i, i ≠ t -> q2 i = q i := ⟨fun i => if i = t then k else q i, if_pos rfl, fun i h => if_neg h⟩
      refine ⟨Jq (by omega) (by omega), ⟨t + 1, by push_cast; rfl, by omega, q2, fun i hi => ?_, fun i j hij hj => ?_, fun h0 => by omega, fun u hu => ?_⟩, by omega⟩
      .by_cases hit : i = t
       .subst hit; rw [e1]; refine ⟨by omega, fun s hs' => ?_, fun c hc => hz c hc⟩; by_cases hsi : s = i
        .subst hsi; rw [if_pos rfl]; exact hone
        .rw [if_neg hsi]; exact hju s (by omega) hsi
       .rw [e2 i hit]; exact hq1 i (by omega)
      .have hit : i ≠ t := by omega
       rw [e2 i hit]; by_cases hjt : j = t
       .subst hjt; rw [e1]; have hlu := hl1 (j - 1) (by omega); have : q i <= q (j - 1) := by
         rcases Nat.lt_or_ge i (j - 1) with h | h
         .exact Nat.le_of_lt (hq2 i (j - 1) h (by omega))
         .have : i = j - 1 := by omega
          rw [this]; exact Nat.le_refl _
        omega
       .rw [e2 j hjt]; exact hq2 i j hij (by omega)
      .have : u = t := by omega
       subst this; rw [e1]
  .have hge : (-1 : Int) <= last := by
    rcases Nat.eq_zero_or_pos t with h0 | h0
    .rw [hl0 h0]; exact Int.le_refl _
    .have := hl1 (t - 1) (by omega); omega
   refine ⟨fun _ => h2 ?_, fun hgt => absurd hge hgt⟩; rintro ⟨q', hq'⟩; have := hq'.one t htl t htl; rw [hz (q' t) (by have := hq'.lt t htl; omega), if_pos rfl] at this; exact absurd this (by decide)
 .have : t = X.length := by omega
  subst this; exact h1 ⟨q, fun i hi => (hq1 i hi).1, fun i hi t ht => (hq1 i hi).2.1 t ht, fun i hi => (hq1 i hi).2.2, hq2⟩
open Classical in
/-- the error of a space -/
noncomputable def sck (P M : Int) (mf : LI) (C : Int) (X : LL) : Int := if mck P M mf C X ≠ 0 then mck P M mf C X else if Jkr C X then 0 else 5
theorem Jk4 (h : mck P M mf C X ≠ 0) : sck P M mf C X = mck P M mf C X := if_pos h
theorem Jk5 (h : mck P M mf C X = 0) (h2 : ¬ Jkr C X) : sck P M mf C X = 5 := by unfold sck; rw [if_neg (fun hh => hh h), if_neg h2]
theorem Jqp (h : mck P M mf C X = 0) (h2 : Jkr C X) : sck P M mf C X = 0 := by unfold sck; rw [if_neg (fun hh => hh h), if_pos h2]
theorem Jqo (h : sck P M mf C X = 0) : mck P M mf C X = 0 /\ Jkr C X := by
 by_cases h1 : mck P M mf C X = 0
 .by_cases h2 : Jkr C X
  .exact ⟨h1, h2⟩
  .rw [Jk5 h1 h2] at h; exact absurd h (by decide)
 .rw [Jk4 h1] at h; exact absurd h h1
theorem Jpx {Q : Int -> Prop} (h : Q (sck P M mf C X)) : Jb3 P M mf C X Q := by
 refine Jp1 ⟨fun hne => by rw [Jk4 hne] at h; exact h, fun he => ?_⟩; have h0 : mck P M mf C X = 0 := Classical.not_not.1 he; obtain ⟨hV, hs, hE⟩ := Jbu h0; refine Jfs hs (fun hc => ?_) (fun hc => ?_)
 .rw [Jqp h0 hc] at h; exact ⟨fun hb => (by cases hb), fun _ => h⟩
 .rw [Jk5 h0 hc] at h; exact ⟨fun _ => h, fun hb => by cases hb⟩
theorem Jbl {a b : LI} {Q : Bool -> Prop} (ha : a.length <= 1000000) (h1 : a = b -> Q true) (h2 : a ≠ b -> Q false) : Y5 a b Q := by
 refine ⟨fun hne => h2 fun e => hne (by rw [e]), fun he => ?_⟩; have hl : a.length = b.length := by have := Classical.not_not.1 he; omega
 refine ⟨fun z => ∃ t : Nat, z = t /\ t <= a.length /\ ∀ j, j < t -> vo a j = vo b j, fun z => (a.length - z).toNat, ⟨0, rfl, Nat.zero_le _, fun j hj => absurd hj (Nat.not_lt_zero j)⟩, ?_⟩; rintro _ ⟨t, rfl, ht, hj⟩; dsimp only; refine ⟨fun hlt => ⟨⟨by omega, by omega⟩, ⟨by omega, by omega⟩, fun hne => h2 fun e => hne (by rw [e]), fun heq => ⟨Jq (by omega) (by omega), ⟨t + 1, by push_cast; rfl, by omega, fun j hj' => ?_⟩, by omega⟩⟩, fun hge => h1 ?_⟩
 .rcases Nat.lt_or_ge j t with h | h
  .exact hj j h
  .have : j = t := by omega
   subst this; exact Classical.not_not.1 heq
 .refine List.ext_getElem hl fun i i1 i2 => ?_; have := hj i (by omega); unfold vo at this
  rwa [List.getD_eq_getElem?_getD, List.getElem?_eq_getElem i1, List.getD_eq_getElem?_getD, List.getElem?_eq_getElem i2] at this
theorem Jbk {X Y : LL} {Q : Bool -> Prop} (hX : X.length <= 1000000) (hr : ∀ t, t < X.length -> (row X t).length <= 1000000) (h1 : X = Y -> Q true) (h2 : X ≠ Y -> Q false) : Yv X Y Q := by
 refine ⟨fun hne => h2 fun e => hne (by rw [e]), fun he => ?_⟩; have hl : X.length = Y.length := by have := Classical.not_not.1 he; omega
 refine ⟨fun z => ∃ t : Nat, z = t /\ t <= X.length /\ ∀ j, j < t -> row X j = row Y j, fun z => (X.length - z).toNat, ⟨0, rfl, Nat.zero_le _, fun j hj => absurd hj (Nat.not_lt_zero j)⟩, ?_⟩; rintro _ ⟨t, rfl, ht, hj⟩; dsimp only; refine ⟨fun hlt => ⟨⟨by omega, by omega⟩, ⟨by omega, by omega⟩, ?_⟩, fun hge => h1 (QO hl fun i hi => hj i (by omega))⟩; have htl : t < X.length := by omega
 by_cases e : row X t = row Y t
 .refine ⟨true, Jbl (hr t htl) (fun _ => rfl) (fun hne => absurd e hne), fun hb => (by cases hb), fun _ => ⟨Jq (by omega) (by omega), ⟨t + 1, by push_cast; rfl, by omega, fun j hj' => ?_⟩, by omega⟩⟩; rcases Nat.lt_or_ge j t with h | h
  .exact hj j h
  .have : j = t := by omega
   subst this; exact e
 .exact ⟨false, Jbl (hr t htl) (fun e' => absurd e' e) (fun _ => rfl), fun _ => h2 fun e' => e (by rw [e']), fun hb => (by cases hb)⟩
theorem Jn5 {Q : Int -> Prop} (h : Q (sck P M mf C X)) : Jak P M mf C X Q := by
 refine Jn6 ⟨fun hne => by rw [Jk4 hne] at h; exact h, fun he => ?_⟩; have h0 : mck P M mf C X = 0 := Classical.not_not.1 he; obtain ⟨hV, hs, hE⟩ := Jbu h0; obtain ⟨p', m', v', hF, hE'⟩ := hE; refine Jiu hF hs hE' ?_; have hcl := Z2 (p := p') (m := m') (v := v') hs; refine Jbk (by have := Jg4 hcl; omega) (fun t ht => by have := Qt hcl ht; have := Jcj hs; omega) (fun e => ?_) (fun e => ?_)
 .rw [Jqp h0 ((Jr2 hF hs hE').2 e)] at h; exact ⟨fun hb => (by cases hb), fun _ => h⟩
 .rw [Jk5 h0 (fun hc => e ((Jr2 hF hs hE').1 hc))] at h; exact ⟨fun _ => h, fun hb => by cases hb⟩
end Go.Proofs.Ytgjloioccgcceaa
namespace Go.Proofs.Ytgjloioccgcceaa
/-! ### pivots, reduced words -/
variable {P M : Int} {mf : LI} {p m v g : Nat} {C : Int} {X Y : LL} {F : GFv}
end Go.Proofs.Ytgjloioccgcceaa
namespace Go.Proofs.Ytgjloioccgcceaa
/-! ### two spaces: inclusion, quotient -/
variable {P M : Int} {mf : LI} {p m v g : Nat} {C Ca Cb : Int} {X Y a b : LL} {F : GFv}
/-- What is known of a space over a field. -/
structure Sg (P M : Int) (mf : LI) (p m v : Nat) (C : Int) (X : LL) (q : Nat -> Nat) : Prop where
  f : FV P M mf p m v
  s : shp C X
  e : Els p m X
  q : Cnl C.toNat X q
theorem Jto (h : sck P M mf C X = 0) : ∃ p m v q, Sg P M mf p m v C X q := by
 obtain ⟨h0, q, hq⟩ := Jqo h; obtain ⟨hV, hs, p, m, v, hF, hE⟩ := Jbu h0; exact ⟨p, m, v, q, hF, hs, hE, hq⟩
theorem shp_C (hs : shp C X) : 0 <= C /\ C <= 256 := by have := Jcj hs; omega
end Go.Proofs.Ytgjloioccgcceaa
namespace Go.Proofs.Ytgjloioccgcceaa
/-! ### sums, intersections, duals -/
variable {P M : Int} {mf : LI} {p m v g w : Nat} {C Ca Cb : Int} {X Y a b : LL}
end Go.Proofs.Ytgjloioccgcceaa
namespace Go.Proofs.Ytgjloioccgcceaa
/-! ### the words of a set of positions; the examples -/
variable {P M : Int} {mf : LI} {p m v g w : Nat} {C Ca Cb : Int} {X Y a b : LL}
end Go.Proofs.Ytgjloioccgcceaa
namespace Go.Proofs.Ytgjloioccgcceaa
/-! ### the dual of the dual; dimensions -/
variable {P M : Int} {mf : LI} {p m v g w : Nat} {C Ca Cb : Int} {X Y a b : LL}
end Go.Proofs.Ytgjloioccgcceaa
namespace Go.Proofs.Ytgjloioccgcceaa
/-! ### dimensions -/
variable {P M : Int} {mf : LI} {p m v g w : Nat} {C Ca Cb : Int} {X Y a b : LL}
end Go.Proofs.Ytgjloioccgcceaa
namespace Go.Proofs.Ytgjloioccgcceaa
/-! ### package code and its reference -/
section
variable {P M : Int} {mf : LI} {p m v : Nat} {N C : Int} {X Y : LL}
theorem FV.mlen (h : FV P M mf p m v) : mf.length <= 1000 := by
 by_cases h1 : m = 1
 .rw [(h.m1 h1).1]; simp
 .rw [h.m2 h1, JX]; have h2 : 2 <= p := h.pr.two; have := Nat.lt_pow_self (n := m) (show 1 < p by omega); have := h.q; omega
/-- the error of a code -/
noncomputable def cck (P M : Int) (mf : LI) (N : Int) (X : LL) : Int := if ck P M mf ≠ 0 then ck P M mf else if 1 <= N /\ N <= 64 then sck P M mf N X else 4
theorem Jed {n : Int} {Q : Bool -> Prop} (h : Q (decide (1 <= n /\ n <= 64))) : YP n Q := by
 refine ⟨fun h1 => ?_, fun h1 => ?_⟩
 .have e : decide (1 <= n /\ n <= 64) = decide (n <= 64) := by simp [h1]
  rw [<- e]; exact h
 .have e : decide (1 <= n /\ n <= 64) = false := by simp [h1]
  rw [<- e]; exact h
theorem Jeg {Q : Int -> Prop} (h : Q (cck P M mf N X)) : Jce P M mf N X Q := by
 unfold cck at h; refine Jms ⟨fun h0 => ?_, fun h0 => Jed ⟨fun h1 => ?_, fun h1 => ⟨_, Jpx rfl, ?_⟩⟩⟩
 .rw [if_pos h0] at h; exact h
 .rw [if_neg h0, if_neg (fun hh => by rw [decide_eq_true hh] at h1; cases h1)] at h; exact h
 .rw [if_neg h0, if_pos (of_decide_eq_true (by simpa using h1))] at h; exact h
theorem Jcf {Q : Int -> Prop} (h : Q (cck P M mf N X)) : YF P M mf N X Q := by
 unfold cck at h; refine Ji2 ⟨fun h0 => ?_, fun h0 => ⟨fun h1 => ?_, fun h1 => ⟨fun h2 => ?_, fun h2 => Jn5 ?_⟩⟩⟩
 .rw [if_pos h0] at h; exact h
 .rw [if_neg h0, if_neg (by omega)] at h; exact h
 .rw [if_neg h0, if_neg (by omega)] at h; exact h
 .rw [if_neg h0, if_pos (by omega)] at h; exact h
theorem Y0 (h : cck P M mf N X = 0) : (1 <= N /\ N <= 64) /\ ∃ p m v q, Sg P M mf p m v N X q := by
 unfold cck at h; by_cases h0 : ck P M mf ≠ 0
 .rw [if_pos h0] at h; exact absurd h h0
 .rw [if_neg h0] at h; by_cases h1 : 1 <= N /\ N <= 64
  .rw [if_pos h1] at h; exact ⟨h1, Jto h⟩
  .rw [if_neg h1] at h; exact absurd h (by decide)
theorem Jiv {mm : LL} {e : Int} {Q : Option LI × Int -> Prop} (he : e ≠ 0) (h : Q (none, e)) : Jc6 P M mf C mm e Q := ⟨fun _ => h, fun hh => absurd he hh⟩
theorem Jp0 {mm : LL} {Q : Option LI × Int -> Prop} (hm : mf.length <= 1000) (h : Q (some mf, 0)) : Jc6 P M mf C mm 0 Q := ⟨fun hh => absurd rfl hh, fun _ => Jbo (by omega) h⟩
/-- the error of New -/
noncomputable def nck (P M : Int) (mf : LI) (C : Int) (X : LL) : Int := if mck P M mf C X ≠ 0 then mck P M mf C X else if 1 <= C /\ C <= 64 then 0 else 4
theorem w_cNew {Q : Int × Int × LI × Int × LL × Int -> Prop} (h0 : nck P M mf C X ≠ 0 -> Q (0, 0, [], 0, [], nck P M mf C X))
  (h : ∀ p m v, FV P M mf p m v -> shp C X -> Els p m X -> 1 <= C /\ C <= 64 -> Q (P, M, mf, C, J9 p m v C X, 0)) : Jiq P M mf C X Q := by
 unfold nck at h0; refine Ji0 (fun hb => ⟨fun hh => absurd hh hb, fun _ => Jiv hb ?_⟩) fun p m v hF hs he hz => ⟨fun _ => Jed ?_, fun hh => absurd rfl hh⟩
 .rw [if_pos hb] at h0; exact h0 hb
 .rw [if_neg (fun hh => hh hz)] at h0; by_cases h1 : 1 <= C /\ C <= 64
  .refine ⟨fun z => z = 0, ⟨fun hh => by simp [h1] at hh, fun _ => rfl⟩, ?_⟩; rintro _ rfl; exact Jp0 hF.mlen (h p m v hF hs he h1)
  .refine ⟨fun z => z = 4, ⟨fun _ => rfl, fun hh => by simp [h1] at hh⟩, ?_⟩; rintro _ rfl; rw [if_neg h1] at h0; exact Jiv (by decide) (h0 (by decide))
theorem Jn7 {Q : Int × Int × LI -> Prop} (hm : mf.length <= 1000) (h : Q (P, M, mf)) : Jam P M mf Q := ⟨by omega, h⟩
theorem Jir {Q : Int × Int × LI × Int × LL -> Prop} (hF : FV P M mf p m v) (hs : shp C X) (he : Els p m X) (h : Q (P, M, mf, C, J9 p m v C X)) : Z7 P M mf X C Q :=
 Jiu hF hs he (Jn7 hF.mlen h)
theorem Jit {P' M' : Int} {mg : LI} {Q : Bool -> Prop} (hl : mf.length <= 1000000) (h1 : P = P' -> M = M' -> mf = mg -> Q true) (h2 : ¬ (P = P' /\ M = M' /\ mf = mg) -> Q false) : Z8 P M mf P' M' mg Q := by
 refine ⟨fun h => h2 fun e => h e.1, fun hP => ⟨fun h => h2 fun e => h e.2.1, fun hM => ⟨fun h => h2 fun e => h (by rw [e.2.2]), fun hL => ?_⟩⟩⟩; have hP := Classical.not_not.1 hP; have hM := Classical.not_not.1 hM; have hL : mf.length = mg.length := by have := Classical.not_not.1 hL; omega
 refine ⟨fun z => ∃ t : Nat, z = t /\ t <= mf.length /\ ∀ j, j < t -> vo mf j = vo mg j, fun z => (mf.length - z).toNat, ⟨0, rfl, Nat.zero_le _, fun j hj => absurd hj (Nat.not_lt_zero j)⟩, ?_⟩; rintro _ ⟨t, rfl, ht, hj⟩; dsimp only; refine ⟨fun hlt => ⟨⟨by omega, by omega⟩, ⟨by omega, by omega⟩, fun hne => h2 fun e => hne (by rw [e.2.2]), fun heq => ⟨Jq (by omega) (by omega), ⟨t + 1, by push_cast; rfl, by omega, fun j hj' => ?_⟩, by omega⟩⟩, fun hge => h1 hP hM ?_⟩
 .rcases Nat.lt_or_ge j t with h | h
  .exact hj j h
  .have : j = t := by omega
   subst this; exact Classical.not_not.1 heq
 .refine List.ext_getElem hL fun i i1 i2 => ?_; have := hj i (by omega); unfold vo at this
  rwa [List.getD_eq_getElem?_getD, List.getElem?_eq_getElem i1, List.getD_eq_getElem?_getD, List.getElem?_eq_getElem i2] at this
/-- a code compared with itself -/
theorem Jfq {Q : Bool -> Prop} (hm : mf.length <= 1000000) (hX : X.length <= 1000000) (hr : ∀ t, t < X.length -> (row X t).length <= 1000000) (h : Q true) : Jb6 P M mf N X P M mf N X Q :=
  Jit hm (fun _ _ _ => ⟨fun _ => ⟨fun _ => Jbk hX hr (fun _ => h) (fun hh => absurd rfl hh), fun hh => absurd rfl hh⟩, fun hh => by cases hh⟩) (fun hh => absurd ⟨rfl, rfl, rfl⟩ hh)
theorem Ji9 (hs : shp C X) : X.length <= 1000000 /\ ∀ t, t < X.length -> (row X t).length <= 1000000 :=
 ⟨by have := Jg4 hs; omega, fun t ht => by rw [Qt hs ht]; have := shp_C hs; omega⟩
end
end Go.Proofs.Ytgjloioccgcceaa
namespace Go.Proofs.Ytgjloioccgcceaa
/-! ### two codes: their errors; codes generated by rows -/
section
variable {P M P' M' : Int} {mf mg : LI} {p m v : Nat} {N C Na Nb n d : Int} {X Y a b : LL}
theorem Jnp (h : cck P M mf N X = 0) : ∃ p m v, FV P M mf p m v := by
 obtain ⟨_, p, m, v, q, G⟩ := Y0 h; exact ⟨p, m, v, G.f⟩
theorem Jc9 {Q : Int × Int × LI × Int × LL × Int -> Prop} (hF : FV P M mf p m v) (hs : shp C X) (he : Els p m X) (hC : 1 <= C /\ C <= 64) (h : Q (P, M, mf, C, J9 p m v C X, 0)) : Q2 P M mf C X Q := by
 refine w_cNew (fun hh => ?_) fun p' m' v' hF' _ _ _ => ?_
 .unfold nck at hh; rw [Jlo ⟨p, m, v, hF⟩ hs ((Zi hF).2 he), if_neg (fun h => h rfl), if_pos hC] at hh; exact absurd rfl hh
 .obtain ⟨rfl, rfl, rfl⟩ := hF.uniq3 hF'; exact h
theorem Jef {e : Int} {Q : Bool -> Prop} (hm : mf.length <= 1000000) (hX : X.length <= 1000000) (hr : ∀ t, t < X.length -> (row X t).length <= 1000000) (h : Q true) : Q3 P M mf N X e P M mf N X e Q :=
 ⟨fun _ => Jfq hm hX hr h, fun hh => absurd rfl hh⟩
end
end Go.Proofs.Ytgjloioccgcceaa
namespace Go.Proofs.Ytgjloioccgcceaa
section
variable {P M P' M' : Int} {mf mg : LI} {p m v : Nat} {N C Na Nb n d : Int} {X Y a b : LL}
def jx (a b : LL) (k : Nat) : LL := (List.range k).map fun i => row a i ++ row b i
abbrev QC := Int × Int × LI × Int × LL × Int -> Prop
/-- how Juxtapose ends -/
structure JxE (P M : Int) (mf : LI) (Na : Int) (a : LL) (P' M' : Int) (mg : LI) (Nb : Int) (b : LL) (Q : QC) : Prop where
  e1 : cck P M mf Na a ≠ 0 -> Q (0, 0, [], 0, [], cck P M mf Na a)
  e2 : cck P M mf Na a = 0 -> cck P' M' mg Nb b ≠ 0 -> Q (0, 0, [], 0, [], cck P' M' mg Nb b)
  e3 : cck P M mf Na a = 0 -> cck P' M' mg Nb b = 0 -> ¬ ((P = P' /\ M = M' /\ mf = mg) /\ a.length = b.length) -> Q (0, 0, [], 0, [], 10)
  e4 : cck P M mf Na a = 0 -> cck P' M' mg Nb b = 0 -> (P = P' /\ M = M' /\ mf = mg) /\ a.length = b.length -> 64 < Na + Nb -> Q (0, 0, [], 0, [], 4)
  ok : cck P M mf Na a = 0 -> cck P' M' mg Nb b = 0 -> (P = P' /\ M = M' /\ mf = mg) /\ a.length = b.length -> Na + Nb <= 64 -> ∀ p m v, FV P M mf p m v -> Q (P, M, mf, Na + Nb, J9 p m v (Na + Nb) (jx a b a.length), 0)
end
end Go.Proofs.Ytgjloioccgcceaa
namespace Go.Proofs.Ytgjloioccgcceaa
/-! ### what a way to make a code of two codes yields -/
section
variable {P M P' M' : Int} {mf mg : LI} {p m v : Nat} {N C Na Nb n d : Int} {X Y a b : LL}
/-- the canonical rows over a field that is described -/
noncomputable def canE (P M : Int) (mf : LI) (C : Int) (X : LL) : LL := J9 P.toNat M.toNat (Classical.epsilon fun v => FV P M mf P.toNat M.toNat v) C X
theorem Jd2 (hF : FV P M mf p m v) : canE P M mf C X = J9 p m v C X := by
 have h1 : P.toNat = p := by have := hF.eP; omega
 have h2 : M.toNat = m := by have := hF.eM; omega
 unfold canE; rw [h1, h2]; have h3 : FV P M mf p m (Classical.epsilon fun v => FV P M mf p m v) := Classical.epsilon_spec ⟨v, hF⟩; obtain ⟨_, _, h4⟩ := hF.uniq3 h3; rw [<- h4]
abbrev OC := Int × Int × LI × Int × LL × Int
def oz (e : Int) : OC := (0, 0, [], 0, [], e)
open Classical in
noncomputable def oc2 (P M : Int) (mf : LI) (Na : Int) (a : LL) (P' M' : Int) (mg : LI) (Nb : Int) (b : LL) (cond : Prop) (N : Int) (R : LL) : OC :=
  if cck P M mf Na a ≠ 0 then oz (cck P M mf Na a) else if cck P' M' mg Nb b ≠ 0 then oz (cck P' M' mg Nb b) else if ¬ ((P = P' /\ M = M' /\ mf = mg) /\ cond) then oz 10 else if 64 < N then oz 4 else (P, M, mf, N, canE P M mf N R, 0)
structure OcE (P M : Int) (mf : LI) (Na : Int) (a : LL) (P' M' : Int) (mg : LI) (Nb : Int) (b : LL) (cond : Prop) (N : Int) (R : LL) (Q : QC) : Prop where
  e1 : cck P M mf Na a ≠ 0 -> Q (oz (cck P M mf Na a))
  e2 : cck P M mf Na a = 0 -> cck P' M' mg Nb b ≠ 0 -> Q (oz (cck P' M' mg Nb b))
  e3 : cck P M mf Na a = 0 -> cck P' M' mg Nb b = 0 -> ¬ ((P = P' /\ M = M' /\ mf = mg) /\ cond) -> Q (oz 10)
  e4 : cck P M mf Na a = 0 -> cck P' M' mg Nb b = 0 -> (P = P' /\ M = M' /\ mf = mg) /\ cond -> 64 < N -> Q (oz 4)
  ok : cck P M mf Na a = 0 -> cck P' M' mg Nb b = 0 -> (P = P' /\ M = M' /\ mf = mg) /\ cond -> N <= 64 -> ∀ p m v, FV P M mf p m v -> Q (P, M, mf, N, J9 p m v N R, 0)
theorem Jee {o : OC} {K : Bool -> Prop} (hm : o.2.2.1.length <= 1000000) (hX : o.2.2.2.2.1.length <= 1000000) (hr : ∀ t, t < o.2.2.2.2.1.length -> (row o.2.2.2.2.1 t).length <= 1000000) (h : K true) :
 Q3 o.1 o.2.1 o.2.2.1 o.2.2.2.1 o.2.2.2.2.1 o.2.2.2.2.2 o.1 o.2.1 o.2.2.1 o.2.2.2.1 o.2.2.2.2.1 o.2.2.2.2.2 K := Jef hm hX hr h
end
end Go.Proofs.Ytgjloioccgcceaa
namespace Go.Proofs.Ytgjloioccgcceaa
/-! ### direct sums, and the words (u, u + v) -/
section
variable {P M P' M' : Int} {mf mg : LI} {p m v : Nat} {N C Na Nb n d : Int} {X Y a b : LL}
def ml (f : Nat -> LI) (k : Nat) : LL := (List.range k).map f
theorem Jdy (f : Nat -> LI) (k : Nat) : ml f (k + 1) = ml f k ++ [f k] := by simp [ml, List.range_succ]
theorem Jcs (f : Nat -> LI) (k : Nat) : (ml f k).length = k := by simp [ml]
end
end Go.Proofs.Ytgjloioccgcceaa
namespace Go.Proofs.Ytgjloioccgcceaa
/-! ### products of codes -/
section
variable {P M P' M' : Int} {mf mg : LI} {p m v g : Nat} {F : GFv} {N C Na Nb n d : Int} {X Y a b : LL} {u y : LI}
/-- the products of the places of two words, row by row -/
def ou (p m v : Nat) (u y : LI) (k : Nat) : LI := ((List.range k).map fun i => sc p m v (vo u i) y).flatten
/-- the products of the rows of two codes -/
def prr (p m v : Nat) (a b : LL) (i j : Nat) : LI := ou p m v (row a i) (row b j) (row a i).length
def pr (p m v : Nat) (a b : LL) (k : Nat) : LL := ((List.range k).map fun i => ml (prr p m v a b i) b.length).flatten
end
end Go.Proofs.Ytgjloioccgcceaa
namespace Go.Proofs.Ytgjloioccgcceaa
/-! ### interleaved codes -/
section
variable {P M P' M' : Int} {mf mg : LI} {p m v g : Nat} {F : GFv} {N C Na Nb d : Int} {X Y a b : LL} {u y : LI}
/-! ### what a way to make a code of one code and a number yields -/
open Classical in
noncomputable def oc1 (P M : Int) (mf : LI) (Na : Int) (a : LL) (d : Int) (R : LL) : OC :=
  if cck P M mf Na a ≠ 0 then oz (cck P M mf Na a) else if d < 1 then oz 6 else if (64 : Int).tdiv Na < d then oz 4 else (P, M, mf, Na * d, canE P M mf (Na * d) R, 0)
structure OdE (P M : Int) (mf : LI) (Na : Int) (a : LL) (d : Int) (R : LL) (Q : QC) : Prop where
  e1 : cck P M mf Na a ≠ 0 -> Q (oz (cck P M mf Na a))
  e2 : cck P M mf Na a = 0 -> d < 1 -> Q (oz 6)
  e3 : cck P M mf Na a = 0 -> ¬ d < 1 -> (64 : Int).tdiv Na < d -> Q (oz 4)
  ok : cck P M mf Na a = 0 -> ¬ d < 1 -> ¬ (64 : Int).tdiv Na < d -> ∀ p m v, FV P M mf p m v -> Q (P, M, mf, Na * d, J9 p m v (Na * d) R, 0)
end
end Go.Proofs.Ytgjloioccgcceaa
