/- Contracts of functions of the program, and what they lean on: S17. -/
import Derived.Test.YtngdhnijkgjhcaaGreatSpaceSupportG10
set_option linter.unusedVariables false
set_option linter.unusedSimpArgs false
namespace Go.Proofs.YtngdhnijkgjhcaaGreat
variable {P M : Int} {mf : List Int} {p m v g w : Nat} {C Ca Cb : Int} {X Y a b : List (List Int)}
theorem Jgh (hF : FV P M mf p m v) (hs : shp C X) (he : Els p m X) : (JA p m v (X.length : Int) (tr C.toNat X)).length <= (JA p m v C X).length := by
 have R := hF.ring; have hcl := Qm (p := p) (m := m) (v := v) hs; have hpl := Ya (p := p) (m := m) (v := v) hs; have hxl := QA hs; have hrg := fun {i : Nat} (hi : i < (JA p m v C X).length) => Zt (p := p) (m := m) (v := v) hs hi; have sT := Jf6 hs; have eT := Jf7 hs he; have hBl : ((List.range (JA p m v C X).length).map fun i => row (tr C.toNat X) (vo (JA p m v C X) i).toNat).length = (JA p m v C X).length := by simp
 have hBr : ∀ i, i < (JA p m v C X).length -> row ((List.range (JA p m v C X).length).map fun i => row (tr C.toNat X) (vo (JA p m v C X) i).toNat) i = row (tr C.toNat X) (vo (JA p m v C X) i).toNat := fun i hi => ZB hi; generalize ((List.range (JA p m v C X).length).map fun i => row (tr C.toNat X) (vo (JA p m v C X) i).toNat) = B at hBl hBr; have sB : shp (X.length : Int) B := Jed (by omega) (by omega) fun t ht => by
  rw [hBr t (by omega), Jai (hrg (by omega)).2]; rfl
 have eB : Els p m B := ZR fun t ht => by rw [hBr t (by omega)]; exact J9 eT _
 have h1 := Jzy hF sT sB eT eB fun f L hf k hk => by
  rw [Zn] at hk; have e1 : f (en p m (row (tr C.toNat X) k)) = f (en p m (cmb p m v (row (tr C.toNat (JI p m v C X)) k) X.length B (JA p m v C X).length)) := L.cg fun t ht => by
   have htl : t < X.length := ht; rw [Jju hF htl, Jqi hk htl]; have h5 := Jb5 hF hs he (a := en p m (row X t)) (JN hF _) (fun f L h => (Qy hF hs he L).1 h t htl) hk; rw [h5]; refine YX _ fun i hi => ?_; have e6 : inE (p ^ m) (vo (row (tr C.toNat (JI p m v C X)) k) i) = en p m (row (JI p m v C X) i) k := by
    rw [Jkp hk (by omega)]; rfl
   rw [e6, hBr i hi, Jqi (hrg hi).2 htl]; exact R.Mc (JN hF _ _) (JN hF _ _)
  rw [e1]; have e2 := Jb1 hF L (row (tr C.toNat (JI p m v C X)) k) B (JA p m v C X).length; refine e2.trans (QT hF _ fun i hi => ?_); show Jt p m (dv p v) _ _ = 0; rw [hf i (by omega), R.M0 (J5 (by have := R.q2; omega) _)]
 have h2 := Ya (p := p) (m := m) (v := v) sB; omega
theorem tr_tr (hs : shp C X) : tr X.length (tr C.toNat X) = X := QS (Zn _ _) fun t ht => by
 rw [Zn] at ht; have hw := J1 hs ht; refine QY (by rw [Jai ht, Zn, hw]) fun c hc => ?_; rw [Jai ht, Zn] at hc; rw [Jkp ht (by rw [Zn]; exact hc), Jkp hc ht]
theorem Jzx (hF : FV P M mf p m v) (hs : shp C X) (he : Els p m X) : (JA p m v (X.length : Int) (tr C.toNat X)).length = (JA p m v C X).length := by
 have h1 := Jgh hF hs he; have h2 := Jgh hF (Jf6 hs) (Jf7 hs he); have hC := ZX hs; rw [show ((X.length : Nat) : Int).toNat = X.length from rfl, tr_tr hs, Zn, show ((C.toNat : Nat) : Int) = C by omega] at h2; omega
theorem Jzm {q : Nat -> Nat} (G : Sg P M mf p m v C a q) (s : List Int) (hC : C <= 100) : (spt p m v C a s).length + (JA p m v ((Qu s C.toNat).length : Int) (pks a (Qu s C.toNat))).length = a.length := by
 have cc := ZX G.s; have hol := Zp s C.toNat; have hsP := Jff G.s (s := Qu s C.toNat) (by omega); have heP := Jfg G.f G.e (Qu s C.toNat); have h1 := Jzx G.f hsP heP; have h2 := Jjh G.f (Jf6 hsP) (Jf7 hsP heP); rw [h1, Zb] at h2; unfold spt; rw [Jgv]; exact h2
theorem Jwa {q : Nat -> Nat} (G : Sg P M mf p m v C a q) (hC : C <= 100) (s : List Int) {t k : Nat} (ht : t < (spt p m v C a s).length) (hk : k < (Qu s C.toNat).length) : (row (spt p m v C a s) t).length = C.toNat /\ vo (row (spt p m v C a s) t) (vo (Qu s C.toNat) k).toNat = 0 := by
 have hF := G.f; rw [Jm9 G hC] at ht ⊢; have cc := ZX G.s; have hol := Zp s C.toNat; have hoo := fun k hk => Jja s C.toNat (k := k) hk; generalize Qu s C.toNat = o at hol hoo hk ht ⊢; have N := Yx (v := v) hF G.s; have nl := N.q.len; have us := Jfd (o := o) cc (by omega); have ue := Jqh hF C.toNat o; have sY := ZL N.s us (by rw [YN]; omega); have eY := Jb7 N.e ue; have W := Yx (v := v) hF sY; refine ⟨J1 W.s ht, (Jil hF (Ze hF (J9 W.e t) _)).1 ?_⟩; have h1 := Z6 hF sY eY (t := (nul p m v C a).length + k) (by rw [List.length_append, YN]; omega) t ht; rw [Jb4 hF (JN hF _) (JN hF _), ZD, if_neg (by omega), Nat.add_sub_cancel_left, Jn4 hF hk (hoo k hk)] at h1; exact h1
theorem Jzn {f : (Nat -> Nat) -> Nat} (hF : FV P M mf p m v) (L : Lin p m v C.toNat f) (s : List Int) (hf : Ann p m f a) : Ann p m f (spt p m v C a s) := fun t ht => by
 unfold spt at ht ⊢; rw [Jgv] at ht; rw [Jgg ht, Jb1 hF L]; exact QT hF _ fun i hi => by
  show Jt p m (dv p v) _ _ = 0; rw [hf i hi, hF.ring.M0 (J5 (by have := hF.ring.q2; omega) _)]
def bt (x : Int) (i : Nat) : Bool := decide (Jsv (Je6 x (i : Int)) 1 = 1)
def bin (x : Int) (n : Nat) : List Int := ((List.range n).filter fun i => bt x i).map fun i => ((i : Nat) : Int)
def bou (x : Int) (n : Nat) : List Int := ((List.range n).filter fun i => !(bt x i)).map fun i => ((i : Nat) : Int)
theorem Jha (x : Int) (k : Nat) : bin x (k + 1) = if bt x k then bin x k ++ [(k : Int)] else bin x k := by
 unfold bin; rw [List.range_succ, List.filter_append, List.map_append]; cases h : bt x k <;> simp [h]
theorem Jl9 (x : Int) (k : Nat) : bou x (k + 1) = if bt x k then bou x k else bou x k ++ [(k : Int)] := by
 unfold bou; rw [List.range_succ, List.filter_append, List.map_append]; cases h : bt x k <;> simp [h]
theorem Jri (x : Int) (n : Nat) : (bin x n).length <= n := by
 unfold bin; rw [List.length_map]; exact Nat.le_trans (List.length_filter_le _ _) (by simp)
theorem Jrg (x : Int) (n : Nat) : (bou x n).length <= n := by
 unfold bou; rw [List.length_map]; exact Nat.le_trans (List.length_filter_le _ _) (by simp)
theorem Jm3 {l : List Int} {y : Int} {i : Nat} : vo (l ++ [y]) i = if i < l.length then vo l i else if i = l.length then y else 0 := by
 unfold vo; rw [List.getD_eq_getElem?_getD, List.getD_eq_getElem?_getD, List.getElem?_append]; split
 .rfl
 .rename_i h
  by_cases e : i = l.length
  .subst e; simp
  .rw [if_neg e, List.getElem?_eq_none (by simp; omega)]; rfl
theorem Jrh (x : Int) : ∀ n : Nat, rsg (bin x n) (n : Int)
 | 0 => ⟨fun i hi => absurd hi (Nat.not_lt_zero i), fun i hi => absurd hi (Nat.not_lt_zero _)⟩
 | n + 1 => by
  have ⟨h1, h2⟩ := Jrh x n; rw [Jha]; split
  .refine ⟨fun i hi => ?_, fun i hi => ?_⟩
   .rw [List.length_append, List.length_singleton] at hi; rw [Jm3]; split
    .rename_i h; have := h1 i h; omega
    .rw [if_pos (by omega)]; omega
   .rw [List.length_append, List.length_singleton] at hi; rw [Jm3, Jm3, if_pos (by omega)]; split
    .rename_i h; exact h2 i h
    .rw [if_pos (by omega)]; have := h1 i (by omega); omega
  .exact ⟨fun i hi => by have := h1 i hi; omega, h2⟩
theorem Qak {s : List Int} {c : Nat} : inP s c = true ↔ (c : Int) ∈ s := by
 rw [ZG]; refine ⟨fun ⟨i, hi, e⟩ => e ▸ ZQ hi, fun h => ?_⟩; obtain ⟨i, hi, e⟩ := List.mem_iff_getElem.1 h; exact ⟨i, hi, by unfold vo; rw [List.getD_eq_getElem?_getD, List.getElem?_eq_getElem hi]; exact e⟩
theorem Jwu (x : Int) (n : Nat) : Qu (bin x n) n = bou x n := by
 unfold Qu bou; refine congrArg _ (List.filter_congr fun i hi => ?_); have hi' := List.mem_range.1 hi; have : inP (bin x n) i = bt x i := by
  rw [Bool.eq_iff_iff, Qak]; unfold bin; rw [List.mem_map]; refine ⟨fun ⟨j, hj, e⟩ => ?_, fun h => ⟨i, List.mem_filter.2 ⟨hi, h⟩, rfl⟩⟩; have : j = i := by omega
  subst this; exact (List.mem_filter.1 hj).2
 rw [this]
theorem Jv2 {x : Int} (h : 0 <= x /\ x <= 4294967295) (i : Int) : 0 <= Je6 x i /\ Je6 x i < 4294967296 := by
 obtain ⟨n, rfl⟩ := Int.eq_ofNat_of_zero_le h.1; have e : Je6 (n : Int) i = ((n / 2 ^ min i.toNat IntKind.u32.bits : Nat) : Int) := by
  unfold Je6; have e : (2 : Int) ^ min i.toNat IntKind.u32.bits = ((2 ^ min i.toNat IntKind.u32.bits : Nat) : Int) := by push_cast; rfl
  rw [e, Int.fdiv_eq_ediv_of_nonneg _ (Int.natCast_nonneg _)]; rfl
 rw [e]; have := Nat.div_le_self n (2 ^ min i.toNat IntKind.u32.bits); generalize n / 2 ^ min i.toNat IntKind.u32.bits = z at this ⊢; omega
theorem Jem (P M : Int) (mf : List Int) (Cm : Int) (X : List (List Int)) {k : Int} (hk : 0 <= k /\ k <= 4294967295) : Jc9 P M mf Cm X k (fun r => r = true) := by
 refine Jp9 ⟨fun hb => (by cases hb), fun _ => w_few (fun hA _ hla _ => ⟨fun hb => (by cases hb), fun _ => ?_⟩) ⟨fun _ => Jp9 rfl, fun hb => (by cases hb)⟩⟩; refine Jiw (fun _ => ⟨fun _ => rfl, fun hb => (by cases hb)⟩) fun p m v hF hs he => ⟨fun hb => (by cases hb), fun _ => ?_⟩
 have G := can_sg hF hs he; generalize JI p m v Cm X = A at G ⊢; generalize (fun i => (vo (JA p m v Cm X) i).toNat) = q at G; have hC : Cm <= 100 := by omega
 have cc := ZX G.s; obtain ⟨c, rfl⟩ := Int.eq_ofNat_of_zero_le cc.1; refine ⟨fun hh => by omega, fun _ => ⟨fun hh => rfl, fun h20 => ?_⟩⟩; refine ⟨fun x y z => ∃ t : Nat, z = t /\ t <= c /\ x = bin k t /\ y = bou k t, fun _ _ z => ((c : Int) - z).toNat, ⟨0, rfl, Nat.zero_le _, rfl, rfl⟩, ?_⟩; rintro _ _ _ ⟨t, rfl, ht, rfl, rfl⟩; dsimp only; refine ⟨fun hlt => ?_, fun hge => ?_⟩
 .have h1 := Jri k t; have h2 := Jrg k t; have h3 := Jv2 hk (t : Int); refine ⟨fun x y => x = bin k (t + 1) /\ y = bou k (t + 1), ⟨by omega, ⟨h3.1, h3.2, by omega, by omega⟩, fun hb => ⟨by omega, ?_, ?_⟩, fun hb => ⟨by omega, ?_, ?_⟩⟩, ?_⟩
  .rw [Jha, if_pos (show bt k t = true from decide_eq_true hb)]
  .rw [Jl9, if_pos (show bt k t = true from decide_eq_true hb)]
  .rw [Jha, if_neg (by unfold bt; rw [decide_eq_false hb]; exact Bool.false_ne_true)]
  .rw [Jl9, if_neg (by unfold bt; rw [decide_eq_false hb]; exact Bool.false_ne_true)]
  .rintro x y ⟨rfl, rfl⟩; exact ⟨JD (by omega) (by omega), ⟨t + 1, by push_cast; rfl, by omega, rfl, rfl⟩, by omega⟩
 .have e : t = c := by omega
  subst e; have hrs := Jrh k t; have hbl := Jri k t; have hol := Jrg k t; have eo : bou k t = Qu (bin k t) ((t : Int)).toNat := (Jwu k t).symm; rw [eo] at hol ⊢; generalize bin k t = s at hrs hbl hol ⊢; have hsp := Jzm G s hC; have hz := fun {i j : Nat} => Jwa G hC s (t := i) (k := j); have hann := fun f (L : Lin p m v ((t : Int)).toNat f) => Jzn (a := A) hF L s; have hoo := fun i hi => Jja s ((t : Int)).toNat (k := i) hi; have hsr := Jwb G hC s; have W : ∃ r, Sg P M mf p m v (t : Int) (spt p m v (t : Int) A s) r := by
   rw [Jm9 G hC]; have N := Yx (v := v) hF G.s; have nl := N.q.len; have us := Jfd (o := Qu s ((t : Int)).toNat) cc (by omega); have sY := ZL N.s us (by rw [YN]; omega); exact ⟨_, Yx (v := v) hF sY⟩
  obtain ⟨r, W⟩ := W; have hal := QA G.s; have hsP := Jff G.s (s := Qu s ((t : Int)).toNat) (by omega); have heP := Jfg hF G.e (Qu s ((t : Int)).toNat); have e0 : Js2 P M mf (t : Int) A (Qu s ((t : Int)).toNat) = ((((Qu s ((t : Int)).toNat).length : Nat) : Int), pks A (Qu s ((t : Int)).toNat), (0 : Int)) := by
   unfold Js2; rw [if_neg (fun hh => hh G.mk0), if_neg (by omega), if_neg (by rw [Jma s cc.1]; decide)]
  refine Jew G (by omega) (fun _ => ?_) (fun hh => absurd hrs hh); generalize spt p m v (t : Int) A s = E at hsp hz hann hsr W ⊢; refine Jfy W G (fun _ => ?_) (fun hh => absurd (ain_of W G hann) hh); refine Jh3 fun c Z e he => ?_; rw [e0] at he; obtain ⟨rfl, rfl, rfl⟩ : (((Qu s ((t : Int)).toNat).length : Nat) : Int) = c /\ pks A (Qu s ((t : Int)).toNat) = Z /\ (0 : Int) = e := by
   refine ⟨congrArg (·.1) he, congrArg (·.2.1) he, congrArg (·.2.2) he⟩
  have hm := Jbi ⟨p, m, v, hF⟩ hsP ((QB hF).2 heP); refine w_Rank (fun hh => absurd hm hh) fun p' m' v' hF' _ _ _ => ?_; obtain ⟨rfl, rfl, rfl⟩ := hF.uniq3 hF'; dsimp only; refine ⟨fun hh => absurd rfl hh, fun _ => ⟨fun hh => absurd rfl hh, fun _ => ⟨fun hh => absurd rfl hh, fun _ => ⟨fun hh => absurd rfl hh, fun _ => ⟨fun hb => (by cases hb), fun _ => ⟨JD (by omega) (by omega), fun hh => absurd (by omega) hh, fun _ => ?_⟩⟩⟩⟩⟩⟩; refine ⟨fun z => ∃ i : Nat, z = i /\ i <= E.length, fun z => ((E.length : Int) - z).toNat, ⟨0, rfl, Nat.zero_le _⟩, ?_⟩; rintro _ ⟨i, rfl, hi⟩; dsimp only; refine ⟨fun hlt => ⟨⟨by omega, by omega⟩, ?_⟩, fun _ => rfl⟩; have hil : i < E.length := by omega
  rw [show gl E (i : Int) = row E i from rfl]; generalize Qu s ((t : Int)).toNat = o at hol hoo hz ⊢; refine ⟨fun z => ∃ j : Nat, z = j /\ j <= o.length, fun z => ((o.length : Int) - z).toNat, ⟨0, rfl, Nat.zero_le _⟩, ?_⟩; rintro _ ⟨j, rfl, hj⟩; dsimp only; refine ⟨fun hlt => ?_, fun _ => ⟨JD (by omega) (by omega), ⟨i + 1, by push_cast; rfl, by omega⟩, by omega⟩⟩; have hjl : j < o.length := by omega
  obtain ⟨z1, z2⟩ := hz hil hjl; have h5 := hoo j hjl; rw [JX]; have e7 : gi (row E i) (vo o j) = 0 := by
   rw [show vo o j = (((vo o j).toNat : Nat) : Int) by omega, JX]; exact z2
  rw [z1, e7]; exact ⟨⟨by omega, by omega⟩, fun hh => by omega, fun _ => ⟨⟨by omega, by omega⟩, fun hh => absurd rfl hh, fun _ => ⟨JD (by omega) (by omega), ⟨j + 1, by push_cast; rfl, by omega⟩, by omega⟩⟩⟩
end Go.Proofs.YtngdhnijkgjhcaaGreat
