/- Contracts of functions of the program, and what they lean on: M4, M5, M6, M7, M8, M9, M10, M11, M12, M13, M14, M15, M16, M17, M18, M19, M20, M21, M22, M23, M24, S1, S2, S3, S4, S5, S6, S7, S9, S10, C1, C2, C5. -/
import Derived.Test.YtjgpkljepgcekaaGreatClassicRepetitionG8
set_option linter.unusedVariables false
set_option linter.unusedSimpArgs false
namespace Go.Proofs.YtjgpkljepgcekaaGreat
section
variable {F : GFv} {p m v g : Nat} {P M : Int} {mf : LI} {X Y : LL} {C : Int}
def Js2 (P M : Int) (mf : LI) (X : LL) : Prop := ∃ p m v, FV P M mf p m v /\ Els p m X
open Classical in
noncomputable def mck (P M : Int) (mf : LI) (C : Int) (X : LL) : Int := if ¬ Qt P M mf then 1 else if ¬ shp C X then 3 else if ¬ Js2 P M mf X then 2 else 0
theorem FV.uniq {p' m' v' : Nat} (h : FV P M mf p m v) (h' : FV P M mf p' m' v') : p = p' /\ m = m' := ⟨by have := h.eP; have := h'.eP; omega, by have := h.eM; have := h'.eM; omega⟩
theorem Ys (h : FV P M mf p m v) : Js2 P M mf X ↔ Els p m X := ⟨fun ⟨p', m', v', h1, h2⟩ => by obtain ⟨rfl, rfl⟩ := h.uniq h1; exact h2, fun h2 => ⟨p, m, v, h, h2⟩⟩
theorem Jhg (h : ¬ Qt P M mf) : mck P M mf C X = 1 := if_pos h
theorem Jaa (h : Qt P M mf) (hs : ¬ shp C X) : mck P M mf C X = 3 := by unfold mck; rw [if_neg (fun hh => hh h), if_pos hs]
theorem Jhh (h : Qt P M mf) (hs : shp C X) (he : ¬ Js2 P M mf X) : mck P M mf C X = 2 := by unfold mck; rw [if_neg (fun hh => hh h), if_neg (fun hh => hh hs), if_pos he]
theorem Jev (h : Qt P M mf) (hs : shp C X) (he : Js2 P M mf X) : mck P M mf C X = 0 := by unfold mck; rw [if_neg (fun hh => hh h), if_neg (fun hh => hh hs), if_neg (fun hh => hh he)]
theorem Jeu (h : mck P M mf C X = 0) : Qt P M mf /\ shp C X /\ Js2 P M mf X := by
 by_cases h1 : Qt P M mf
 .by_cases h2 : shp C X
  .by_cases h3 : Js2 P M mf X
   .exact ⟨h1, h2, h3⟩
   .rw [Jhh h1 h2 h3] at h; exact absurd h (by decide)
  .rw [Jaa h1 h2] at h; exact absurd h (by decide)
 .rw [Jhg h1] at h; exact absurd h (by decide)
theorem Jgw (h : shp C X) : X.length <= 256 := h.2.2.1
theorem Z4 (h : shp C X) {t : Nat} (ht : t < X.length) : (row X t).length = C.toNat := by
 have := h.2.2.2 _ (Z5 ht); have := h.1; omega
noncomputable def Jg5 (P M : Int) (mf : LI) : List Mt -> Int
  | [] => 0
  | (C, X) :: ms => if mck P M mf C X = 0 then Jg5 P M mf ms else mck P M mf C X
theorem w_open {ms : List Mt} {Q : Option GFv × Int -> Prop} (hl : ms.length <= 1000) (hno : ¬ Qt P M mf -> Q (none, 1))
  (h : ∀ (F : GFv) (p m v g : Nat), GFk F p m v g -> FV P M mf p m v -> Jg5 P M mf ms = 0 -> Q (some F, 0)) (hb : Qt P M mf -> Jg5 P M mf ms ≠ 0 -> Q (none, Jg5 P M mf ms)) : Jbb P M mf ms Q := by
 refine v_New (fun hn => ⟨fun h0 => ⟨h0, hno hn⟩, fun h0 => absurd (show (1 : Int) ≠ 0 by decide) h0⟩) fun F p m v g K eP eM emf => ⟨fun h0 => absurd rfl h0, fun _ => ?_⟩
 have hF : FV P M mf p m v := by rw [<- eP, <- eM, <- emf]; exact K.fv
 have hV : Qt P M mf := ⟨p, m, v, hF⟩
 refine ⟨fun z => ∃ t : Nat, z = t /\ t <= ms.length /\ Jg5 P M mf (ms.drop t) = Jg5 P M mf ms, fun z => (ms.length - z).toNat, ⟨0, rfl, Nat.zero_le _, rfl⟩, ?_⟩; rintro _ ⟨t, rfl, ht, he⟩; refine ⟨fun hlt => ?_, fun hge => ?_⟩
 .have htl : t < ms.length := by omega
  have hd : ms.drop t = gm ms t :: ms.drop (t + 1) := by
   rw [List.drop_eq_getElem_cons htl]
   congr 1
   unfold gm; show _ = ms.getD t (0, []); rw [List.getD_eq_getElem?_getD, List.getElem?_eq_getElem htl]; rfl
  rw [hd] at he; generalize gm ms t = mt at *
  obtain ⟨C, X⟩ := mt; simp only [Jg5] at he; dsimp only; refine ⟨⟨by omega, by omega⟩, Jkq (fun hs => ⟨fun h => absurd h (by decide), fun _ => ?_⟩) (fun hs => ⟨fun _ => ⟨by decide, ?_⟩, fun h => absurd h (by decide)⟩)⟩
  .refine ⟨fun z => ∃ s : Nat, z = s /\ s <= X.length /\ ∀ k, k < s -> Elr p m (row X k), fun z => (X.length - z).toNat, ⟨0, rfl, Nat.zero_le _, fun k hk => by omega⟩, ?_⟩; rintro _ ⟨s, rfl, hs1, hs2⟩; have hX : X.length <= 256 := Jgw hs; dsimp only; refine ⟨fun hlt2 => ⟨⟨by omega, by omega⟩, Jfm K (by show (row X s).length <= _; rw [Z4 hs (by omega)]; have := hs.2.1; omega) (fun hel => ⟨fun h => absurd h (by decide), fun _ => ⟨Js (by omega) (by omega), ⟨s + 1, by push_cast; rfl, by omega, fun k hk => ?_⟩, by omega⟩⟩) (fun hel => ⟨fun _ => ⟨by decide, ?_⟩, fun h => absurd h (by decide)⟩)⟩, fun hge2 => ?_⟩
   .rcases Nat.lt_or_ge k s with h | h
    .exact hs2 k h
    .rw [show k = s by omega]; exact hel
   .have e : mck P M mf C X = 2 := Jhh hV hs fun hv => hel (Qp ((Ys hF).1 hv) s); rw [e, if_neg (by decide)] at he; have := hb hV (by rw [<- he]; decide)
    rwa [<- he] at this
   .have e : mck P M mf C X = 0 := Jev hV hs ((Ys hF).2 (Ja3 fun k hk => hs2 k (by omega))); rw [e, if_pos rfl] at he; exact ⟨Js (by omega) (by omega), ⟨t + 1, by push_cast; rfl, by omega, he⟩, by omega⟩
  .have e : mck P M mf C X = 3 := Jaa hV hs; rw [e, if_neg (by decide)] at he; have := hb hV (by rw [<- he]; decide)
   rwa [<- he] at this
 .rw [show t = ms.length by omega, List.drop_length] at he; exact h F p m v g K hF he.symm
theorem Ji5 : Jg5 P M mf [(C, X)] = mck P M mf C X := by
 simp only [Jg5]; split
 .rename_i h; exact h.symm
 .rfl
theorem Jgp {Q : Option GFv × Int -> Prop} (hb : mck P M mf C X ≠ 0 -> Q (none, mck P M mf C X))
    (h : ∀ (F : GFv) (p m v g : Nat), GFk F p m v g -> FV P M mf p m v -> shp C X -> Els p m X -> mck P M mf C X = 0 -> Q (some F, 0)) : Jbb P M mf [(C, X)] Q := by
  refine w_open (by simp) (fun hn => ?_) (fun F p m v g K hF he => ?_) (fun hV he => ?_)
  . have := hb (by rw [Jhg hn]; decide); rwa [Jhg hn] at this
  . rw [Ji5] at he
    obtain ⟨_, h2, h3⟩ := Jeu he
    exact h F p m v g K hF h2 ((Ys hF).1 h3) he
  . rw [Ji5] at he ⊢; exact hb he
theorem Jta {Q : Int -> Prop} (h : Q (mck P M mf C X)) : Jce P M mf C X Q := Jgp (fun _ _ => h) (fun F p m v g K hF h1 h2 h3 => by show Q 0; rw [<- h3]; exact h)
theorem Jpm {Q : Int -> Prop} (h : Q (mck P M mf C X)) : Jaf P M mf C X Q := by
 refine Jea ?_; by_cases hV : Qt P M mf
 .rw [Jbz hV]; refine ⟨fun h0 => absurd rfl h0, fun _ => ⟨fun h0 => ?_, fun h0 => ⟨fun h1 => ?_, fun h1 => ⟨fun h2 => ?_, fun h2 => ?_⟩⟩⟩⟩
  .rw [Jaa hV fun s => by have := s.1; omega] at h; exact h
  .rw [Jaa hV fun s => by have := s.2.1; omega] at h; exact h
  .rw [Jaa hV fun s => by have := s.2.2.1; omega] at h; exact h
  .refine ⟨fun z => ∃ t : Nat, z = t /\ t <= X.length /\ ∀ k, k < t -> ((row X k).length : Int) = C, fun z => (X.length - z).toNat, ⟨0, rfl, Nat.zero_le _, fun k hk => by omega⟩, ?_⟩; rintro _ ⟨t, rfl, ht, hk⟩; dsimp only; refine ⟨fun hlt => ⟨⟨by omega, by omega⟩, fun hne => ?_, fun he => ⟨Js (by omega) (by omega), ⟨t + 1, by push_cast; rfl, by omega, fun k hk' => ?_⟩, by omega⟩⟩, fun hge => ?_⟩
   .rw [Jaa hV fun s => hne (s.2.2.2 _ (Z5 (by omega)))] at h; exact h
   .rcases Nat.lt_or_ge k t with h | h
    .exact hk k h
    .rw [show k = t by omega]; exact Classical.not_not.1 he
   .have hs : shp C X := ⟨by omega, by omega, by omega, fun r hr => by obtain ⟨s, h3, rfl⟩ := Jbv hr; exact hk s (by omega)⟩
    obtain ⟨p, m, v, hF⟩ := hV; refine ⟨fun r z => r = 0 /\ ∃ s : Nat, z = s /\ s <= X.length /\ ∀ k, k < s -> Elr p m (row X k), fun _ z => (X.length - z).toNat, ⟨rfl, 0, rfl, Nat.zero_le _, fun k hk => by omega⟩, ?_⟩; rintro _ _ ⟨rfl, s, rfl, hs1, hs2⟩; dsimp only; refine ⟨fun hlt2 => ⟨⟨by omega, by omega⟩, ?_⟩, fun hge2 => ?_⟩
    .have hrl : (row X s).length <= 1000000 := by rw [Z4 hs (by omega)]; have := hs.2.1; omega
     by_cases hel : Elr p m (row X s)
     .refine ⟨0, Jd3 hF hrl (fun _ => rfl) (fun h => absurd hel h), fun h0 => absurd rfl h0, fun _ => ⟨Js (by omega) (by omega), ⟨rfl, s + 1, by push_cast; rfl, by omega, fun k hk' => ?_⟩, by omega⟩⟩; rcases Nat.lt_or_ge k s with h | h
      .exact hs2 k h
      .rw [show k = s by omega]; exact hel
     .refine ⟨2, Jd3 hF hrl (fun h => absurd h hel) (fun _ => rfl), fun _ => ?_, fun h0 => absurd (by decide) h0⟩; rw [Jhh ⟨p, m, v, hF⟩ hs fun hv => hel (Qp ((Ys hF).1 hv) s)] at h; exact h
    .rw [Jev ⟨p, m, v, hF⟩ hs ((Ys hF).2 (Ja3 fun k hk' => hs2 k (by omega)))] at h; exact h
 .rw [Q8 hV]; rw [Jhg hV] at h; exact ⟨fun _ => h, fun h0 => absurd (by decide) h0⟩
def ec (p m v : Nat) (C : Int) (X : LL) : ES := elim p m v C.toNat ⟨X, List.replicate X.length [], [], 1⟩
def QA (p m v : Nat) (C : Int) (X : LL) : LL := (ec p m v C X).X.take (ec p m v C X).pv.length
def Yt (p m v : Nat) (C : Int) (X : LL) : LI := (ec p m v C X).pv
theorem Jwu {n t : Nat} {l : LI} (h : t < n) : row (List.replicate n l) t = l := by
 unfold row; rw [List.getD_eq_getElem?_getD, List.getElem?_replicate, if_pos h]; rfl
theorem shp_S0 (hs : shp C X) {Z : LL} {wz : Nat} {d : Int} (hZ : Z.length = X.length) (hz : ∀ t, t < X.length -> (row Z t).length = wz) : Shp X.length C.toNat wz ⟨X, Z, [], d⟩ := ⟨rfl, fun t ht => Z4 hs ht, hZ, hz, Nat.zero_le _⟩
theorem Jds (hs : shp C X) : Shp X.length C.toNat 0 ⟨X, List.replicate X.length [], [], 1⟩ := shp_S0 hs (by simp) fun t ht => by rw [Jwu ht]; rfl
theorem Zj (hs : shp C X) : X.length <= 256 /\ C.toNat <= 256 /\ ((C.toNat : Nat) : Int) = C := ⟨hs.2.2.1, by have := hs.2.1; omega, by have := hs.1; omega⟩
theorem Jty (hs : shp C X) : ∀ r ∈ X, r.length <= 1000000 := fun r hr => by have := hs.2.2.2 r hr; have := hs.2.1; omega
theorem Ja4 (hs : shp C X) : Shp X.length C.toNat 0 (ec p m v C X) := ZT (Jds hs) _
theorem ZH {Q : Int × LL × LI -> Prop} (K : GFk F p m v g) (hs : shp C X) (h : Q (C, QA p m v C X, Yt p m v C X)) : QZ F C X Q := by
 obtain ⟨h1, h2, h3⟩ := Zj hs; refine Jtb (by omega) (Jty hs) ⟨⟨by omega, by omega, by omega⟩, ?_⟩; show Yw F C X (List.replicate X.length ([] : LI)) _; rw [<- h3]; refine Jin K (by omega) (by omega) (wy := 0) (by omega) (Jds hs) ?_; rw [h3]; have := (Ja4 (p := p) (m := m) (v := v) hs).pl; exact ⟨⟨by omega, by show ((ec p m v C X).pv.length : Int) <= _; omega⟩, h⟩
theorem Jio {Q : Int × LL × LI × Int -> Prop} (hb : mck P M mf C X ≠ 0 -> Q (0, [], [], mck P M mf C X))
  (h : ∀ p m v, FV P M mf p m v -> shp C X -> Els p m X -> mck P M mf C X = 0 -> Q (C, QA p m v C X, Yt p m v C X, 0)) : YN P M mf C X Q :=
 Jgp (fun h0 _ => hb h0) fun F p m v g K hF hs he h0 => ZH K hs (h p m v hF hs he h0)
theorem Jbj {Q : LL × LI -> Prop} (hF : FV P M mf p m v) (hs : shp C X) (he : Els p m X) (h : Q (QA p m v C X, Yt p m v C X)) : YD P M mf X C Q := by
 obtain ⟨h1, h2, h3⟩ := Zj hs; show QM P M mf X C _; rw [<- h3]; refine Jgo hF (by omega) (by omega) (Jds hs) he ?_; have h4 := Ja4 (p := p) (m := m) (v := v) hs; exact ⟨⟨by omega, by have := h4.pl; have := h4.xl; show ((ec p m v C X).pv.length : Int) <= ((ec p m v C X).X.length : Nat); omega⟩, h⟩
theorem FV.uniq3 {p' m' v' : Nat} (h : FV P M mf p m v) (h' : FV P M mf p' m' v') : p = p' /\ m = m' /\ v = v' := by
 obtain ⟨e1, e2⟩ := h.uniq h'; subst e1; subst e2; refine ⟨rfl, rfl, ?_⟩; by_cases hm : m = 1
 .rw [(h.m1 hm).2, (h'.m1 hm).2]
 .have e1 := h.m2 hm; have e2 := h'.m2 hm; have hp := h.p2; have h3 : dv p v = dv p v' := by rw [<- h.vo, <- h'.vo]
  have h4 := Jax (p := p) (m := m) (x := v) (by omega) h.vlt; have h5 := Jax (p := p) (m := m) (x := v') (by omega) h'.vlt; rw [<- h4, <- h5, h3]
end
end Go.Proofs.YtjgpkljepgcekaaGreat
namespace Go.Proofs.YtjgpkljepgcekaaGreat
section
variable {p m v : Nat}
def Asc (k : Nat) (l : LI) : Prop := (∀ i, i < l.length -> 0 <= vo l i /\ vo l i < (k : Int)) /\ ∀ i j, i < j -> j < l.length -> vo l i < vo l j
theorem Jbl {l : LI} {x : Int} {i : Nat} : vo (l ++ [x]) i = if i < l.length then vo l i else if i = l.length then x else 0 := by
 unfold vo; rw [List.getD_eq_getElem?_getD, List.getD_eq_getElem?_getD, List.getElem?_append]; by_cases h : i < l.length
 .rw [if_pos h, if_pos h]
 .rw [if_neg h, if_neg h]; by_cases h2 : i = l.length
  .subst h2; simp
  .rw [if_neg h2]; have : i - l.length ≠ 0 := by omega
   cases hh : i - l.length with
   | zero => omega
   | succ n => simp
theorem Asc.snoc {k : Nat} {l : LI} (h : Asc k l) : Asc (k + 1) (l ++ [(k : Int)]) := by
 refine ⟨fun i hi => ?_, fun i j hij hj => ?_⟩
 .rw [List.length_append] at hi; rw [Jbl]; split
  .rename_i h1; have := h.1 i h1; omega
  .split
   .omega
   .simp at hi; omega
 .rw [List.length_append] at hj; have hj' : j < l.length + 1 := by simpa using hj
  rw [Jbl, Jbl, if_pos (show i < l.length by omega)]; split
  .rename_i h1; exact h.2 i j hij h1
  .rw [if_pos (show j = l.length by omega)]; exact (h.1 i (by omega)).2
theorem Asc.up {k : Nat} {l : LI} (h : Asc k l) : Asc (k + 1) l := ⟨fun i hi => by have := h.1 i hi; omega, h.2⟩
theorem Je3 {S : ES} (h : S.pv = []) : ∀ k, Asc k (elim p m v k S).pv
 | 0 => by
  show Asc 0 S.pv; rw [h]; exact ⟨fun i hi => absurd hi (Nat.not_lt_zero i), fun i j _ hj => absurd hj (Nat.not_lt_zero j)⟩
 | k + 1 => by
  have ih := Je3 h k; rw [QW]; unfold Yr; split
  .exact ih.snoc
  .exact ih.up
theorem Jb2 (C : Int) (X : LL) : Asc C.toNat (Yt p m v C X) := Je3 rfl _
end
section
variable {F : GFv} {p m v g : Nat} {P M : Int} {mf : LI} {X Y : LL} {C : Int}
theorem Js4 {l : LI} {x : Int} {k : Nat} {Q : Int × Bool -> Prop} (hl : l.length <= 1000000) (hs : Asc k l) (h1 : ∀ i, (∃ j, j < l.length /\ vo l j = x) -> Q (i, true)) (h2 : ∀ i, (¬ ∃ j, j < l.length /\ vo l j = x) -> Q (i, false)) : Jb6 l x Q := by
 refine ⟨fun a b => ∃ s t : Nat, a = s /\ b = t /\ s <= t /\ t <= l.length /\ (∀ j, j < s -> vo l j < x) /\ ∀ j, t <= j -> j < l.length -> x <= vo l j, fun a b => (b - a).toNat, ⟨0, l.length, rfl, rfl, Nat.zero_le _, Nat.le_refl _, fun j hj => by omega, fun j hj1 hj2 => by omega⟩, ?_⟩; rintro _ _ ⟨s, t, rfl, rfl, hst, htl, hlo, hhi⟩; dsimp only; refine ⟨fun hlt => ?_, fun hge => ?_⟩
 .obtain ⟨q, hq⟩ : ∃ q : Nat, ((s : Int) + t).fdiv 2 = q := ⟨(s + t) / 2, by
   rw [Int.fdiv_eq_ediv_of_nonneg _ (by decide)]; omega⟩
  have hq2 : q = (s + t) / 2 := by
   have : ((s : Int) + t).fdiv 2 = (((s + t) / 2 : Nat) : Int) := by rw [Int.fdiv_eq_ediv_of_nonneg _ (by decide)]; omega
   omega
  rw [hq]; have hql : q < l.length := by omega
  rw [JN]; refine ⟨Js (by omega) (by omega), ⟨by omega, by omega⟩, Js (by omega) (by omega), ⟨by omega, by omega⟩, ?_⟩; show (decide (vo l q ≠ vo l q) = true -> _) /\ (decide (vo l q ≠ vo l q) = false -> _)
  refine ⟨fun h => absurd (of_decide_eq_true h) (fun h => h rfl), fun _ => ⟨fun h => ?_, fun h => ?_⟩⟩
  .have hlt2 := of_decide_eq_true h; refine ⟨Js (by omega) (by omega), ⟨q + 1, t, by push_cast; rfl, rfl, by omega, htl, fun j hj => ?_, hhi⟩, by omega⟩; rcases Nat.lt_or_ge j q with h3 | h3
   .have := hs.2 j q h3 hql; omega
   .rw [show j = q by omega]; exact hlt2
  .have hge2 := of_decide_eq_false h; refine ⟨⟨s, q, rfl, rfl, by omega, by omega, hlo, fun j hj1 hj2 => ?_⟩, by omega⟩; rcases Nat.eq_or_lt_of_le hj1 with h3 | h3
   .subst h3; omega
   .have := hs.2 q j h3 hj2; omega
 .have hse : s = t := by omega
  subst hse; rw [JN]; refine ⟨fun hlt2 => ⟨⟨by omega, by omega⟩, fun he => h1 _ ⟨s, by omega, he⟩, fun hne => ⟨⟨by omega, by omega⟩, ?_⟩⟩, fun hge2 => ?_⟩
  .have hno : ¬ ∃ j, j < l.length /\ vo l j = x := fun ⟨j, hj, he⟩ => by
    rcases Nat.lt_trichotomy j s with h3 | h3 | h3
    .have := hlo j h3; omega
    .subst h3; exact hne he
    .have := hs.2 s j h3 hj; have := hhi s (Nat.le_refl _) (by omega); omega
   show (decide (vo l s ≠ vo l s) = true -> _) /\ (decide (vo l s ≠ vo l s) = false -> _)
   exact ⟨fun h => absurd (of_decide_eq_true h) (fun h => h rfl), fun _ => h2 _ hno⟩
  .refine h2 _ fun ⟨j, hj, he⟩ => ?_; have := hlo j (by omega); omega
def Jdi (p m : Nat) (C : Nat) (R : LL) (pv : LI) (t k : Nat) : LI := (List.range k).foldl (fun x i => x.set (vo pv i).toNat (Ng p m (vo (row R i) t))) ((List.replicate C 0).set t 1)
theorem Z3 (C : Nat) (R : LL) (pv : LI) (t k : Nat) : Jdi p m C R pv t (k + 1) = (Jdi p m C R pv t k).set (vo pv k).toNat (Ng p m (vo (row R k) t)) := by
 unfold Jdi; rw [List.range_succ, List.foldl_append]; rfl
theorem Jiw (C : Nat) (R : LL) (pv : LI) (t : Nat) : ∀ k, (Jdi p m C R pv t k).length = C
 | 0 => by simp [Jdi]
 | k + 1 => by rw [Z3, List.length_set]; exact Jiw C R pv t k
theorem Jix (hq : 1 < p ^ m) (hp : 0 < p) (C : Nat) (R : LL) (pv : LI) (t : Nat) : ∀ k, Elr p m (Jdi p m C R pv t k)
 | 0 => fun x hx => by
  rcases List.mem_or_eq_of_mem_set hx with h | h
  .rw [List.eq_of_mem_replicate h]; exact Je4 (q := 0) (by omega)
  .rw [h]; exact Je4 (q := 1) (by omega)
 | k + 1 => fun x hx => by
  rw [Z3] at hx; rcases List.mem_or_eq_of_mem_set hx with h | h
  .exact Jix hq hp C R pv t k x h
  .rw [h]; exact Je4 (Jdv hp _)
theorem Jkp {R : LL} {pv : LI} {t : Nat} {Q : LI -> Prop} (K : GFk F p m v g) (hC : 0 <= C /\ C <= 256) (ht : t < C.toNat) (hR : pv.length <= R.length) (hl : pv.length <= 1000000) (hr : ∀ i, i < R.length -> t < (row R i).length) (hp : Asc C.toNat pv)
  (h : Q (Jdi p m C.toNat R pv t pv.length)) : Zx F C R pv t Q := by
 refine ⟨⟨by omega, by omega, by omega⟩, ⟨by omega, by omega⟩, fun x z => ∃ k : Nat, z = k /\ k <= pv.length /\ x = Jdi p m C.toNat R pv t k, fun _ z => (pv.length - z).toNat, ⟨0, rfl, Nat.zero_le _, rfl⟩, ?_⟩; rintro _ _ ⟨k, rfl, hk, rfl⟩; dsimp only; rw [JN]; refine ⟨fun hlt => ⟨⟨by omega, by omega⟩, ⟨by omega, by omega⟩, ⟨by omega, by show (t : Int) < ((row R k).length : Nat); have := hr k (by omega); omega⟩, Jtq K ?_⟩, fun hge => by rw [show k = pv.length by omega]; exact h⟩; have hv : 0 <= gi pv (k : Int) /\ gi pv (k : Int) < ((C.toNat : Nat) : Int) := hp.1 k (by omega); refine ⟨⟨hv.1, by have := hv.2; omega⟩, Js (by omega) (by omega), ⟨k + 1, by push_cast; rfl, by omega, ?_⟩, by omega⟩; rw [Z3]; rfl
def inP (pv : LI) (c : Nat) : Bool := (List.range pv.length).any fun i => vo pv i == (c : Int)
theorem Jhm {pv : LI} {c : Nat} : inP pv c = true ↔ ∃ j, j < pv.length /\ vo pv j = (c : Int) := by
 unfold inP; rw [List.any_eq_true]; exact ⟨fun ⟨i, hi, h⟩ => ⟨i, List.mem_range.1 hi, by simpa using h⟩, fun ⟨i, hi, h⟩ => ⟨i, List.mem_range.2 hi, by simpa using h⟩⟩
def bas (p m : Nat) (C : Nat) (R : LL) (pv : LI) (k : Nat) : LL := (List.range k).foldl (fun B c => if inP pv c then B else B ++ [Jdi p m C R pv c pv.length]) []
theorem Y6 (C : Nat) (R : LL) (pv : LI) (k : Nat) : bas p m C R pv (k + 1) = if inP pv k then bas p m C R pv k else bas p m C R pv k ++ [Jdi p m C R pv k pv.length] := by
 unfold bas; rw [List.range_succ, List.foldl_append]; rfl
theorem Jdx (C : Nat) (R : LL) (pv : LI) : ∀ k, (bas p m C R pv k).length <= k
 | 0 => Nat.le_refl _
 | k + 1 => by
  rw [Y6]; have := Jdx C R pv k; split
  .omega
  .rw [List.length_append]; simp; omega
theorem Jdw (C : Nat) (R : LL) (pv : LI) : ∀ k, ∀ r ∈ bas p m C R pv k, ∃ c, c < k /\ inP pv c = false /\ r = Jdi p m C R pv c pv.length
 | 0, r, h => by cases h
 | k + 1, r, h => by
  rw [Y6] at h; split at h
  .obtain ⟨c, h1, h2⟩ := Jdw C R pv k r h; exact ⟨c, by omega, h2⟩
  .rename_i hn
   rcases List.mem_append.1 h with h | h
   .obtain ⟨c, h1, h2⟩ := Jdw C R pv k r h; exact ⟨c, by omega, h2⟩
   .exact ⟨k, by omega, by simpa using hn, by simpa using h⟩
def Jft (p m v : Nat) (C : Int) (X : LL) : LL := bas p m C.toNat (QA p m v C X) (Yt p m v C X) C.toNat
theorem Y7 (hs : shp C X) : shp C (Jft p m v C X) := by
 obtain ⟨h1, h2, h3⟩ := Zj hs; refine ⟨hs.1, hs.2.1, by have := Jdx (p := p) (m := m) C.toNat (QA p m v C X) (Yt p m v C X) C.toNat; unfold Jft; omega, fun r hr => ?_⟩; obtain ⟨c, _, _, rfl⟩ := Jdw _ _ _ _ r hr; rw [Jiw]; exact h3
theorem ZY (hF : FV P M mf p m v) : Els p m (Jft p m v C X) := fun r hr => by
 obtain ⟨c, _, _, rfl⟩ := Jdw _ _ _ _ r hr; exact Jix (by have := hF.ring.q2; omega) (by have := hF.p2; omega) _ _ _ _ _
theorem Y5 (hs : shp C X) : (QA p m v C X).length = (Yt p m v C X).length := by
 have h0 := Ja4 (p := p) (m := m) (v := v) hs; unfold QA Yt; rw [List.length_take]; have h1 := h0.pl; have h2 := h0.xl; omega
theorem Jek {Z : LL} {n t : Nat} (h : t < n) : row (Z.take n) t = row Z t := by
 unfold row; rw [List.getD_eq_getElem?_getD, List.getD_eq_getElem?_getD, List.getElem?_take, if_pos h]
theorem Je7 (hs : shp C X) {t : Nat} (ht : t < (QA p m v C X).length) : (row (QA p m v C X) t).length = C.toNat := by
 have h1 := Ja4 (p := p) (m := m) (v := v) hs; rw [Y5 hs] at ht; unfold QA; rw [Jek (n := (ec p m v C X).pv.length) ht]; exact h1.xr t (Nat.lt_of_lt_of_le ht h1.pl)
theorem ZU (hs : shp C X) : shp C (QA p m v C X) := by
 obtain ⟨h1, h2, h3⟩ := Zj hs; have h4 := Ja4 (p := p) (m := m) (v := v) hs; refine ⟨hs.1, hs.2.1, by rw [Y5 hs]; have := h4.pl; show (ec p m v C X).pv.length <= 256; omega, fun r hr => ?_⟩; obtain ⟨t, ht, rfl⟩ := Jbv hr; rw [Je7 hs ht]; exact h3
theorem Je8 (hs : shp C X) : (Yt p m v C X).length <= X.length := (Ja4 (p := p) (m := m) (v := v) hs).pl
theorem Jtd {Q : Int × LL × Int -> Prop} (hb : mck P M mf C X ≠ 0 -> Q (0, [], mck P M mf C X))
  (h : ∀ p m v, FV P M mf p m v -> shp C X -> Els p m X -> mck P M mf C X = 0 -> Q (C, QA p m v C (Jft p m v C X), 0)) : Z1 P M mf C X Q := by
 refine Jgp (fun h0 _ => hb h0) fun F p m v g K hF hs he h0 => ZH K hs ?_; obtain ⟨h1, h2, h3⟩ := Zj hs; have hpl := Je8 (p := p) (m := m) (v := v) hs; have hcl := Y5 (p := p) (m := m) (v := v) hs; have hasc := Jb2 (p := p) (m := m) (v := v) C X; have hrow := fun i (hi : i < (QA p m v C X).length) => Je7 (p := p) (m := m) (v := v) hs hi; have hfin := ZH (Q := fun q => Q (q.1, q.2.1, 0)) K (Y7 (p := p) (m := m) (v := v) hs) (h p m v hF hs he h0); unfold Jft at hfin; generalize QA p m v C X = R at *
 generalize Yt p m v C X = pv at *
 refine ⟨fun x z => ∃ k : Nat, z = k /\ k <= C.toNat /\ x = bas p m C.toNat R pv k, fun _ z => (C - z).toNat, ⟨0, rfl, Nat.zero_le _, rfl⟩, ?_⟩; rintro _ _ ⟨k, rfl, hk, rfl⟩; have hbl := Jdx (p := p) (m := m) C.toNat R pv k; dsimp only; refine ⟨fun hlt => ⟨fun x _ _ => x = bas p m C.toNat R pv (k + 1), Js4 (by omega) hasc (fun i hin => ⟨fun h => absurd h (by simp), fun _ => ?_⟩) (fun i hin => ⟨fun _ => ⟨_, Jkp K ⟨hs.1, hs.2.1⟩ (by omega) (by omega) (by omega) (fun i hi => by rw [hrow i hi]; omega) hasc rfl, by omega, ?_⟩, fun h => absurd h (by simp)⟩), ?_⟩, fun hge => ?_⟩
 .rw [Y6, if_pos (Jhm.2 hin)]
 .rw [Y6, if_neg (fun hh => hin (Jhm.1 hh))]
 .rintro _ _ _ rfl; exact ⟨Js (by omega) (by omega), ⟨k + 1, by push_cast; rfl, by omega, rfl⟩, by omega⟩
 .rw [show k = C.toNat by omega]; exact hfin
end
end Go.Proofs.YtjgpkljepgcekaaGreat
namespace Go.Proofs.YtjgpkljepgcekaaGreat
section
variable {F : GFv} {p m v g : Nat} {P M : Int} {mf : LI} {X Y : LL} {C : Int}
open Classical in
noncomputable def sqe (P M : Int) (mf : LI) (C : Int) (X : LL) : Int := if mck P M mf C X ≠ 0 then mck P M mf C X else if (X.length : Int) ≠ C then 3 else 0
def cmb (p m v : Nat) (x : LI) (C : Nat) (X : LL) (k : Nat) : LI := (List.range k).foldl (fun s i => adx p m v s (vo x i) (row X i)) (List.replicate C 0)
open Classical in
noncomputable def vce (p m : Nat) (x : LI) (n : Nat) : Int := if x.length ≠ n then 3 else if ¬ Elr p m x then 2 else 0
def rgt (b : LI) : LL := b.map fun y => [y]
def eb (p m v : Nat) (C : Int) (X : LL) (b : LI) : ES := elim p m v C.toNat ⟨X, rgt b, [], 1⟩
end
def A3 : LL := [[1, 1, 0], [0, 1, 1], [1, 0, 1]]
def A2 : LL := [[1, 2], [3, 4]]
instance (p m : Nat) (x : Int) : Decidable (El p m x) := inferInstanceAs (Decidable (_ /\ _))
end Go.Proofs.YtjgpkljepgcekaaGreat
namespace Go.Proofs.YtjgpkljepgcekaaGreat
end Go.Proofs.YtjgpkljepgcekaaGreat
namespace Go.Proofs.YtjgpkljepgcekaaGreat
section
variable {F : GFv} {p m v g : Nat} {P M : Int} {mf : LI} {X : LL} {C : Int} {set y : LI}
end
end Go.Proofs.YtjgpkljepgcekaaGreat
namespace Go.Proofs.YtjgpkljepgcekaaGreat
section
variable {p m v : Nat} {P M : Int} {mf : LI} {X Y : LL} {C : Int} {w : Nat}
def en (p m : Nat) (l : LI) : Nat -> Nat := fun c => inE (p ^ m) (vo l c)
structure Lin (p m v w : Nat) (f : (Nat -> Nat) -> Nat) : Prop where
  lt : ∀ a, f a < p ^ m
  cg : ∀ {a b : Nat -> Nat}, (∀ c, c < w -> a c = b c) -> f a = f b
  ad : ∀ {a b : Nat -> Nat} {x : Nat}, (∀ c, a c < p ^ m) -> (∀ c, b c < p ^ m) -> x < p ^ m -> f (fun c => Qx p m (a c) (JF p m (dv p v) x (b c))) = Qx p m (f a) (JF p m (dv p v) x (f b))
  ml : ∀ {a : Nat -> Nat} {x : Nat}, (∀ c, a c < p ^ m) -> x < p ^ m -> f (fun c => JF p m (dv p v) x (a c)) = JF p m (dv p v) x (f a)
theorem en_adx (hF : FV P M mf p m v) {a o : LI} {x : Int} {c : Nat} (hc : c < a.length) : en p m (adx p m v a x o) c = Qx p m (en p m a c) (JF p m (dv p v) (inE (p ^ m) x) (en p m o c)) := by
 have R := hF.ring; have hq : 0 < p ^ m := by have := R.q2; omega
 have e0 : inE (p ^ m) 0 = 0 := QS (x := 0) hq; have hz : ∀ y, y < p ^ m -> JF p m (dv p v) 0 y = 0 := fun y hy => by rw [R.Mc hq hy]; exact R.M0 hy
 unfold en adx; split
 .rename_i h; subst h
  rw [e0, hz _ (Qh hq _), R.Az (Qh hq _)]
 .rw [ZI hc]; split
  .rename_i h; rw [h, e0, R.M0 (Qh hq _), R.Az (Qh hq _)]
  .unfold Ad Ml; rw [QS (R.Al _ _), QS (R.Ml _ _)]
theorem Joa {r cur t : Nat} (hr : r < X.length) (hc : cur < X.length) : row (swq X r cur) t = if t = cur then row X r else if t = r then row X cur else row X t := by
  unfold swq
  split
  . rename_i h; subst h
    split
    . rename_i h; rw [h]
    . rfl
  . exact Zk hr hc
theorem Jwt {cur t : Nat} {e : Int} (hc : cur < X.length) : row (scq p m v X cur e) t = if t = cur then sc p m v (Iv p m v e) (row X cur) else row X t := by
 unfold scq; rw [Q2]; by_cases h : cur = t
 .rw [if_pos ⟨h, hc⟩, if_pos h.symm]
 .rw [if_neg (fun hh => h hh.1), if_neg (fun hh => h hh.symm)]
theorem iv_ex {g : Nat} (K : Gn (p ^ m) (JF p m (dv p v)) g) (hF : FV P M mf p m v) {x : Int} (h0 : x ≠ 0) (hx : El p m x) : inE (p ^ m) x < p ^ m /\ JF p m (dv p v) (inE (p ^ m) x) (inE (p ^ m) (Iv p m v x)) = 1 := by
 have R := hF.ring; have q1 : 1 < p ^ m := R.q2; have hx1 := Qh (q := p ^ m) (by omega) x; have hne : 0 < inE (p ^ m) x := by
  have := Jhn hx; omega
 have h1 := K.xone R hne hx1; refine ⟨hx1, ?_⟩; have hz : pw (JF p m (dv p v)) (inE (p ^ m) x) (p ^ m - 1 - 1) < p ^ m := by
  cases p ^ m - 1 - 1 with
  | zero => exact q1
  | succ n => exact R.Ml _ _
 have h2 : JF p m (dv p v) (pw (JF p m (dv p v)) (inE (p ^ m) x) (p ^ m - 1 - 1)) (inE (p ^ m) x) = 1 := by
  rw [show p ^ m - 1 = (p ^ m - 1 - 1) + 1 by omega] at h1; exact h1
 rw [Jpj R hx1 hz h2, QS hz, R.Mc hx1 hz]; exact h2
end
end Go.Proofs.YtjgpkljepgcekaaGreat
namespace Go.Proofs.YtjgpkljepgcekaaGreat
section
variable {p m v g : Nat} {P M : Int} {mf : LI} {X Y : LL} {C : Int} {w : Nat}
structure Red (k : Nat) (S : ES) : Prop where
  one : ∀ i, i < S.pv.length -> ∀ t, t < S.X.length -> vo (row S.X t) (vo S.pv i).toNat = if t = i then 1 else 0
  lo : ∀ t, S.pv.length <= t -> t < S.X.length -> ∀ c, c < k -> vo (row S.X t) c = 0
  lf : ∀ i, i < S.pv.length -> ∀ c : Nat, (c : Int) < vo S.pv i -> vo (row S.X i) c = 0
theorem Jwl {a o : LI} {x : Int} {c : Nat} (h : vo o c = 0) : vo (adx p m v a x o) c = vo a c := by
 unfold adx; split
 .rfl
 .rcases Nat.lt_or_ge c a.length with hc | hc
  .rw [ZI hc, if_pos h]
  .rw [Jd7 hc, Jd7 (by rw [Jb3]; exact hc)]
theorem Jte (hF : FV P M mf p m v) {l : LI} {x : Int} {c : Nat} (h : vo l c = 0) : vo (sc p m v x l) c = 0 := by
 have hq : 0 < p ^ m := by have := hF.ring.q2; omega
 rcases Nat.lt_or_ge c l.length with hc | hc
 .rw [Jf0 hc, h]; unfold Ml; rw [show inE (p ^ m) 0 = 0 from QS (x := 0) hq, hF.ring.M0 (Qh hq _)]; rfl
 .exact Jd7 (by unfold sc; rw [List.length_map]; exact hc)
theorem Jub (K : Gn (p ^ m) (JF p m (dv p v)) g) (hF : FV P M mf p m v) {S : ES} {k : Nat} (hA : Asc k S.pv) (hl : S.pv.length <= S.X.length) (he : Els p m S.X) (h : Red k S) : Red (k + 1) (Yr p m v S k) := by
 have R := hF.ring; have q1 : 1 < p ^ m := R.q2; have hp : 0 < p := by have := hF.p2; omega
 unfold Yr; split
 case isFalse h1 =>
  refine ⟨h.one, fun t ht1 ht2 c hc => ?_, h.lf⟩; rcases Nat.lt_or_ge c k with hck | hck
  .exact h.lo t ht1 ht2 c hck
  .have e : c = k := by omega
   subst e; have hs := Z8 S.X c S.pv.length hl; exact hs.2.1 t ht1 (by
    rcases Nat.lt_or_ge t (nz S.X c S.pv.length) with h | h
    .exact h
    .exact absurd ⟨by omega, by omega⟩ h1)
 case isTrue h1 =>
  obtain ⟨hc, hr⟩ := h1; have hrs := Jol S.X k S.pv.length; have hne := (Z8 S.X k S.pv.length hl).2.2 hr; have hkl : k < (row S.X (nz S.X k S.pv.length)).length := by
   rcases Nat.lt_or_ge k (row S.X (nz S.X k S.pv.length)).length with h | h
   .exact h
   .exact absurd (Jd7 h) hne
  have hel : El p m (vo (row S.X (nz S.X k S.pv.length)) k) := Qp he _ _ (Jd6 hkl); obtain ⟨h4, h5⟩ := iv_ex K hF hne hel; have hE3 : Els p m (es1 p m v k (nz S.X k S.pv.length) S.pv.length S).X := Jhr hp he hr hc; have hn : (es1 p m v k (nz S.X k S.pv.length) S.pv.length S).X.length = S.X.length := by rw [Jdf, Zt, Q1, Qe]
  generalize hrr : nz S.X k S.pv.length = r at *
  have hx2 : ∀ t, row (scq p m v (swq S.X r S.pv.length) S.pv.length (vo (row (swq S.X r S.pv.length) S.pv.length) k)) t = if t = S.pv.length then sc p m v (Iv p m v (vo (row S.X r) k)) (row S.X r) else if t = r then row S.X S.pv.length else row S.X t := fun t => by
   rw [Jwt (by rw [Qe]; exact hc), Joa hr hc, Joa hr hc, if_pos rfl]; split <;> rfl
  have hx3 : ∀ t, t < S.X.length -> row (es1 p m v k r S.pv.length S).X t = if t = S.pv.length then sc p m v (Iv p m v (vo (row S.X r) k)) (row S.X r) else adx p m v (if t = r then row S.X S.pv.length else row S.X t) (Ng p m (vo (if t = r then row S.X S.pv.length else row S.X t) k)) (sc p m v (Iv p m v (vo (row S.X r) k)) (row S.X r)) := fun t ht => by
   rw [Jdf, Jbp (by rw [Q1, Qe]; exact ht), hx2, hx2, if_pos rfl]; split
   .rfl
   .rfl
  -- the columns before stay
  have hold : ∀ t, t < S.X.length -> ∀ c, c < k -> vo (row (es1 p m v k r S.pv.length S).X t) c = vo (row S.X t) c := fun t ht c hck => by
   have z1 : vo (row S.X r) c = 0 := h.lo r hrs hr c hck; have z2 : vo (row S.X S.pv.length) c = 0 := h.lo _ (Nat.le_refl _) hc c hck; rw [hx3 t ht]; split
   .rename_i e; rw [Jte hF z1, e, z2]
   .rw [Jwl (Jte hF z1)]; split
    .rename_i e; rw [z2, e, z1]
    .rfl
  have hone : vo (sc p m v (Iv p m v (vo (row S.X r) k)) (row S.X r)) k = 1 := by
   rw [Jf0 hkl]; unfold Ml; rw [R.Mc (Qh (by omega) _) h4, h5]; rfl
  have hnew : ∀ t, t < S.X.length -> vo (row (es1 p m v k r S.pv.length S).X t) k = if t = S.pv.length then 1 else 0 := fun t ht => by
   have hEt := Qp hE3 t; have hx := hx3 t ht; by_cases e : t = S.pv.length
   .rw [if_pos e] at hx ⊢; rw [hx]; exact hone
   .rw [if_neg e] at hx ⊢; rcases Nat.lt_or_ge k (if t = r then row S.X S.pv.length else row S.X t).length with hkt | hkt
    .have h6 := en_adx hF (x := Ng p m (vo (if t = r then row S.X S.pv.length else row S.X t) k)) (o := sc p m v (Iv p m v (vo (row S.X r) k)) (row S.X r)) hkt; rw [<- hx] at h6; have h7 : en p m (sc p m v (Iv p m v (vo (row S.X r) k)) (row S.X r)) k = 1 := by unfold en; rw [hone]; exact QS (x := 1) q1
     rw [h7] at h6; unfold Ng at h6; have h8 : ZR p m (inE (p ^ m) (vo (if t = r then row S.X S.pv.length else row S.X t) k)) < p ^ m := Jdv hp _; rw [QS h8, R.M1 h8] at h6; have h9 : en p m (row (es1 p m v k r S.pv.length S).X t) k = 0 := by rw [h6]; exact Je2 hp (Qh (by omega) _)
     have h10 : El p m (vo (row (es1 p m v k r S.pv.length S).X t) k) := hEt _ (Jd6 (by rw [hx, Jh0]; exact hkt)); rw [<- Jhn h10]; show ((en p m (row (es1 p m v k r S.pv.length S).X t) k : Nat) : Int) = 0; rw [h9]; rfl
    .rw [hx]; exact Jd7 (by rw [Jh0]; exact hkt)
  have hpv : (es1 p m v k r S.pv.length S).pv = S.pv ++ [(k : Int)] := rfl; refine ⟨fun i hi t ht => ?_, fun t ht1 ht2 c hck => ?_, fun i hi c hci => ?_⟩
  .rw [hn] at ht; rw [hpv, List.length_append, List.length_singleton] at hi; rw [hpv, Jbl]; by_cases e : i < S.pv.length
   .rw [if_pos e, hold t ht _ (by have := hA.1 i e; omega)]; exact h.one i e t ht
   .have e2 : i = S.pv.length := by omega
    rw [if_neg e, if_pos e2, e2]; exact hnew t ht
  .rw [hn] at ht2; rw [hpv, List.length_append, List.length_singleton] at ht1; rcases Nat.lt_or_ge c k with h6 | h6
   .rw [hold t ht2 c h6]; exact h.lo t (by omega) ht2 c h6
   .rw [show c = k by omega, hnew t ht2, if_neg (by omega)]
  .rw [hpv, List.length_append, List.length_singleton] at hi; rw [hpv, Jbl] at hci; by_cases e : i < S.pv.length
   .rw [if_pos e] at hci; rw [hold i (by omega) c (by have := hA.1 i e; omega)]; exact h.lf i e c hci
   .have e2 : i = S.pv.length := by omega
    rw [if_neg e, if_pos e2] at hci; rw [hold i (by omega) c (by omega), e2]; exact h.lo _ (Nat.le_refl _) hc c (by omega)
theorem Ji1 (K : Gn (p ^ m) (JF p m (dv p v)) g) (hF : FV P M mf p m v) {n wy : Nat} {S : ES} (hS : Shp n w wy S) (he : Els p m S.X) (h0 : S.pv = []) : ∀ k, Red k (elim p m v k S)
 | 0 => ⟨fun i hi => by
   have : (elim p m v 0 S).pv = [] := h0; rw [this] at hi; exact absurd hi (Nat.not_lt_zero _), fun t _ _ c hc => absurd hc (Nat.not_lt_zero _), fun i hi => by
   have : (elim p m v 0 S).pv = [] := h0; rw [this] at hi; exact absurd hi (Nat.not_lt_zero _)⟩
 | k + 1 => by
  rw [QW]; have hk := ZT (p := p) (m := m) (v := v) hS k; exact Jub K hF (Je3 h0 k) (by have := hk.pl; have := hk.xl; omega) (Jbw (by have := hF.p2; omega) he k) (Ji1 K hF hS he h0 k)
end
end Go.Proofs.YtjgpkljepgcekaaGreat
namespace Go.Proofs.YtjgpkljepgcekaaGreat
section
variable {p m v g : Nat} {P M : Int} {mf : LI} {X Y : LL} {C : Int} {w : Nat}
def fs (p m : Nat) (f : Nat -> Nat) : Nat -> Nat
  | 0 => 0
  | n + 1 => Qx p m (fs p m f n) (f n)
theorem fv_gen (hF : FV P M mf p m v) : ∃ g, Gn (p ^ m) (JF p m (dv p v)) g := hF.gen
end
end Go.Proofs.YtjgpkljepgcekaaGreat
namespace Go.Proofs.YtjgpkljepgcekaaGreat
section
variable {p m v g : Nat} {P M : Int} {mf : LI} {X Y : LL} {C : Int} {w : Nat}
theorem Jov (hF : FV P M mf p m v) (hs : shp C X) (he : Els p m X) : Red C.toNat (ec p m v C X) := by
 obtain ⟨g, G⟩ := fv_gen hF; exact Ji1 G hF (Jds hs) he rfl _
theorem Jb1 (hF : FV P M mf p m v) (he : Els p m X) : Els p m (QA p m v C X) := fun r hr => Jbw (S := ⟨X, List.replicate X.length [], [], 1⟩) (by have := hF.p2; omega) he C.toNat r (List.mem_of_mem_take hr)
theorem Ju6 (hF : FV P M mf p m v) (hs : shp C X) (he : Els p m X) {i t : Nat} (hi : i < (Yt p m v C X).length) (ht : t < (Yt p m v C X).length) : vo (row (QA p m v C X) t) (vo (Yt p m v C X) i).toNat = if t = i then 1 else 0 := by
 have hS := Ja4 (p := p) (m := m) (v := v) hs; have := Je8 (p := p) (m := m) (v := v) hs; rw [show row (QA p m v C X) t = row (ec p m v C X).X t from Jek ht]; exact (Jov hF hs he).one i hi t (by have := hS.xl; omega)
theorem Ju7 (hF : FV P M mf p m v) (hs : shp C X) (he : Els p m X) {i c : Nat} (hi : i < (Yt p m v C X).length) (hc : (c : Int) < vo (Yt p m v C X) i) : vo (row (QA p m v C X) i) c = 0 := by
 rw [show row (QA p m v C X) i = row (ec p m v C X).X i from Jek hi]; exact (Jov hF hs he).lf i hi c hc
end
end Go.Proofs.YtjgpkljepgcekaaGreat
namespace Go.Proofs.YtjgpkljepgcekaaGreat
end Go.Proofs.YtjgpkljepgcekaaGreat
namespace Go.Proofs.YtjgpkljepgcekaaGreat
section
variable {p m v : Nat} {P M : Int} {mf : LI} {X Y : LL} {C : Int} {w : Nat}
end
end Go.Proofs.YtjgpkljepgcekaaGreat
namespace Go.Proofs.YtjgpkljepgcekaaGreat
section
variable {p m v : Nat} {P M : Int} {mf : LI} {X Y : LL} {C : Int} {w : Nat}
end
end Go.Proofs.YtjgpkljepgcekaaGreat
namespace Go.Proofs.YtjgpkljepgcekaaGreat
section
variable {p m v : Nat} {P M : Int} {mf : LI} {X Y : LL} {C : Int} {w : Nat}
end
end Go.Proofs.YtjgpkljepgcekaaGreat
namespace Go.Proofs.YtjgpkljepgcekaaGreat
section
variable {p m v : Nat} {P M : Int} {mf : LI} {X Y : LL} {C : Int} {w : Nat}
theorem Jwh {Q : LL -> Prop} (hF : FV P M mf p m v) (hs : shp C X) (he : Els p m X) (h : Q (QA p m v C (Jft p m v C X))) : Jd0 P M mf X C Q := by
 obtain ⟨h1, h2, h3⟩ := Zj hs; have hpl := Je8 (p := p) (m := m) (v := v) hs; have hcl := Y5 (p := p) (m := m) (v := v) hs; have hasc := Jb2 (p := p) (m := m) (v := v) C X; have hrow := fun i (hi : i < (QA p m v C X).length) => Je7 (p := p) (m := m) (v := v) hs hi; have hfin := Jbj (Q := fun q => Q q.1) hF (Y7 (p := p) (m := m) (v := v) hs) (ZY hF) h; refine Jbj hF hs he ⟨⟨by omega, by omega, by omega⟩, fun x z => ∃ k : Nat, z = k /\ k <= C.toNat /\ x.length = C.toNat /\ ∀ j, j < k -> vo x j = -1, fun _ z => (C - z).toNat, ⟨0, rfl, Nat.zero_le _, by simp, fun j hj => by omega⟩, ?_⟩; unfold Jft at hfin; generalize QA p m v C X = R at *
 generalize Yt p m v C X = pv at *
 rintro x _ ⟨k, rfl, hk, hx, hk1⟩; refine ⟨fun hlt => ⟨⟨by omega, by omega⟩, Js (by omega) (by omega), ⟨k + 1, by push_cast; rfl, by omega, by rw [Qa, List.length_set]; exact hx, fun j hj => ?_⟩, by dsimp only; omega⟩, fun hge => ?_⟩
 .rw [Qa, J5]; by_cases e : k = j
  .rw [if_pos ⟨e, by omega⟩]
  .rw [if_neg (fun hh => e hh.1)]; exact hk1 j (by omega)
 have hk1' : ∀ j, j < C.toNat -> vo x j = -1 := fun j hj => hk1 j (by omega); refine ⟨fun y z => ∃ i : Nat, z = i /\ i <= pv.length /\ y.length = C.toNat /\ ∀ d, d < C.toNat -> (0 <= vo y d ↔ ∃ j, j < i /\ vo pv j = (d : Int)), fun _ z => (pv.length - z).toNat, ⟨0, rfl, Nat.zero_le _, hx, fun d hd => ⟨fun hh => by rw [hk1' d hd] at hh; exact absurd hh (by decide), fun ⟨j, hj, _⟩ => absurd hj (Nat.not_lt_zero _)⟩⟩, ?_⟩; rintro y _ ⟨i, rfl, hi, hy, hy1⟩; refine ⟨fun hlt => ?_, fun hge => ?_⟩
 .have hpi := hasc.1 i (by omega); have hpi' : 0 <= gi pv (i : Int) /\ gi pv (i : Int) < ((C.toNat : Nat) : Int) := hpi; refine ⟨⟨by omega, by omega⟩, hpi', Js (by omega) (by omega), ⟨i + 1, by push_cast; rfl, by omega, ?_, fun d hd => ?_⟩, by dsimp only; omega⟩
  .show (y.set _ _).length = _; rw [List.length_set]; exact hy
  .show 0 <= vo (y.set (vo pv i).toNat (i : Int)) d ↔ _; rw [J5]; by_cases e : (vo pv i).toNat = d
   .rw [if_pos ⟨e, by omega⟩]; exact ⟨fun _ => ⟨i, by omega, by omega⟩, fun _ => by omega⟩
   .rw [if_neg (fun hh => e hh.1), hy1 d hd]; refine ⟨fun ⟨j, hj, hj'⟩ => ⟨j, by omega, hj'⟩, fun ⟨j, hj, hj'⟩ => ⟨j, ?_, hj'⟩⟩; rcases Nat.lt_or_ge j i with h5 | h5
    .exact h5
    .rw [show j = i by omega] at hj'; omega
 have hy2 : ∀ d, d < C.toNat -> (0 <= vo y d ↔ inP pv d = true) := fun d hd => by
  rw [hy1 d hd, Jhm, show i = pv.length by omega]
 refine ⟨fun x z => ∃ k : Nat, z = k /\ k <= C.toNat /\ x = bas p m C.toNat R pv k, fun _ z => (C - z).toNat, ⟨0, rfl, Nat.zero_le _, rfl⟩, ?_⟩; rintro _ _ ⟨k, rfl, hk, rfl⟩; have hbl := Jdx (p := p) (m := m) C.toNat R pv k; refine ⟨fun hlt => ⟨fun x => x = bas p m C.toNat R pv (k + 1), ⟨⟨by omega, by omega⟩, fun hin => ?_, fun hin => ?_⟩, ?_⟩, fun hge => ?_⟩
 .rw [Y6, if_pos ((hy2 k (by omega)).1 hin)]
 .refine ⟨⟨by omega, by omega, by omega⟩, ⟨by omega, by omega⟩, fun x z => ∃ i : Nat, z = i /\ i <= pv.length /\ x = Jdi p m C.toNat R pv k i, fun _ z => (pv.length - z).toNat, ⟨0, rfl, Nat.zero_le _, rfl⟩, ?_⟩; rintro _ _ ⟨i, rfl, hi', rfl⟩; refine ⟨fun hlt2 => ?_, fun hge2 => ⟨by omega, ?_⟩⟩
  .have hpi := hasc.1 i (by omega); have hpi' : 0 <= gi pv (i : Int) /\ gi pv (i : Int) < ((C.toNat : Nat) : Int) := hpi; refine ⟨⟨by omega, by omega⟩, ⟨by omega, by omega⟩, ⟨by omega, by show (k : Int) < ((row R i).length : Int); rw [hrow i (by omega)]; omega⟩, _, Jtn hF rfl, hpi', Js (by omega) (by omega), ⟨i + 1, by push_cast; rfl, by omega, ?_⟩, by dsimp only; omega⟩; rw [Z3]; rfl
  .rw [Y6, if_neg (fun hh => hin ((hy2 k (by omega)).2 hh)), show i = pv.length by omega]
 .rintro _ rfl; exact ⟨Js (by omega) (by omega), ⟨k + 1, by push_cast; rfl, by omega, rfl⟩, by dsimp only; omega⟩
 .rw [show k = C.toNat by omega]; exact hfin
end
end Go.Proofs.YtjgpkljepgcekaaGreat
namespace Go.Proofs.YtjgpkljepgcekaaGreat
section
variable {p m v : Nat} {P M : Int} {mf : LI} {X Y : LL} {C : Int} {w wy : Nat}
def e2 (p m w : Nat) (a b : LI) : Nat -> Nat := fun c => if c < w then en p m a c else en p m b (c - w)
end
end Go.Proofs.YtjgpkljepgcekaaGreat
namespace Go.Proofs.YtjgpkljepgcekaaGreat
section
variable {p m v : Nat} {P M : Int} {mf : LI} {X Y : LL} {C : Int} {w wy : Nat}
def u1 (p m w : Nat) (u : Nat -> Nat) : Nat -> Nat := fun c => if c < w then u c else ZR p m 1
end
end Go.Proofs.YtjgpkljepgcekaaGreat
namespace Go.Proofs.YtjgpkljepgcekaaGreat
end Go.Proofs.YtjgpkljepgcekaaGreat
namespace Go.Proofs.YtjgpkljepgcekaaGreat
section
variable {p m v : Nat} {P M : Int} {mf : LI} {X Y : LL} {C D : Int} {w wy : Nat}
def mm (p m v w : Nat) (A B : LL) : LL := (List.range A.length).map fun t => cmb p m v (row A t) w B B.length
end
end Go.Proofs.YtjgpkljepgcekaaGreat
namespace Go.Proofs.YtjgpkljepgcekaaGreat
section
variable {P M : Int} {mf : LI} {X : LL} {C : Int}
end
end Go.Proofs.YtjgpkljepgcekaaGreat
namespace Go.Proofs.YtjgpkljepgcekaaGreat
section
variable {p m v : Nat} {P M : Int} {mf : LI} {X Y : LL} {C D : Int} {w wy : Nat}
end
end Go.Proofs.YtjgpkljepgcekaaGreat
namespace Go.Proofs.YtjgpkljepgcekaaGreat
section
variable {p m v : Nat} {P M : Int} {mf : LI} {X Y : LL} {C D : Int} {w wy : Nat}
end
end Go.Proofs.YtjgpkljepgcekaaGreat
namespace Go.Proofs.YtjgpkljepgcekaaGreat
/-! ### canonical matrices -/
variable {P M : Int} {mf : LI} {p m v : Nat} {C : Int} {X Y : LL}
/-- The rows are canonical; q: the columns of their first entries. -/
structure Cnl (C : Nat) (X : LL) (q : Nat -> Nat) : Prop where
  lt : ∀ i, i < X.length -> q i < C
  one : ∀ i, i < X.length -> ∀ t, t < X.length -> vo (row X t) (q i) = if t = i then 1 else 0
  lf : ∀ i, i < X.length -> ∀ c, c < q i -> vo (row X i) c = 0
  asc : ∀ i j, i < j -> j < X.length -> q i < q j
def Js0 (C : Int) (X : LL) : Prop := ∃ q, Cnl C.toNat X q
theorem Jve (a o : LI) : adx p m v a 0 o = a := by unfold adx; rw [if_pos rfl]
theorem ng_0 (hF : FV P M mf p m v) : Ng p m 0 = 0 := (Jom hF ⟨by omega, by
 have := hF.ring.q2; have h : (0 : Int) < ((p ^ m : Nat) : Int) := by exact_mod_cast (by omega : 0 < p ^ m)
 exact h⟩).2 rfl
theorem Jxn (hF : FV P M mf p m v) {S : ES} {k : Nat} (he : Els p m S.X) (hj : S.pv.length < S.X.length) (h1 : ∀ t, t < S.X.length -> vo (row S.X t) k = if t = S.pv.length then 1 else 0) : (es1 p m v k S.pv.length S.pv.length S).X = S.X := by
 rw [Jdf]; have e1 : swq S.X S.pv.length S.pv.length = S.X := by unfold swq; rw [if_pos rfl]
 rw [e1]; have e2 : scq p m v S.X S.pv.length (vo (row S.X S.pv.length) k) = S.X := by
  unfold scq; rw [h1 _ hj, if_pos rfl, Jum hF, Jt2 hF (Qp he _)]; refine QR (by simp) fun i hi => ?_; rw [Q2]; split
  .rename_i h; rw [h.1]
  .rfl
 rw [e2]; refine QR (by rw [Zt]) fun i hi => ?_; rw [Zt] at hi; rw [Jbp hi]; split
 .rfl
 .rename_i hne
  rw [h1 i hi, if_neg hne, ng_0 hF, Jve]
theorem Jjr (hF : FV P M mf p m v) {q : Nat -> Nat} {w wy : Nat} {Y : LL} {d : Int} (hq : Cnl w X q) (he : Els p m X) : ∀ k, k <= w -> (elim p m v k ⟨X, Y, [], d⟩).X = X /\ ∃ j, j <= X.length /\ (∀ i, i < j -> q i < k) /\ (∀ i, j <= i -> i < X.length -> k <= q i) /\ (elim p m v k ⟨X, Y, [], d⟩).pv = (List.range j).map fun i => ((q i : Nat) : Int)
 | 0, _ => ⟨rfl, 0, Nat.zero_le _, fun i h => absurd h (Nat.not_lt_zero i), fun i _ _ => Nat.zero_le _, rfl⟩
 | k + 1, hk => by
  obtain ⟨h1, j, hj, h2, h3, h4⟩ := Jjr hF (Y := Y) (d := d) (wy := wy) hq he k (by omega); rw [QW]; generalize elim p m v k ⟨X, Y, [], d⟩ = S at h1 h4 ⊢; have hl : S.pv.length = j := by rw [h4]; simp
  unfold Yr; rw [hl, h1]; by_cases hjn : j < X.length
  .by_cases hqk : q j = k
   .have hn : nz X k j = j := (Jjj (Nat.le_refl _) hj (fun t a b => by omega) (fun hh => by
     have := hq.one j hh j hh; rw [hqk, if_pos rfl] at this; rw [this]; decide)).symm
    rw [hn, if_pos ⟨hjn, hjn⟩]; have e := Jxn (k := k) hF (S := S) (by rw [h1]; exact he) (by rw [hl, h1]; exact hjn) (fun t ht => by
     rw [h1] at ht ⊢; rw [hl, <- hqk]; exact hq.one j hjn t ht)
    rw [hl] at e; refine ⟨e.trans h1, j + 1, hjn, fun i hi => ?_, fun i a b => ?_, ?_⟩
    .rcases Nat.lt_or_ge i j with h | h
     .have := h2 i h; omega
     .have : i = j := by omega
      subst this; omega
    .have := hq.asc j i (by omega) b; omega
    .show S.pv ++ [(k : Int)] = _; rw [h4, List.range_succ, List.map_append, List.map_cons, List.map_nil, hqk]
   .have hlt : k < q j := by have := h3 j (Nat.le_refl _) hjn; omega
    have hz : ∀ t, j <= t -> t < X.length -> vo (row X t) k = 0 := fun t a b => hq.lf t b k (by
     rcases Nat.lt_or_ge j t with h | h
     .have := hq.asc j t h b; omega
     .have : t = j := by omega
      subst this; exact hlt)
    have hn : ¬ nz X k j < X.length := fun hh => (Z8 X k j hj).2.2 hh (hz _ (Jol X k j) hh); rw [if_neg (fun hh => hn hh.2)]; refine ⟨h1, j, hj, fun i hi => by have := h2 i hi; omega, fun i a b => ?_, h4⟩; rcases Nat.lt_or_ge j i with h | h
    .have := hq.asc j i h b; omega
    .have : i = j := by omega
     subst this; omega
  .rw [if_neg (fun hh => hjn hh.1)]; exact ⟨h1, j, hj, fun i hi => by have := h2 i hi; omega, fun i a b => by omega, h4⟩
theorem Jow (hF : FV P M mf p m v) (hs : shp C X) (he : Els p m X) {q : Nat -> Nat} (hq : Cnl C.toNat X q) : QA p m v C X = X /\ Yt p m v C X = (List.range X.length).map fun i => ((q i : Nat) : Int) := by
 obtain ⟨h1, j, hj, h2, h3, h4⟩ := Jjr (wy := 0) (Y := List.replicate X.length []) (d := 1) hF hq he C.toNat (Nat.le_refl _); have e : j = X.length := by
  rcases Nat.lt_or_ge j X.length with h | h
  .have := h3 j (Nat.le_refl _) h; have := hq.lt j h; omega
  .omega
 subst e; have hP : Yt p m v C X = (List.range X.length).map fun i => ((q i : Nat) : Int) := h4; refine ⟨?_, hP⟩; show (elim p m v C.toNat ⟨X, List.replicate X.length [], [], 1⟩).X.take (elim p m v C.toNat ⟨X, List.replicate X.length [], [], 1⟩).pv.length = X; rw [h1, h4, List.length_map, List.length_range, List.take_length]
theorem ZV (hs : shp C X) {i : Nat} (hi : i < (Yt p m v C X).length) : (((vo (Yt p m v C X) i).toNat : Nat) : Int) = vo (Yt p m v C X) i /\ (vo (Yt p m v C X) i).toNat < C.toNat := by
 have h := (Jb2 (p := p) (m := m) (v := v) C X).1 i hi; omega
theorem Jhx (hF : FV P M mf p m v) (hs : shp C X) (he : Els p m X) : Cnl C.toNat (QA p m v C X) fun i => (vo (Yt p m v C X) i).toNat := by
 have hl := Y5 (p := p) (m := m) (v := v) hs; refine ⟨fun i hi => (ZV hs (by omega)).2, fun i hi t ht => Ju6 hF hs he (by omega) (by omega), fun i hi c hc => ?_, fun i j hij hj => ?_⟩
 .exact Ju7 hF hs he (by omega) (by have := (ZV (p := p) (m := m) (v := v) hs (i := i) (by omega)).1; omega)
 .have h := (Jb2 (p := p) (m := m) (v := v) C X).2 i j hij (by omega); have h1 := (ZV (p := p) (m := m) (v := v) hs (i := i) (by omega)).1; have h2 := (ZV (p := p) (m := m) (v := v) hs (i := j) (by omega)).1; omega
theorem Jxp (hF : FV P M mf p m v) (hs : shp C X) (he : Els p m X) : QA p m v C (QA p m v C X) = QA p m v C X /\ Yt p m v C (QA p m v C X) = Yt p m v C X := by
 have h := Jow hF (ZU hs) (Jb1 hF he) (Jhx hF hs he); refine ⟨h.1, h.2.trans ?_⟩; have hl := Y5 (p := p) (m := m) (v := v) hs; refine List.ext_getElem (by simp [hl]) fun i h1 h2 => ?_; simp only [List.getElem_map, List.getElem_range]; rw [(ZV hs h2).1]; unfold vo; rw [List.getD_eq_getElem?_getD, List.getElem?_eq_getElem h2]; rfl
theorem Ju3 (hF : FV P M mf p m v) (hs : shp C X) (he : Els p m X) : Js0 C X ↔ QA p m v C X = X :=
 ⟨fun ⟨q, hq⟩ => (Jow hF hs he hq).1, fun h => ⟨_, by have := Jhx hF hs he; rwa [h] at this⟩⟩
/-- Canonical rows are no more than columns. -/
theorem Cnl.len {w : Nat} {q : Nat -> Nat} (h : Cnl w X q) : X.length <= w := by
  have : ∀ k, k <= X.length -> k = 0 ∨ k <= q (k - 1) + 1 := by
    intro k
    induction k with
    | zero => intro _; exact .inl rfl
    | succ k ih =>
      intro hk
      refine .inr ?_
      rcases ih (by omega) with h0 | h1
      . subst h0; omega
      . rcases Nat.eq_zero_or_pos k with h0 | h0
        . subst h0; omega
        . have := h.asc (k - 1) k (by omega) (by omega)
          rw [Nat.add_sub_cancel]; omega
  rcases this X.length (Nat.le_refl _) with h0 | h1
  . omega
  . rcases Nat.eq_zero_or_pos X.length with h0 | h0
    . omega
    . have := h.lt (X.length - 1) (by omega); omega
end Go.Proofs.YtjgpkljepgcekaaGreat
namespace Go.Proofs.YtjgpkljepgcekaaGreat
/-! ### words reduced by canonical rows -/
variable {P M : Int} {mf : LI} {p m v : Nat} {C : Int} {X Y : LL} {w : Nat}
end Go.Proofs.YtjgpkljepgcekaaGreat
namespace Go.Proofs.YtjgpkljepgcekaaGreat
/-! ### the checks of a space -/
variable {P M : Int} {mf : LI} {p m v g : Nat} {C : Int} {X Y : LL} {F : GFv}
theorem Jwj {l : LI} {pf : Int -> (Bool -> Prop) -> Prop} {f : Int -> Bool} {Q : Int -> Prop} (hl : l.length <= 1000000) (hp : ∀ x (R : Bool -> Prop), R (f x) -> pf x R)
  (h1 : ∀ k : Nat, k < l.length -> f (vo l k) = true -> (∀ j, j < k -> f (vo l j) = false) -> Q (k : Int)) (h2 : (∀ j, j < l.length -> f (vo l j) = false) -> Q (-1)) : ZA l pf Q := by
 refine ⟨fun z => ∃ k : Nat, z = k /\ k <= l.length /\ ∀ j, j < k -> f (vo l j) = false, fun z => (l.length - z).toNat, ⟨0, rfl, Nat.zero_le _, fun j hj => by omega⟩, ?_⟩; rintro _ ⟨k, rfl, hk, hv⟩; dsimp only; refine ⟨fun hlt => ⟨⟨by omega, by omega⟩, hp _ _ ⟨fun hb => h1 k (by omega) hb hv, fun hb => ⟨Js (by omega) (by omega), ⟨k + 1, by push_cast; rfl, by omega, fun j hj => ?_⟩, by omega⟩⟩⟩, fun hge => h2 fun j hj => hv j (by omega)⟩; rcases Nat.lt_or_ge j k with h | h
 .exact hv j h
 .have : j = k := by omega
  subst this; exact hb
theorem w_lead {l : LI} {Q : Int -> Prop} (hl : l.length <= 1000000)
  (h1 : ∀ k : Nat, k < l.length -> vo l k ≠ 0 -> (∀ j, j < k -> vo l j = 0) -> Q (k : Int)) (h2 : (∀ j, j < l.length -> vo l j = 0) -> Q (-1)) : ZA l (fun xc Qc => YK xc Qc) Q :=
 Jwj (f := fun x => decide (x ≠ 0)) hl (fun x R hR => hR) (fun k hk hb hv => h1 k hk (of_decide_eq_true hb) fun j hj => Classical.not_not.1 (of_decide_eq_false (hv j hj))) (fun hv => h2 fun j hj => Classical.not_not.1 (of_decide_eq_false (hv j hj)))
/-- The first entry of a canonical row. -/
theorem Cnl.lead {w : Nat} {q : Nat -> Nat} (h : Cnl w X q) {t k : Nat} (ht : t < X.length) (hk : vo (row X t) k ≠ 0) (hz : ∀ j, j < k -> vo (row X t) j = 0) : q t = k := by
  rcases Nat.lt_trichotomy (q t) k with h1 | h1 | h1
  . have := hz _ h1
    rw [h.one t ht t ht, if_pos rfl] at this; exact absurd this (by decide)
  . exact h1
  . exact absurd (h.lf t ht k h1) hk
theorem Jfl {Q : Bool -> Prop} (hs : shp C X) (h1 : Js0 C X -> Q true) (h2 : ¬ Js0 C X -> Q false) : Yk C X Q := by
 obtain ⟨hX, hC, hCe⟩ := Zj hs; have hw : ∀ t, t < X.length -> (row X t).length = C.toNat := fun t ht => Z4 hs ht; refine ⟨fun last z => ∃ t : Nat, z = t /\ t <= X.length /\ ∃ q : Nat -> Nat, (∀ i, i < t -> q i < C.toNat /\ (∀ s, s < X.length -> vo (row X s) (q i) = if s = i then 1 else 0) /\ ∀ c, c < q i -> vo (row X i) c = 0) /\ (∀ i j, i < j -> j < t -> q i < q j) /\ (t = 0 -> last = -1) /\ ∀ u, t = u + 1 -> last = (q u : Int), fun _ z => (X.length - z).toNat, ⟨0, rfl, Nat.zero_le _, fun _ => 0, fun i hi => absurd hi (Nat.not_lt_zero i), fun i j _ hj => absurd hj (Nat.not_lt_zero j), fun _ => rfl, fun u hu => by omega⟩, ?_⟩; rintro last _ ⟨t, rfl, ht, q, hq1, hq2, hl0, hl1⟩; dsimp only; refine ⟨fun hlt => ?_, fun hge => ?_⟩
 .have htl : t < X.length := by omega
  have hwt := hw t htl; refine ⟨⟨by omega, by omega⟩, ?_⟩; show ZA (row X t) _ _; have hlast : ∀ q', Cnl C.toNat X q' -> ∀ u, t = u + 1 -> last = (q' u : Int) := fun q' hq' u hu => by
   have hul : u < X.length := by omega
   have := hq'.lead (t := u) (k := q u) hul (by rw [(hq1 u (by omega)).2.1 u hul, if_pos rfl]; decide) (hq1 u (by omega)).2.2; rw [this]; exact hl1 u hu
  refine w_lead (by omega) (fun k hk hne hz => ?_) (fun hz => ?_)
  .have hkq : ∀ q', Cnl C.toNat X q' -> q' t = k := fun q' hq' => hq'.lead htl hne hz; refine ⟨fun hle => h2 ?_, fun hgt => ?_⟩
   .rintro ⟨q', hq'⟩; rcases Nat.eq_zero_or_pos t with h0 | h0
    .have := hl0 h0; omega
    .have e1 := hlast q' hq' (t - 1) (by omega); have e2 := hq'.asc (t - 1) t (by omega) htl; have e3 := hkq q' hq'; omega
   .refine ⟨⟨by omega, by show (k : Int) < ((row X t).length : Nat); omega⟩, fun hn1 => h2 ?_, fun h1' => ?_⟩
    .rintro ⟨q', hq'⟩; have := hq'.one t htl t htl; rw [hkq q' hq', if_pos rfl] at this; exact hn1 this
    .have hone : vo (row X t) k = 1 := Classical.not_not.1 h1'; refine ⟨fun z => ∃ u : Nat, z = u /\ u <= X.length /\ ∀ j, j < u -> j ≠ t -> vo (row X j) k = 0, fun z => (X.length - z).toNat, ⟨0, rfl, Nat.zero_le _, fun j hj => absurd hj (Nat.not_lt_zero j)⟩, ?_⟩; rintro _ ⟨u, rfl, hu, hju⟩; dsimp only; refine ⟨fun hlt2 => ?_, fun hge2 => ?_⟩
     .have hul : u < X.length := by omega
      have hwu := hw u hul; refine ⟨fun _ => u = t ∨ vo (row X u) k = 0, ⟨⟨by omega, by omega⟩, fun hne2 => ⟨⟨by omega, by show (k : Int) < ((row X u).length : Nat); omega⟩, fun hnz => h2 ?_, fun hz2 => .inr (Classical.not_not.1 hz2)⟩, fun he => .inl (by have := Classical.not_not.1 he; omega)⟩, ?_⟩
      .rintro ⟨q', hq'⟩; have := hq'.one t htl u hul; rw [hkq q' hq', if_neg (by omega)] at this; exact hnz this
      .intro b hb; refine ⟨Js (by omega) (by omega), ⟨u + 1, by push_cast; rfl, by omega, fun j hj hne2 => ?_⟩, by omega⟩; rcases Nat.lt_or_ge j u with h | h
       .exact hju j h hne2
       .have : j = u := by omega
        subst this; exact hb.resolve_left hne2
     .obtain ⟨q2, e1, e2⟩ : ∃ q2 : Nat -> Nat, q2 t = k /\ ∀ i, i ≠ t -> q2 i = q i := ⟨fun i => if i = t then k else q i, if_pos rfl, fun i h => if_neg h⟩
      refine ⟨Js (by omega) (by omega), ⟨t + 1, by push_cast; rfl, by omega, q2, fun i hi => ?_, fun i j hij hj => ?_, fun h0 => by omega, fun u hu => ?_⟩, by omega⟩
      .by_cases hit : i = t
       .subst hit; rw [e1]; refine ⟨by omega, fun s hs' => ?_, fun c hc => hz c hc⟩; by_cases hsi : s = i
        .subst hsi; rw [if_pos rfl]; exact hone
        .rw [if_neg hsi]; exact hju s (by omega) hsi
       .rw [e2 i hit]; exact hq1 i (by omega)
      .have hit : i ≠ t := by omega
       rw [e2 i hit]; by_cases hjt : j = t
       .subst hjt; rw [e1]; have hlu := hl1 (j - 1) (by omega); have : q i <= q (j - 1) := by
         rcases Nat.lt_or_ge i (j - 1) with h | h
         .exact Nat.le_of_lt (hq2 i (j - 1) h (by omega))
         .have : i = j - 1 := by omega
          rw [this]; exact Nat.le_refl _
        omega
       .rw [e2 j hjt]; exact hq2 i j hij (by omega)
      .have : u = t := by omega
       subst this; rw [e1]
  .have hge : (-1 : Int) <= last := by
    rcases Nat.eq_zero_or_pos t with h0 | h0
    .rw [hl0 h0]; exact Int.le_refl _
    .have := hl1 (t - 1) (by omega); omega
   refine ⟨fun _ => h2 ?_, fun hgt => absurd hge hgt⟩; rintro ⟨q', hq'⟩; have := hq'.one t htl t htl; rw [hz (q' t) (by have := hq'.lt t htl; omega), if_pos rfl] at this; exact absurd this (by decide)
 .have : t = X.length := by omega
  subst this; exact h1 ⟨q, fun i hi => (hq1 i hi).1, fun i hi t ht => (hq1 i hi).2.1 t ht, fun i hi => (hq1 i hi).2.2, hq2⟩
open Classical in
/-- the error of a space -/
noncomputable def sck (P M : Int) (mf : LI) (C : Int) (X : LL) : Int := if mck P M mf C X ≠ 0 then mck P M mf C X else if Js0 C X then 0 else 5
theorem Jt0 (h : mck P M mf C X ≠ 0) : sck P M mf C X = mck P M mf C X := if_pos h
theorem Jt1 (h : mck P M mf C X = 0) (h2 : ¬ Js0 C X) : sck P M mf C X = 5 := by unfold sck; rw [if_neg (fun hh => hh h), if_neg h2]
theorem Jk3 (h : mck P M mf C X = 0) (h2 : Js0 C X) : sck P M mf C X = 0 := by unfold sck; rw [if_neg (fun hh => hh h), if_pos h2]
theorem Js5 {Q : Int -> Prop} (h : Q (sck P M mf C X)) : Jb7 P M mf C X Q := by
 refine Jta ⟨fun hne => by rw [Jt0 hne] at h; exact h, fun he => ?_⟩; have h0 : mck P M mf C X = 0 := Classical.not_not.1 he; obtain ⟨hV, hs, hE⟩ := Jeu h0; refine Jfl hs (fun hc => ?_) (fun hc => ?_)
 .rw [Jk3 h0 hc] at h; exact ⟨fun hb => (by cases hb), fun _ => h⟩
 .rw [Jt1 h0 hc] at h; exact ⟨fun _ => h, fun hb => by cases hb⟩
theorem Jbi {a b : LI} {Q : Bool -> Prop} (ha : a.length <= 1000000) (h1 : a = b -> Q true) (h2 : a ≠ b -> Q false) : YJ a b Q := by
 refine ⟨fun hne => h2 fun e => hne (by rw [e]), fun he => ?_⟩; have hl : a.length = b.length := by have := Classical.not_not.1 he; omega
 refine ⟨fun z => ∃ t : Nat, z = t /\ t <= a.length /\ ∀ j, j < t -> vo a j = vo b j, fun z => (a.length - z).toNat, ⟨0, rfl, Nat.zero_le _, fun j hj => absurd hj (Nat.not_lt_zero j)⟩, ?_⟩; rintro _ ⟨t, rfl, ht, hj⟩; dsimp only; refine ⟨fun hlt => ⟨⟨by omega, by omega⟩, ⟨by omega, by omega⟩, fun hne => h2 fun e => hne (by rw [e]), fun heq => ⟨Js (by omega) (by omega), ⟨t + 1, by push_cast; rfl, by omega, fun j hj' => ?_⟩, by omega⟩⟩, fun hge => h1 ?_⟩
 .rcases Nat.lt_or_ge j t with h | h
  .exact hj j h
  .have : j = t := by omega
   subst this; exact Classical.not_not.1 heq
 .refine List.ext_getElem hl fun i i1 i2 => ?_; have := hj i (by omega); unfold vo at this
  rwa [List.getD_eq_getElem?_getD, List.getElem?_eq_getElem i1, List.getD_eq_getElem?_getD, List.getElem?_eq_getElem i2] at this
theorem Jbh {X Y : LL} {Q : Bool -> Prop} (hX : X.length <= 1000000) (hr : ∀ t, t < X.length -> (row X t).length <= 1000000) (h1 : X = Y -> Q true) (h2 : X ≠ Y -> Q false) : Yv X Y Q := by
 refine ⟨fun hne => h2 fun e => hne (by rw [e]), fun he => ?_⟩; have hl : X.length = Y.length := by have := Classical.not_not.1 he; omega
 refine ⟨fun z => ∃ t : Nat, z = t /\ t <= X.length /\ ∀ j, j < t -> row X j = row Y j, fun z => (X.length - z).toNat, ⟨0, rfl, Nat.zero_le _, fun j hj => absurd hj (Nat.not_lt_zero j)⟩, ?_⟩; rintro _ ⟨t, rfl, ht, hj⟩; dsimp only; refine ⟨fun hlt => ⟨⟨by omega, by omega⟩, ⟨by omega, by omega⟩, ?_⟩, fun hge => h1 (QR hl fun i hi => hj i (by omega))⟩; have htl : t < X.length := by omega
 by_cases e : row X t = row Y t
 .refine ⟨true, Jbi (hr t htl) (fun _ => rfl) (fun hne => absurd e hne), fun hb => (by cases hb), fun _ => ⟨Js (by omega) (by omega), ⟨t + 1, by push_cast; rfl, by omega, fun j hj' => ?_⟩, by omega⟩⟩; rcases Nat.lt_or_ge j t with h | h
  .exact hj j h
  .have : j = t := by omega
   subst this; exact e
 .exact ⟨false, Jbi (hr t htl) (fun e' => absurd e' e) (fun _ => rfl), fun _ => h2 fun e' => e (by rw [e']), fun hb => (by cases hb)⟩
theorem Jpl {Q : Int -> Prop} (h : Q (sck P M mf C X)) : Jae P M mf C X Q := by
 refine Jpm ⟨fun hne => by rw [Jt0 hne] at h; exact h, fun he => ?_⟩; have h0 : mck P M mf C X = 0 := Classical.not_not.1 he; obtain ⟨hV, hs, hE⟩ := Jeu h0; obtain ⟨p', m', v', hF, hE'⟩ := hE; refine Jbj hF hs hE' ?_; have hcl := ZU (p := p') (m := m') (v := v') hs; refine Jbh (by have := Jgw hcl; omega) (fun t ht => by have := Z4 hcl ht; have := Zj hs; omega) (fun e => ?_) (fun e => ?_)
 .rw [Jk3 h0 ((Ju3 hF hs hE').2 e)] at h; exact ⟨fun hb => (by cases hb), fun _ => h⟩
 .rw [Jt1 h0 (fun hc => e ((Ju3 hF hs hE').1 hc))] at h; exact ⟨fun _ => h, fun hb => by cases hb⟩
end Go.Proofs.YtjgpkljepgcekaaGreat
namespace Go.Proofs.YtjgpkljepgcekaaGreat
/-! ### pivots, reduced words -/
variable {P M : Int} {mf : LI} {p m v g : Nat} {C : Int} {X Y : LL} {F : GFv}
end Go.Proofs.YtjgpkljepgcekaaGreat
namespace Go.Proofs.YtjgpkljepgcekaaGreat
/-! ### two spaces: inclusion, quotient -/
variable {P M : Int} {mf : LI} {p m v g : Nat} {C Ca Cb : Int} {X Y a b : LL} {F : GFv}
/-- What is known of a space over a field. -/
structure Sg (P M : Int) (mf : LI) (p m v : Nat) (C : Int) (X : LL) (q : Nat -> Nat) : Prop where
  f : FV P M mf p m v
  s : shp C X
  e : Els p m X
  q : Cnl C.toNat X q
theorem Sg.mk0 {q : Nat -> Nat} (G : Sg P M mf p m v C X q) : mck P M mf C X = 0 := Jev ⟨p, m, v, G.f⟩ G.s ((Ys G.f).2 G.e)
theorem Sg.sck {q : Nat -> Nat} (G : Sg P M mf p m v C X q) : sck P M mf C X = 0 := Jk3 G.mk0 ⟨q, G.q⟩
theorem shp_C (hs : shp C X) : 0 <= C /\ C <= 256 := by have := Zj hs; omega
end Go.Proofs.YtjgpkljepgcekaaGreat
namespace Go.Proofs.YtjgpkljepgcekaaGreat
/-! ### sums, intersections, duals -/
variable {P M : Int} {mf : LI} {p m v g w : Nat} {C Ca Cb : Int} {X Y a b : LL}
/-- the dual space -/
def nul (p m v : Nat) (C : Int) (X : LL) : LL := QA p m v C (Jft p m v C X)
theorem nul_sg (hF : FV P M mf p m v) (hs : shp C X) : Sg P M mf p m v C (nul p m v C X) fun i => (vo (Yt p m v C (Jft p m v C X)) i).toNat :=
 ⟨hF, ZU (Y7 hs), Jb1 hF (ZY hF), Jhx hF (Y7 hs) (ZY hF)⟩
theorem w_Kern {Q : Int × LL × Int -> Prop} (hF : FV P M mf p m v) (hs : shp C X) (he : Els p m X) (h : Q (C, nul p m v C X, 0)) : Z1 P M mf C X Q := by
 have h0 : mck P M mf C X = 0 := Jev ⟨p, m, v, hF⟩ hs ((Ys hF).2 he); refine Jtd (fun hh => absurd h0 hh) fun p' m' v' hF' _ _ _ => ?_; obtain ⟨rfl, rfl, rfl⟩ := hF.uniq3 hF'; exact h
end Go.Proofs.YtjgpkljepgcekaaGreat
namespace Go.Proofs.YtjgpkljepgcekaaGreat
/-! ### the words of a set of positions; the examples -/
variable {P M : Int} {mf : LI} {p m v g w : Nat} {C Ca Cb : Int} {X Y a b : LL}
end Go.Proofs.YtjgpkljepgcekaaGreat
namespace Go.Proofs.YtjgpkljepgcekaaGreat
/-! ### the dual of the dual; dimensions -/
variable {P M : Int} {mf : LI} {p m v g w : Nat} {C Ca Cb : Int} {X Y a b : LL}
end Go.Proofs.YtjgpkljepgcekaaGreat
namespace Go.Proofs.YtjgpkljepgcekaaGreat
/-! ### dimensions -/
variable {P M : Int} {mf : LI} {p m v g w : Nat} {C Ca Cb : Int} {X Y a b : LL}
end Go.Proofs.YtjgpkljepgcekaaGreat
namespace Go.Proofs.YtjgpkljepgcekaaGreat
/-! ### package code and its reference -/
section
variable {P M : Int} {mf : LI} {p m v : Nat} {N C : Int} {X Y : LL}
theorem FV.mlen (h : FV P M mf p m v) : mf.length <= 1000 := by
 by_cases h1 : m = 1
 .rw [(h.m1 h1).1]; simp
 .rw [h.m2 h1, JX]; have h2 : 2 <= p := h.pr.two; have := Nat.lt_pow_self (n := m) (show 1 < p by omega); have := h.q; omega
/-- the error of a code -/
noncomputable def cck (P M : Int) (mf : LI) (N : Int) (X : LL) : Int := if ck P M mf ≠ 0 then ck P M mf else if 1 <= N /\ N <= 64 then sck P M mf N X else 4
theorem Jd4 {n : Int} {Q : Bool -> Prop} (h : Q (decide (1 <= n /\ n <= 64))) : YF n Q := by
 refine ⟨fun h1 => ?_, fun h1 => ?_⟩
 .have e : decide (1 <= n /\ n <= 64) = decide (n <= 64) := by simp [h1]
  rw [<- e]; exact h
 .have e : decide (1 <= n /\ n <= 64) = false := by simp [h1]
  rw [<- e]; exact h
theorem Jtc {Q : Int -> Prop} (h : Q (cck P M mf N X)) : Jci P M mf N X Q := by
 unfold cck at h; refine Jgt ⟨fun h0 => ?_, fun h0 => Jd4 ⟨fun h1 => ?_, fun h1 => ⟨_, Js5 rfl, ?_⟩⟩⟩
 .rw [if_pos h0] at h; exact h
 .rw [if_neg h0, if_neg (fun hh => by rw [decide_eq_true hh] at h1; cases h1)] at h; exact h
 .rw [if_neg h0, if_pos (of_decide_eq_true (by simpa using h1))] at h; exact h
theorem Jpo {Q : Int -> Prop} (h : Q (cck P M mf N X)) : Jah P M mf N X Q := by
 unfold cck at h; refine Jea ⟨fun h0 => ?_, fun h0 => ⟨fun h1 => ?_, fun h1 => ⟨fun h2 => ?_, fun h2 => Jpl ?_⟩⟩⟩
 .rw [if_pos h0] at h; exact h
 .rw [if_neg h0, if_neg (by omega)] at h; exact h
 .rw [if_neg h0, if_neg (by omega)] at h; exact h
 .rw [if_neg h0, if_pos (by omega)] at h; exact h
theorem Ju5 {q : Nat -> Nat} (G : Sg P M mf p m v N X q) (h1 : 1 <= N) (h2 : N <= 64) : cck P M mf N X = 0 := by
 unfold cck; rw [if_neg (by rw [Jbz ⟨p, m, v, G.f⟩]; simp), if_pos ⟨h1, h2⟩, G.sck]
theorem Jik {mm : LL} {e : Int} {Q : Option LI × Int -> Prop} (he : e ≠ 0) (h : Q (none, e)) : Jbc P M mf C mm e Q := ⟨fun _ => h, fun hh => absurd he hh⟩
theorem Jil {mm : LL} {Q : Option LI × Int -> Prop} (hm : mf.length <= 1000) (h : Q (some mf, 0)) : Jbc P M mf C mm 0 Q := ⟨fun hh => absurd rfl hh, fun _ => Jbm (by omega) h⟩
/-- the error of New -/
noncomputable def nck (P M : Int) (mf : LI) (C : Int) (X : LL) : Int := if mck P M mf C X ≠ 0 then mck P M mf C X else if 1 <= C /\ C <= 64 then 0 else 4
theorem w_cNew {Q : Int × Int × LI × Int × LL × Int -> Prop} (h0 : nck P M mf C X ≠ 0 -> Q (0, 0, [], 0, [], nck P M mf C X))
  (h : ∀ p m v, FV P M mf p m v -> shp C X -> Els p m X -> 1 <= C /\ C <= 64 -> Q (P, M, mf, C, QA p m v C X, 0)) : Jh9 P M mf C X Q := by
 unfold nck at h0; refine Jio (fun hb => ⟨fun hh => absurd hh hb, fun _ => Jik hb ?_⟩) fun p m v hF hs he hz => ⟨fun _ => Jd4 ?_, fun hh => absurd rfl hh⟩
 .rw [if_pos hb] at h0; exact h0 hb
 .rw [if_neg (fun hh => hh hz)] at h0; by_cases h1 : 1 <= C /\ C <= 64
  .refine ⟨fun z => z = 0, ⟨fun hh => by simp [h1] at hh, fun _ => rfl⟩, ?_⟩; rintro _ rfl; exact Jil hF.mlen (h p m v hF hs he h1)
  .refine ⟨fun z => z = 4, ⟨fun _ => rfl, fun hh => by simp [h1] at hh⟩, ?_⟩; rintro _ rfl; rw [if_neg h1] at h0; exact Jik (by decide) (h0 (by decide))
theorem Jpn {Q : Int × Int × LI -> Prop} (hm : mf.length <= 1000) (h : Q (P, M, mf)) : Jag P M mf Q := ⟨by omega, h⟩
theorem Jij {Q : Int × Int × LI × Int × LL -> Prop} (hF : FV P M mf p m v) (hs : shp C X) (he : Els p m X) (h : Q (P, M, mf, C, QA p m v C X)) : ZZ P M mf X C Q :=
 Jbj hF hs he (Jpn hF.mlen h)
theorem Jnx {Q : Int × Int × LI × Int × LL × Int -> Prop} {q : Nat -> Nat} (G : Sg P M mf p m v N X q) (h1 : 1 <= N /\ N <= 64) (h : Q (P, M, mf, N, nul p m v N X, 0)) : Jam P M mf N X Q := by
 refine Jtc ?_; rw [Ju5 G h1.1 h1.2]; refine ⟨fun hh => absurd rfl hh, fun _ => ⟨fun a b e => a = N /\ b = nul p m v N X /\ e = 0, ⟨_, _, _, w_Kern G.f G.s G.e rfl, rfl, rfl, rfl⟩, ?_⟩⟩; rintro _ _ _ ⟨rfl, rfl, rfl⟩; exact Jil G.f.mlen h
theorem Js8 {P' M' : Int} {mg : LI} {Q : Bool -> Prop} (hl : mf.length <= 1000000) (h1 : P = P' -> M = M' -> mf = mg -> Q true) (h2 : ¬ (P = P' /\ M = M' /\ mf = mg) -> Q false) : Jcb P M mf P' M' mg Q := by
 refine ⟨fun h => h2 fun e => h e.1, fun hP => ⟨fun h => h2 fun e => h e.2.1, fun hM => ⟨fun h => h2 fun e => h (by rw [e.2.2]), fun hL => ?_⟩⟩⟩; have hP := Classical.not_not.1 hP; have hM := Classical.not_not.1 hM; have hL : mf.length = mg.length := by have := Classical.not_not.1 hL; omega
 refine ⟨fun z => ∃ t : Nat, z = t /\ t <= mf.length /\ ∀ j, j < t -> vo mf j = vo mg j, fun z => (mf.length - z).toNat, ⟨0, rfl, Nat.zero_le _, fun j hj => absurd hj (Nat.not_lt_zero j)⟩, ?_⟩; rintro _ ⟨t, rfl, ht, hj⟩; dsimp only; refine ⟨fun hlt => ⟨⟨by omega, by omega⟩, ⟨by omega, by omega⟩, fun hne => h2 fun e => hne (by rw [e.2.2]), fun heq => ⟨Js (by omega) (by omega), ⟨t + 1, by push_cast; rfl, by omega, fun j hj' => ?_⟩, by omega⟩⟩, fun hge => h1 hP hM ?_⟩
 .rcases Nat.lt_or_ge j t with h | h
  .exact hj j h
  .have : j = t := by omega
   subst this; exact Classical.not_not.1 heq
 .refine List.ext_getElem hL fun i i1 i2 => ?_; have := hj i (by omega); unfold vo at this
  rwa [List.getD_eq_getElem?_getD, List.getElem?_eq_getElem i1, List.getD_eq_getElem?_getD, List.getElem?_eq_getElem i2] at this
/-- a code compared with itself -/
theorem YO {Q : Bool -> Prop} (hm : mf.length <= 1000000) (hX : X.length <= 1000000) (hr : ∀ t, t < X.length -> (row X t).length <= 1000000) (h : Q true) : YB P M mf N X P M mf N X Q :=
  Js8 hm (fun _ _ _ => ⟨fun _ => ⟨fun _ => Jbh hX hr (fun _ => h) (fun hh => absurd rfl hh), fun hh => absurd rfl hh⟩, fun hh => by cases hh⟩) (fun hh => absurd ⟨rfl, rfl, rfl⟩ hh)
theorem Jfj {Q : Bool -> Prop} (h : Q true) : YB 0 0 [] 0 [] 0 0 [] 0 [] Q := YO (by simp) (by simp) (fun t ht => absurd ht (Nat.not_lt_zero t)) h
theorem Jar {e : Int} {Q : Bool -> Prop} (hm : mf.length <= 1000000) (hX : X.length <= 1000000) (hr : ∀ t, t < X.length -> (row X t).length <= 1000000) (h : Q true) : Yu P M mf N X e P M mf N X e Q :=
 ⟨fun _ => YO hm hX hr h, fun hh => absurd rfl hh⟩
theorem Jaq {e : Int} {Q : Bool -> Prop} (h : Q true) : Yu 0 0 [] 0 [] e 0 0 [] 0 [] e Q := ⟨fun _ => Jfj h, fun hh => absurd rfl hh⟩
theorem Jiy (hs : shp C X) : X.length <= 1000000 /\ ∀ t, t < X.length -> (row X t).length <= 1000000 :=
 ⟨by have := Jgw hs; omega, fun t ht => by rw [Z4 hs ht]; have := shp_C hs; omega⟩
end
end Go.Proofs.YtjgpkljepgcekaaGreat
namespace Go.Proofs.YtjgpkljepgcekaaGreat
/-! ### monomials, lists compared -/
section
/-- the mask of the first i variables -/
def msk (l : LI) (i : Nat) : Nat := (l.take i).foldl (fun a v => a ||| 2 ^ v.toNat) 0
theorem Jjk {l : LI} {i : Nat} (h : i < l.length) : msk l (i + 1) = msk l i ||| 2 ^ (vo l i).toNat := by
 unfold msk vo; rw [List.take_add_one, List.foldl_append, List.getElem?_eq_getElem h, List.getD_eq_getElem?_getD, List.getElem?_eq_getElem h]; rfl
theorem Jll {l : LI} {m : Nat} : ∀ i, i <= l.length -> (∀ j, j < i -> 0 <= vo l j /\ vo l j < (m : Int)) -> msk l i < 2 ^ m
 | 0, _, _ => by simp only [msk, List.take_zero, List.foldl_nil]; exact Nat.pos_of_ne_zero (by simp)
 | i + 1, hi, h => by
  rw [Jjk (by omega)]; have := h i (by omega); refine Nat.or_lt_two_pow (Jll i (by omega) fun j hj => h j (by omega)) ?_; exact Nat.pow_lt_pow_right (by omega) (by omega)
/-- the values of a monomial at all points -/
def evl (m : Nat) (l : LI) : LI := (List.range (2 ^ m)).map fun x => if x &&& msk l l.length = msk l l.length then 1 else 0
theorem Jjm {x : Nat} (h : x <= 6) : QN 1 (x : Int) = ((2 ^ x : Nat) : Int) := by
 unfold QN; rw [Int.toNat_natCast, show min x IntKind.i64.bits = x from Nat.min_eq_left (by show x <= 64; omega)]; simp
theorem pow6 {x : Nat} (h : x <= 6) : 1 <= 2 ^ x /\ 2 ^ x <= 64 := ⟨Nat.one_le_two_pow, Nat.pow_le_pow_right (by omega) h⟩
theorem Jim {m : Nat} {l : LI} {Q : LI -> Prop} (hm : m <= 6) (hl : l.length <= 1000000) (hv : ∀ j, j < l.length -> 0 <= vo l j /\ vo l j < (m : Int)) (h : Q (evl m l)) : YL (m : Int) l Q := by
 refine ⟨fun x z => ∃ i : Nat, z = i /\ i <= l.length /\ x = ((msk l i : Nat) : Int), fun _ z => (l.length - z).toNat, ⟨0, rfl, Nat.zero_le _, rfl⟩, ?_⟩; rintro _ _ ⟨i, rfl, hi, rfl⟩; dsimp only; have hp := pow6 hm; refine ⟨fun hlt => ?_, fun hge => ?_⟩
 .have hb := hv i (by omega); obtain ⟨y, hy⟩ := Int.eq_ofNat_of_zero_le hb.1; have hg : gi l (i : Int) = (y : Int) := hy; have hy6 : y <= 6 := by omega
  have hp2 := pow6 hy6; have hk := Jll (m := m) i hi fun j hj => hv j (by omega); rw [hg, Jjm hy6]; refine ⟨⟨by omega, by omega⟩, ⟨by omega, Js (by omega) (by omega)⟩, ⟨by omega, by omega, by omega, by omega⟩, Js (by omega) (by omega), ⟨i + 1, by push_cast; rfl, by omega, ?_⟩, by omega⟩; rw [Jjk (by omega), hy]; simp only [ior, Int.toNat_natCast]
 obtain rfl : i = l.length := by omega
 have hk := Jll (m := m) l.length (Nat.le_refl _) hv; rw [Jjm hm]; refine ⟨⟨by omega, Js (by omega) (by omega)⟩, ⟨by omega, by omega, by omega⟩, fun x z => ∃ k : Nat, z = k /\ k <= 2 ^ m /\ x.length = 2 ^ m /\ ∀ j, j < 2 ^ m -> vo x j = if j < k /\ j &&& msk l l.length = msk l l.length then 1 else 0, fun _ z => ((2 ^ m : Nat) - z).toNat, ⟨0, rfl, Nat.zero_le _, by rw [List.length_replicate, Int.toNat_natCast], fun j hj => ?_⟩, ?_⟩
 .rw [if_neg (by omega)]; unfold vo; rw [List.getD_eq_getElem?_getD, List.getElem?_replicate]; split <;> rfl
 rintro x _ ⟨k, rfl, hk2, hx, hx2⟩; dsimp only; refine ⟨fun hlt => ?_, fun hge => ?_⟩
 .refine ⟨fun y => y.length = 2 ^ m /\ ∀ j, j < 2 ^ m -> vo y j = if j < k + 1 /\ j &&& msk l l.length = msk l l.length then 1 else 0, ⟨⟨by omega, by omega, by omega, by omega⟩, fun he => ⟨⟨by omega, by omega⟩, ?_, fun j hj => ?_⟩, fun hne => ⟨hx, fun j hj => ?_⟩⟩, ?_⟩
  .rw [Qa, List.length_set]; exact hx
  .have he' : k &&& msk l l.length = msk l l.length := by
    simp only [Jlq, Int.toNat_natCast] at he; omega
   rw [Qa, J5, hx2 j hj]; by_cases e : k = j
   .subst e; rw [if_pos ⟨rfl, by omega⟩, if_pos ⟨by omega, he'⟩]
   .rw [if_neg (fun hh => e hh.1)]; by_cases e2 : j &&& msk l l.length = msk l l.length
    .by_cases e3 : j < k
     .rw [if_pos ⟨e3, e2⟩, if_pos ⟨by omega, e2⟩]
     .rw [if_neg (fun hh => e3 hh.1), if_neg (fun hh => by omega)]
    .rw [if_neg (fun hh => e2 hh.2), if_neg (fun hh => e2 hh.2)]
  .have hne' : ¬ k &&& msk l l.length = msk l l.length := fun e => hne (by simp only [Jlq, Int.toNat_natCast]; omega); rw [hx2 j hj]; by_cases e2 : j &&& msk l l.length = msk l l.length
   .have : j ≠ k := fun e => hne' (e ▸ e2); by_cases e3 : j < k
    .rw [if_pos ⟨e3, e2⟩, if_pos ⟨by omega, e2⟩]
    .rw [if_neg (fun hh => e3 hh.1), if_neg (fun hh => by omega)]
   .rw [if_neg (fun hh => e2 hh.2), if_neg (fun hh => e2 hh.2)]
  .rintro y ⟨h1, h2⟩; exact ⟨Js (by omega) (by omega), ⟨k + 1, by push_cast; rfl, by omega, h1, h2⟩, by omega⟩
 have hk3 : k = 2 ^ m := by omega
 subst hk3; have e : x = evl m l := by
  refine List.ext_getElem (by simp [evl, hx]) fun j h1 h2 => ?_; have := hx2 j (by omega); unfold vo at this; rw [List.getD_eq_getElem?_getD, List.getElem?_eq_getElem h1] at this; simp only [Option.getD_some] at this; rw [this]; simp only [evl, List.getElem_map, List.getElem_range]; by_cases e2 : j &&& msk l l.length = msk l l.length
  .rw [if_pos ⟨by omega, e2⟩, if_pos e2]
  .rw [if_neg (fun hh => e2 hh.2), if_neg e2]
 rw [e]; exact h
theorem Jkr {m : Int} {l : LI} {Q : LI × Int -> Prop} (h6 : ¬ (0 <= m /\ m <= 6) -> Q ([], 6)) (h5 : 0 <= m /\ m <= 6 -> ¬ Asc m.toNat l -> Q ([], 5)) (h0 : 0 <= m /\ m <= 6 -> Asc m.toNat l -> Q (evl m.toNat l, 0)) : ZC m l Q := by
 refine ⟨fun hh => h6 (by omega), fun h1 => ⟨fun hh => h6 (by omega), fun h2 => ?_⟩⟩; obtain ⟨n, rfl⟩ := Int.eq_ofNat_of_zero_le (show 0 <= m by omega); have hn : n <= 6 := by omega
 rw [Int.toNat_natCast] at h5 h0; have h5 := h5 ⟨by omega, by omega⟩; have h0 := h0 ⟨by omega, by omega⟩; refine ⟨fun z t => ∃ i : Nat, t = i /\ i <= l.length /\ (i : Int) <= z + 1 /\ z < (n : Int) /\ (∀ j, j < i -> 0 <= vo l j /\ vo l j <= z) /\ (∀ a b, a < b -> b < i -> vo l a < vo l b) /\ (0 < i -> z = vo l (i - 1)) /\ -1 <= z /\ (i = 0 -> z = -1), fun _ t => (l.length - t).toNat, ⟨0, rfl, Nat.zero_le _, by omega, by omega, fun j hj => absurd hj (Nat.not_lt_zero _), fun a b _ hb => absurd hb (Nat.not_lt_zero _), fun hh => absurd hh (Nat.lt_irrefl 0), by omega, fun _ => rfl⟩, ?_⟩; rintro z _ ⟨i, rfl, hi, hiz, hzn, ha, hb, hc, hz1, hz0⟩; dsimp only; refine ⟨fun hlt => ⟨⟨by omega, by omega⟩, fun hle => h5 fun hA => ?_, fun hgt => ⟨fun hge => h5 fun hA => ?_, fun hlt2 => ⟨Js (by omega) (by omega), ⟨i + 1, by push_cast; rfl, by omega, ?_, ?_, fun j hj => ?_, fun a b hab hbi => ?_, fun _ => rfl, ?_, fun hh => absurd hh (Nat.succ_ne_zero _)⟩, by omega⟩⟩⟩, fun hge => ?_⟩
 .have hle' : vo l i <= z := hle; have := hA.1 i (by omega); rcases Nat.eq_zero_or_pos i with e | e
  .have := hz0 e; omega
  .have h1 := hc e; have := hA.2 (i - 1) i (by omega) (by omega); omega
 .have hge' : (n : Int) <= vo l i := hge; have := hA.1 i (by omega); omega
 .have hgt' : ¬ vo l i <= z := hgt; show ((i + 1 : Nat) : Int) <= vo l i + 1; omega
 .have hlt' : ¬ (n : Int) <= vo l i := hlt2; show vo l i < (n : Int)
  omega
 .have hgt' : ¬ vo l i <= z := hgt; show 0 <= vo l j /\ vo l j <= vo l i; rcases Nat.lt_or_ge j i with e | e
  .have := ha j e; omega
  .obtain rfl : j = i := by omega
   omega
 .have hgt' : ¬ vo l i <= z := hgt; rcases Nat.lt_or_ge b i with e | e
  .exact hb a b hab e
  .obtain rfl : b = i := by omega
   have := ha a hab; omega
 .have hgt' : ¬ vo l i <= z := hgt; show -1 <= vo l i; omega
 obtain rfl : i = l.length := by omega
 exact Jim hn (by omega) (fun j hj => by have := ha j hj; omega) (h0 ⟨fun j hj => by have := ha j hj; omega, hb⟩)
theorem asc01 : Asc (2 : Int).toNat [0, 1] := by
 refine ⟨fun i hi => ?_, fun i j hij hj => ?_⟩
 .match i, hi with
  | 0, _ => exact ⟨by decide, by decide⟩
  | 1, _ => exact ⟨by decide, by decide⟩
 .have hj' : j < 2 := hj; obtain rfl : j = 1 := by omega
  obtain rfl : i = 0 := by omega
  decide
theorem Jfz {Q : Bool -> Prop} (h : Q true) : Zf Q := by
 refine Jkr (fun hh => absurd ⟨by decide, by decide⟩ hh) (fun _ hh => absurd asc01 hh) fun _ _ => ?_; have e : evl (2 : Int).toNat [0, 1] = [0, 0, 0, 1] := by decide
 rw [e]; exact ⟨fun _ => ⟨fun _ => ⟨⟨by decide, by decide⟩, fun _ => ⟨⟨by decide, by decide⟩, fun _ => ⟨⟨by decide, by decide⟩, fun _ => ⟨⟨by decide, by decide⟩, h⟩, fun hh => absurd rfl hh⟩, fun hh => absurd rfl hh⟩, fun hh => absurd rfl hh⟩, fun hh => absurd rfl hh⟩, fun hh => absurd rfl hh⟩
end
end Go.Proofs.YtjgpkljepgcekaaGreat
namespace Go.Proofs.YtjgpkljepgcekaaGreat
/-! ### repetition and parity codes -/
section
variable {P M : Int} {mf : LI} {p m v : Nat} {N C n : Int} {X Y : LL}
theorem Js7 {Q : Int × Int × LI × Int × LL × Int -> Prop} {q : Nat -> Nat} (G : Sg P M mf p m v N X q) (h1 : 1 <= N /\ N <= 64) (h : Q (P, M, mf, N, nul p m v N X, 0)) : Jca P M mf N X Q := by
 refine Jpo ?_; rw [Ju5 G h1.1 h1.2]; refine ⟨fun hh => absurd rfl hh, fun _ => ⟨_, Jwh G.f G.s G.e rfl, ?_⟩⟩; refine Jij G.f (ZU (Y7 G.s)) (Jb1 G.f (ZY G.f)) ?_; have e := (Jxp G.f (Y7 (p := p) (m := m) (v := v) G.s) (ZY G.f)).1; show Q (P, M, mf, N, QA p m v N (QA p m v N (Jft p m v N X)), 0); rw [e]; exact h
theorem Jk0 (hF : FV P M mf p m v) (hs : shp C X) (he : Els p m X) : ∃ q, Sg P M mf p m v C (QA p m v C X) q :=
 ⟨_, hF, ZU hs, Jb1 hF he, Jhx hF hs he⟩
def Jfo (n : Nat) : LI := List.replicate n 1
theorem ZK {k : Nat} (h : k <= 64) : shp (k : Int) [Jfo k] := ⟨by omega, by omega, by simp, fun r hr => by rcases List.mem_singleton.1 hr with rfl; simp [Jfo]⟩
theorem ZL (hF : FV P M mf p m v) (k : Nat) : Els p m [Jfo k] := fun r hr x hx => by
 rcases List.mem_singleton.1 hr with rfl; have := hF.ring.q2; rcases List.mem_replicate.1 hx with ⟨_, rfl⟩; exact ⟨by decide, by show (1 : Int) < _; omega⟩
/-- the list that is filled with Jfo -/
def onI (k : Nat) (x : LI) (z : Int) : Prop := ∃ t : Nat, z = t /\ t <= k /\ x.length = k /\ ∀ j, j < t -> vo x j = 1
theorem onI_0 (k : Nat) : onI k (List.replicate k 0) 0 := ⟨0, rfl, Nat.zero_le _, by simp, fun j hj => absurd hj (Nat.not_lt_zero _)⟩
theorem onI_s {k : Nat} {x : LI} {z : Int} (hk : k <= 64) (h : onI k x z) (hz : z < (k : Nat)) : (0 <= z /\ z < (k : Nat)) /\ I64 (z + 1) /\ onI k (si x z 1) (z + 1) := by
 obtain ⟨t, rfl, ht, hl, hj⟩ := h; refine ⟨⟨by omega, by omega⟩, Js (by omega) (by omega), t + 1, by push_cast; rfl, by omega, by rw [Qa, List.length_set]; exact hl, fun j h => ?_⟩; rw [Qa, J5]; by_cases e : t = j
 .rw [if_pos ⟨e, by omega⟩]
 .rw [if_neg (fun hh => e hh.1)]; exact hj j (by omega)
theorem onI_e {k : Nat} {x : LI} {z : Int} (h : onI k x z) (hz : ¬ z < (k : Nat)) : x = Jfo k := by
 obtain ⟨t, rfl, ht, hl, hj⟩ := h; refine List.ext_getElem (by rw [hl]; simp [Jfo]) fun j h1 h2 => ?_; have := hj j (by omega); unfold vo at this; rw [List.getD_eq_getElem?_getD, List.getElem?_eq_getElem h1] at this
 simpa [Jfo] using this
theorem Jbk {Q : Int × Int × LI × Int × LL × Int -> Prop} (h1 : ¬ Qt P M mf -> Q (0, 0, [], 0, [], 1)) (h4 : Qt P M mf -> ¬ (1 <= n /\ n <= 64) -> Q (0, 0, [], 0, [], 4))
  (h : ∀ p m v, FV P M mf p m v -> 1 <= n /\ n <= 64 -> Q (P, M, mf, n, QA p m v n [Jfo n.toNat], 0)) : Ye P M mf n Q := by
 refine Jgt ?_; by_cases hV : Qt P M mf
 .rw [Jbz hV]; refine ⟨fun hh => absurd rfl hh, fun _ => ⟨fun hh => h4 hV (by omega), fun h5 => ⟨fun hh => h4 hV (by omega), fun h6 => ⟨⟨by omega, by omega, by omega⟩, fun x z => onI n.toNat x z, fun _ z => (n - z).toNat, onI_0 _, ?_⟩⟩⟩⟩; intro x z hI; refine ⟨fun hlt => ?_, fun hge => ?_⟩
  .obtain ⟨a, b, c⟩ := onI_s (by omega) hI hlt; exact ⟨a, b, c, by dsimp only; omega⟩
  .rw [onI_e hI hge]; obtain ⟨k, rfl⟩ := Int.eq_ofNat_of_zero_le (show 0 <= n by omega); rw [Int.toNat_natCast] at *
   obtain ⟨p, m, v, hF⟩ := hV; have hs := ZK (k := k) (by omega); have he := ZL hF k; refine w_cNew (fun hh => ?_) fun p' m' v' hF' _ _ _ => ?_
   .unfold nck at hh; rw [Jev ⟨p, m, v, hF⟩ hs ((Ys hF).2 he), if_neg (fun h => h rfl), if_pos (by omega)] at hh; exact absurd rfl hh
   .have := h p' m' v' hF' (by omega); exact this
 .rw [Q8 hV]; exact ⟨fun _ => h1 hV, fun hh => absurd (by decide) hh⟩
theorem Yh {Q : Int × Int × LI × Int × LL × Int -> Prop} (h1 : ¬ Qt P M mf -> Q (0, 0, [], 0, [], 1)) (h4 : Qt P M mf -> ¬ (1 <= n /\ n <= 64) -> Q (0, 0, [], 0, [], 4))
  (h : ∀ p m v, FV P M mf p m v -> 1 <= n /\ n <= 64 -> Q (P, M, mf, n, QA p m v n [Jfo n.toNat], 0)) : QQ P M mf n Q := by
 refine Jea ?_; by_cases hV : Qt P M mf
 .rw [Jbz hV]; refine ⟨fun hh => absurd rfl hh, fun _ => ⟨fun hh => h4 hV (by omega), fun h5 => ⟨fun hh => h4 hV (by omega), fun h6 => ⟨⟨by omega, by omega, by omega⟩, fun x z => onI n.toNat x z, fun _ z => (n - z).toNat, onI_0 _, ?_⟩⟩⟩⟩; intro x z hI; refine ⟨fun hlt => ?_, fun hge => ?_⟩
  .obtain ⟨a, b, c⟩ := onI_s (by omega) hI (by omega); exact ⟨a, b, c, by dsimp only; omega⟩
  .rw [onI_e hI (by omega)]; obtain ⟨k, rfl⟩ := Int.eq_ofNat_of_zero_le (show 0 <= n by omega); rw [Int.toNat_natCast] at *
   obtain ⟨p, m, v, hF⟩ := hV; exact Jij hF (ZK (by omega)) (ZL hF k) (h p m v hF (by omega))
 .rw [Q8 hV]; exact ⟨fun _ => h1 hV, fun hh => absurd (by decide) hh⟩
theorem Jd5 {Q : Int × Int × LI × Int × LL × Int -> Prop} (h1 : ¬ Qt P M mf -> Q (0, 0, [], 0, [], 1)) (h4 : Qt P M mf -> ¬ (1 <= n /\ n <= 64) -> Q (0, 0, [], 0, [], 4))
  (h : ∀ p m v, FV P M mf p m v -> 1 <= n /\ n <= 64 -> Q (P, M, mf, n, nul p m v n (QA p m v n [Jfo n.toNat]), 0)) : Jcj P M mf n Q := by
 refine Jbk (fun hn => ⟨fun _ => h1 hn, fun hh => absurd (by decide) hh⟩) (fun hV h5 => ⟨fun _ => h4 hV h5, fun hh => absurd (by decide) hh⟩) fun p m v hF h5 => ⟨fun hh => absurd rfl hh, fun _ => ?_⟩
 have h := h p m v hF h5; obtain ⟨k, rfl⟩ := Int.eq_ofNat_of_zero_le (show 0 <= n by omega); rw [Int.toNat_natCast] at *
 obtain ⟨q, G⟩ := Jk0 hF (ZK (k := k) (by omega)) (ZL hF k); exact Jnx G h5 h
theorem Jcl {Q : Int × Int × LI × Int × LL × Int -> Prop} (h1 : ¬ Qt P M mf -> Q (0, 0, [], 0, [], 1)) (h4 : Qt P M mf -> ¬ (1 <= n /\ n <= 64) -> Q (0, 0, [], 0, [], 4))
  (h : ∀ p m v, FV P M mf p m v -> 1 <= n /\ n <= 64 -> Q (P, M, mf, n, nul p m v n (QA p m v n [Jfo n.toNat]), 0)) : Jai P M mf n Q := by
 refine Yh (fun hn => ⟨fun _ => h1 hn, fun hh => absurd (by decide) hh⟩) (fun hV h5 => ⟨fun _ => h4 hV h5, fun hh => absurd (by decide) hh⟩) fun p m v hF h5 => ⟨fun hh => absurd rfl hh, fun _ => ?_⟩
 have h := h p m v hF h5; obtain ⟨k, rfl⟩ := Int.eq_ofNat_of_zero_le (show 0 <= n by omega); rw [Int.toNat_natCast] at *
 obtain ⟨q, G⟩ := Jk0 hF (ZK (k := k) (by omega)) (ZL hF k); exact Js7 G h5 h
theorem ZE (P M : Int) (mf : LI) (n : Int) : YX P M mf n (fun b => b = true) := by
 have zz : ∀ e : Int, e ≠ 0 -> Yu 0 0 [] 0 [] e 0 0 [] 0 [] e (fun r82 => (((!r82) = true) -> false = true) /\ ((!r82) = false -> (Yu 0 0 [] 0 [] e 0 0 [] 0 [] e (fun r85 => (((!r85) = true) -> false = true) /\ ((!r85) = false -> (∃ J87 : Prop, (((e = (0 : Int)) -> (Jam 0 0 [] 0 [] (fun q => match q with | (r90, r91, x92, c93, x94, r95) => ((r95 ≠ (0 : Int)) -> false = true) /\ (¬ (r95 ≠ (0 : Int)) -> (YB r90 r91 x92 c93 x94 0 0 [] 0 [] (fun r108 => (((!r108) = true) -> false = true) /\ ((!r108) = false -> J87))))))) /\ (¬ (e = (0 : Int)) -> J87)) /\ (J87 -> (Zf  (fun r112 => r112 = true))))))))) :=
  fun e he => Jaq ⟨(fun hh => by cases hh), fun _ => Jaq ⟨(fun hh => by cases hh), fun _ => ⟨True, ⟨fun hh => absurd hh he, fun _ => trivial⟩, fun _ => Jfz rfl⟩⟩⟩
 refine Jbk (fun hn => ?_) (fun hV h5 => ?_) fun p m v hF h5 => ?_
 .exact Yh (fun _ => Jd5 (fun _ => Jcl (fun _ => zz 1 (by decide)) (fun hV => absurd hV hn) fun p m v hF => absurd ⟨p, m, v, hF⟩ hn) (fun hV => absurd hV hn) fun p m v hF => absurd ⟨p, m, v, hF⟩ hn) (fun hV => absurd hV hn) fun p m v hF => absurd ⟨p, m, v, hF⟩ hn
 .exact Yh (fun hn => absurd hV hn) (fun _ _ => Jd5 (fun hn => absurd hV hn) (fun _ _ => Jcl (fun hn => absurd hV hn) (fun _ _ => zz 4 (by decide)) fun p m v hF h6 => absurd h6 h5) fun p m v hF h6 => absurd h6 h5) fun p m v hF h6 => absurd h6 h5
 .have hV : Qt P M mf := ⟨p, m, v, hF⟩
  refine Yh (fun hn => absurd hV hn) (fun _ h6 => absurd h5 h6) fun p' m' v' hF' _ => Jd5 (fun hn => absurd hV hn) (fun _ h6 => absurd h5 h6) fun p2 m2 v2 hF2 _ => Jcl (fun hn => absurd hV hn) (fun _ h6 => absurd h5 h6) fun p3 m3 v3 hF3 _ => ?_; obtain ⟨rfl, rfl, rfl⟩ := hF.uniq3 hF'; obtain ⟨rfl, rfl, rfl⟩ := hF.uniq3 hF2; obtain ⟨rfl, rfl, rfl⟩ := hF.uniq3 hF3; obtain ⟨k, rfl⟩ := Int.eq_ofNat_of_zero_le (show 0 <= n by omega); rw [Int.toNat_natCast] at *
  have hs := ZK (k := k) (by omega); obtain ⟨q, G⟩ := Jk0 hF hs (ZL hF k); have hm := hF.mlen; have l1 := Jiy G.s; have l2 := Jiy (nul_sg (p := p) (m := m) (v := v) hF G.s).s; exact Jar (by omega) l1.1 l1.2 ⟨(fun hh => by cases hh), fun _ => Jar (by omega) l2.1 l2.2 ⟨(fun hh => by cases hh), fun _ => ⟨True, ⟨fun _ => Jnx G h5 ⟨fun hh => absurd rfl hh, fun _ => YO (by omega) l2.1 l2.2 ⟨(fun hh => by cases hh), fun _ => trivial⟩⟩, fun hh => absurd rfl hh⟩, fun _ => Jfz rfl⟩⟩⟩
end
end Go.Proofs.YtjgpkljepgcekaaGreat
