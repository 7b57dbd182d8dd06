/- Contracts of functions of the program, and what they lean on: M4, M5, M6, M7, M8, M9, M10, M11, M12, M13. -/
import Derived.Test.YtiboieijhehjnaaMatrixReducedG10
set_option linter.unusedVariables false
set_option linter.unusedSimpArgs false
namespace Go.Proofs.Ytiboieijhehjnaa
section
variable {F : GFv} {p m v g : Nat} {P M : Int} {mf : List Int} {X Y : List (List Int)} {C : Int}
def ElsV (P M : Int) (mf : List Int) (X : List (List Int)) : Prop := ∃ p m v, FV P M mf p m v ∧ Els p m X
open Classical in
noncomputable def mck (P M : Int) (mf : List Int) (C : Int) (X : List (List Int)) : Int := if ¬ Valid P M mf then 1 else if ¬ shp C X then 3 else if ¬ ElsV P M mf X then 2 else 0
theorem FV.uniq {p' m' v' : Nat} (h : FV P M mf p m v) (h' : FV P M mf p' m' v') : p = p' ∧ m = m' := ⟨by have := h.eP; have := h'.eP; omega, by have := h.eM; have := h'.eM; omega⟩
theorem elsV_iff (h : FV P M mf p m v) : ElsV P M mf X ↔ Els p m X := ⟨fun ⟨p', m', v', h1, h2⟩ => by obtain ⟨rfl, rfl⟩ := h.uniq h1; exact h2, fun h2 => ⟨p, m, v, h, h2⟩⟩
theorem mck_no (h : ¬ Valid P M mf) : mck P M mf C X = 1 := if_pos h
theorem mck_shp (h : Valid P M mf) (hs : ¬ shp C X) : mck P M mf C X = 3 := by unfold mck; rw [if_neg (fun hh => hh h), if_pos hs]
theorem mck_els (h : Valid P M mf) (hs : shp C X) (he : ¬ ElsV P M mf X) : mck P M mf C X = 2 := by unfold mck; rw [if_neg (fun hh => hh h), if_neg (fun hh => hh hs), if_pos he]
theorem mck_ok (h : Valid P M mf) (hs : shp C X) (he : ElsV P M mf X) : mck P M mf C X = 0 := by unfold mck; rw [if_neg (fun hh => hh h), if_neg (fun hh => hh hs), if_neg (fun hh => hh he)]
theorem mck_zero (h : mck P M mf C X = 0) : Valid P M mf ∧ shp C X ∧ ElsV P M mf X := by
 by_cases h1 : Valid P M mf
 ·by_cases h2 : shp C X
  ·by_cases h3 : ElsV P M mf X
   ·exact ⟨h1, h2, h3⟩
   ·rw [mck_els h1 h2 h3] at h; exact absurd h (by decide)
  ·rw [mck_shp h1 h2] at h; exact absurd h (by decide)
 ·rw [mck_no h1] at h; exact absurd h (by decide)
theorem shp_len (h : shp C X) : X.length ≤ 256 := h.2.2.1
theorem shp_row (h : shp C X) {t : Nat} (ht : t < X.length) : (row X t).length = C.toNat := by
 have := h.2.2.2 _ (row_mem ht); have := h.1; omega
noncomputable def oprM (P M : Int) (mf : List Int) : List Mt → Int
  | [] => 0
  | (C, X) :: ms => if mck P M mf C X = 0 then oprM P M mf ms else mck P M mf C X
theorem w_open {ms : List Mt} {Q : Option GFv × Int → Prop} (hl : ms.length ≤ 1000) (hno : ¬ Valid P M mf → Q (none, 1))
  (h : ∀ (F : GFv) (p m v g : Nat), GFk F p m v g → FV P M mf p m v → oprM P M mf ms = 0 → Q (some F, 0)) (hb : Valid P M mf → oprM P M mf ms ≠ 0 → Q (none, oprM P M mf ms)) : V_open P M mf ms Q := by
 refine v_New (fun hn => ⟨fun h0 => ⟨h0, hno hn⟩, fun h0 => absurd (show (1 : Int) ≠ 0 by decide) h0⟩) fun F p m v g K eP eM emf => ⟨fun h0 => absurd rfl h0, fun _ => ?_⟩
 have hF : FV P M mf p m v := by rw [← eP, ← eM, ← emf]; exact K.fv
 have hV : Valid P M mf := ⟨p, m, v, hF⟩
 refine ⟨fun z => ∃ t : Nat, z = t ∧ t ≤ ms.length ∧ oprM P M mf (ms.drop t) = oprM P M mf ms, fun z => (ms.length - z).toNat, ⟨0, rfl, Nat.zero_le _, rfl⟩, ?_⟩; rintro _ ⟨t, rfl, ht, he⟩; refine ⟨fun hlt => ?_, fun hge => ?_⟩
 ·have htl : t < ms.length := by omega
  have hd : ms.drop t = gm ms t :: ms.drop (t + 1) := by
   rw [List.drop_eq_getElem_cons htl]
   congr 1
   unfold gm; show _ = ms.getD t (0, []); rw [List.getD_eq_getElem?_getD, List.getElem?_eq_getElem htl]; rfl
  rw [hd] at he; generalize gm ms t = mt at *
  obtain ⟨C, X⟩ := mt; simp only [oprM] at he; dsimp only; refine ⟨⟨by omega, by omega⟩, w_isShaped (fun hs => ⟨fun h => absurd h (by decide), fun _ => ?_⟩) (fun hs => ⟨fun _ => ⟨by decide, ?_⟩, fun h => absurd h (by decide)⟩)⟩
  ·refine ⟨fun z => ∃ s : Nat, z = s ∧ s ≤ X.length ∧ ∀ k, k < s → Elr p m (row X k), fun z => (X.length - z).toNat, ⟨0, rfl, Nat.zero_le _, fun k hk => by omega⟩, ?_⟩; rintro _ ⟨s, rfl, hs1, hs2⟩; have hX : X.length ≤ 256 := shp_len hs; dsimp only; refine ⟨fun hlt2 => ⟨⟨by omega, by omega⟩, w_areElements K (by show (row X s).length ≤ _; rw [shp_row hs (by omega)]; have := hs.2.1; omega) (fun hel => ⟨fun h => absurd h (by decide), fun _ => ⟨small (by omega) (by omega), ⟨s + 1, by push_cast; rfl, by omega, fun k hk => ?_⟩, by omega⟩⟩) (fun hel => ⟨fun _ => ⟨by decide, ?_⟩, fun h => absurd h (by decide)⟩)⟩, fun hge2 => ?_⟩
   ·rcases Nat.lt_or_ge k s with h | h
    ·exact hs2 k h
    ·rw [show k = s by omega]; exact hel
   ·have e : mck P M mf C X = 2 := mck_els hV hs fun hv => hel (els_row ((elsV_iff hF).1 hv) s); rw [e, if_neg (by decide)] at he; have := hb hV (by rw [← he]; decide)
    rwa [← he] at this
   ·have e : mck P M mf C X = 0 := mck_ok hV hs ((elsV_iff hF).2 (els_of fun k hk => hs2 k (by omega))); rw [e, if_pos rfl] at he; exact ⟨small (by omega) (by omega), ⟨t + 1, by push_cast; rfl, by omega, he⟩, by omega⟩
  ·have e : mck P M mf C X = 3 := mck_shp hV hs; rw [e, if_neg (by decide)] at he; have := hb hV (by rw [← he]; decide)
   rwa [← he] at this
 ·rw [show t = ms.length by omega, List.drop_length] at he; exact h F p m v g K hF he.symm
theorem oprM_one : oprM P M mf [(C, X)] = mck P M mf C X := by
 simp only [oprM]; split
 ·rename_i h; exact h.symm
 ·rfl
theorem w_open1 {Q : Option GFv × Int → Prop} (hb : mck P M mf C X ≠ 0 → Q (none, mck P M mf C X))
    (h : ∀ (F : GFv) (p m v g : Nat), GFk F p m v g → FV P M mf p m v → shp C X → Els p m X → mck P M mf C X = 0 → Q (some F, 0)) : V_open P M mf [(C, X)] Q := by
  refine w_open (by simp) (fun hn => ?_) (fun F p m v g K hF he => ?_) (fun hV he => ?_)
  · have := hb (by rw [mck_no hn]; decide); rwa [mck_no hn] at this
  · rw [oprM_one] at he
    obtain ⟨_, h2, h3⟩ := mck_zero he
    exact h F p m v g K hF h2 ((elsV_iff hF).1 h3) he
  · rw [oprM_one] at he ⊢; exact hb he
theorem w_mCheck {Q : Int → Prop} (h : Q (mck P M mf C X)) : V_mCheck P M mf C X Q := w_open1 (fun _ _ => h) (fun F p m v g K hF h1 h2 h3 => by show Q 0; rw [← h3]; exact h)
theorem w_rmCheck {Q : Int → Prop} (h : Q (mck P M mf C X)) : V_rmCheck P M mf C X Q := by
 refine v_rCheck ?_; by_cases hV : Valid P M mf
 ·rw [ck_ok hV]; refine ⟨fun h0 => absurd rfl h0, fun _ => ⟨fun h0 => ?_, fun h0 => ⟨fun h1 => ?_, fun h1 => ⟨fun h2 => ?_, fun h2 => ?_⟩⟩⟩⟩
  ·rw [mck_shp hV fun s => by have := s.1; omega] at h; exact h
  ·rw [mck_shp hV fun s => by have := s.2.1; omega] at h; exact h
  ·rw [mck_shp hV fun s => by have := s.2.2.1; omega] at h; exact h
  ·refine ⟨fun z => ∃ t : Nat, z = t ∧ t ≤ X.length ∧ ∀ k, k < t → ((row X k).length : Int) = C, fun z => (X.length - z).toNat, ⟨0, rfl, Nat.zero_le _, fun k hk => by omega⟩, ?_⟩; rintro _ ⟨t, rfl, ht, hk⟩; dsimp only; refine ⟨fun hlt => ⟨⟨by omega, by omega⟩, fun hne => ?_, fun he => ⟨small (by omega) (by omega), ⟨t + 1, by push_cast; rfl, by omega, fun k hk' => ?_⟩, by omega⟩⟩, fun hge => ?_⟩
   ·rw [mck_shp hV fun s => hne (s.2.2.2 _ (row_mem (by omega)))] at h; exact h
   ·rcases Nat.lt_or_ge k t with h | h
    ·exact hk k h
    ·rw [show k = t by omega]; exact Classical.not_not.1 he
   ·have hs : shp C X := ⟨by omega, by omega, by omega, fun r hr => by obtain ⟨s, h3, rfl⟩ := mem_row hr; exact hk s (by omega)⟩
    obtain ⟨p, m, v, hF⟩ := hV; refine ⟨fun r z => r = 0 ∧ ∃ s : Nat, z = s ∧ s ≤ X.length ∧ ∀ k, k < s → Elr p m (row X k), fun _ z => (X.length - z).toNat, ⟨rfl, 0, rfl, Nat.zero_le _, fun k hk => by omega⟩, ?_⟩; rintro _ _ ⟨rfl, s, rfl, hs1, hs2⟩; dsimp only; refine ⟨fun hlt2 => ⟨⟨by omega, by omega⟩, ?_⟩, fun hge2 => ?_⟩
    ·have hrl : (row X s).length ≤ 1000000 := by rw [shp_row hs (by omega)]; have := hs.2.1; omega
     by_cases hel : Elr p m (row X s)
     ·refine ⟨0, w_rEntries hF hrl (fun _ => rfl) (fun h => absurd hel h), fun h0 => absurd rfl h0, fun _ => ⟨small (by omega) (by omega), ⟨rfl, s + 1, by push_cast; rfl, by omega, fun k hk' => ?_⟩, by omega⟩⟩; rcases Nat.lt_or_ge k s with h | h
      ·exact hs2 k h
      ·rw [show k = s by omega]; exact hel
     ·refine ⟨2, w_rEntries hF hrl (fun h => absurd h hel) (fun _ => rfl), fun _ => ?_, fun h0 => absurd (by decide) h0⟩; rw [mck_els ⟨p, m, v, hF⟩ hs fun hv => hel (els_row ((elsV_iff hF).1 hv) s)] at h; exact h
    ·rw [mck_ok ⟨p, m, v, hF⟩ hs ((elsV_iff hF).2 (els_of fun k hk' => hs2 k (by omega)))] at h; exact h
 ·rw [ck_no hV]; rw [mck_no hV] at h; exact ⟨fun _ => h, fun h0 => absurd (by decide) h0⟩
def ec (p m v : Nat) (C : Int) (X : List (List Int)) : ES := elim p m v C.toNat ⟨X, List.replicate X.length [], [], 1⟩
def canX (p m v : Nat) (C : Int) (X : List (List Int)) : List (List Int) := (ec p m v C X).X.take (ec p m v C X).pv.length
def canP (p m v : Nat) (C : Int) (X : List (List Int)) : List Int := (ec p m v C X).pv
theorem row_rep {n t : Nat} {l : List Int} (h : t < n) : row (List.replicate n l) t = l := by
 unfold row; rw [List.getD_eq_getElem?_getD, List.getElem?_replicate, if_pos h]; rfl
theorem shp_S0 (hs : shp C X) {Z : List (List Int)} {wz : Nat} {d : Int} (hZ : Z.length = X.length) (hz : ∀ t, t < X.length → (row Z t).length = wz) : Shp X.length C.toNat wz ⟨X, Z, [], d⟩ := ⟨rfl, fun t ht => shp_row hs ht, hZ, hz, Nat.zero_le _⟩
theorem shp_can (hs : shp C X) : Shp X.length C.toNat 0 ⟨X, List.replicate X.length [], [], 1⟩ := shp_S0 hs (by simp) fun t ht => by rw [row_rep ht]; rfl
theorem shp_le (hs : shp C X) : X.length ≤ 256 ∧ C.toNat ≤ 256 ∧ ((C.toNat : Nat) : Int) = C := ⟨hs.2.2.1, by have := hs.2.1; omega, by have := hs.1; omega⟩
theorem shp_rows (hs : shp C X) : ∀ r ∈ X, r.length ≤ 1000000 := fun r hr => by have := hs.2.2.2 r hr; have := hs.2.1; omega
theorem ec_shp (hs : shp C X) : Shp X.length C.toNat 0 (ec p m v C X) := elim_shp (shp_can hs) _
theorem w_canonical {Q : Int × List (List Int) × List Int → Prop} (K : GFk F p m v g) (hs : shp C X) (h : Q (C, canX p m v C X, canP p m v C X)) : V_canonical F C X Q := by
 obtain ⟨h1, h2, h3⟩ := shp_le hs; refine w_cloneL (by omega) (shp_rows hs) ⟨⟨by omega, by omega, by omega⟩, ?_⟩; show V_eliminate F C X (List.replicate X.length ([] : List Int)) _; rw [← h3]; refine w_eliminate K (by omega) (by omega) (wy := 0) (by omega) (shp_can hs) ?_; rw [h3]; have := (ec_shp (p := p) (m := m) (v := v) hs).pl; exact ⟨⟨by omega, by show ((ec p m v C X).pv.length : Int) ≤ _; omega⟩, h⟩
theorem w_Canonical {Q : Int × List (List Int) × List Int × Int → Prop} (hb : mck P M mf C X ≠ 0 → Q (0, [], [], mck P M mf C X))
  (h : ∀ p m v, FV P M mf p m v → shp C X → Els p m X → mck P M mf C X = 0 → Q (C, canX p m v C X, canP p m v C X, 0)) : V_Canonical P M mf C X Q :=
 w_open1 (fun h0 _ => hb h0) fun F p m v g K hF hs he h0 => w_canonical K hs (h p m v hF hs he h0)
theorem w_Rank {Q : Int × Int → Prop} (hb : mck P M mf C X ≠ 0 → Q (0, mck P M mf C X))
 (h : ∀ p m v, FV P M mf p m v → shp C X → Els p m X → mck P M mf C X = 0 → Q (((canP p m v C X).length : Nat), 0)) : V_Rank P M mf C X Q := w_Canonical hb h
theorem FV.uniq3 {p' m' v' : Nat} (h : FV P M mf p m v) (h' : FV P M mf p' m' v') : p = p' ∧ m = m' ∧ v = v' := by
 obtain ⟨e1, e2⟩ := h.uniq h'; subst e1; subst e2; refine ⟨rfl, rfl, ?_⟩; by_cases hm : m = 1
 ·rw [(h.m1 hm).2, (h'.m1 hm).2]
 ·have e1 := h.m2 hm; have e2 := h'.m2 hm; have hp := h.p2; have h3 : dv p v = dv p v' := by rw [← h.vo, ← h'.vo]
  have h4 := nm_dv (p := p) (m := m) (x := v) (by omega) h.vlt; have h5 := nm_dv (p := p) (m := m) (x := v') (by omega) h'.vlt; rw [← h4, ← h5, h3]
end
end Go.Proofs.Ytiboieijhehjnaa
set_option linter.unusedVariables false
set_option linter.unusedSimpArgs false
namespace Go.Proofs.Ytiboieijhehjnaa
section
variable {p m v : Nat}
def Asc (k : Nat) (l : List Int) : Prop := (∀ i, i < l.length → 0 ≤ vo l i ∧ vo l i < (k : Int)) ∧ ∀ i j, i < j → j < l.length → vo l i < vo l j
theorem vo_app1 {l : List Int} {x : Int} {i : Nat} : vo (l ++ [x]) i = if i < l.length then vo l i else if i = l.length then x else 0 := by
 unfold vo; rw [List.getD_eq_getElem?_getD, List.getD_eq_getElem?_getD, List.getElem?_append]; by_cases h : i < l.length
 ·rw [if_pos h, if_pos h]
 ·rw [if_neg h, if_neg h]; by_cases h2 : i = l.length
  ·subst h2; simp
  ·rw [if_neg h2]; have : i - l.length ≠ 0 := by omega
   cases hh : i - l.length with
   | zero => omega
   | succ n => simp
theorem Asc.snoc {k : Nat} {l : List Int} (h : Asc k l) : Asc (k + 1) (l ++ [(k : Int)]) := by
 refine ⟨fun i hi => ?_, fun i j hij hj => ?_⟩
 ·rw [List.length_append] at hi; rw [vo_app1]; split
  ·rename_i h1; have := h.1 i h1; omega
  ·split
   ·omega
   ·simp at hi; omega
 ·rw [List.length_append] at hj; have hj' : j < l.length + 1 := by simpa using hj
  rw [vo_app1, vo_app1, if_pos (show i < l.length by omega)]; split
  ·rename_i h1; exact h.2 i j hij h1
  ·rw [if_pos (show j = l.length by omega)]; exact (h.1 i (by omega)).2
theorem Asc.up {k : Nat} {l : List Int} (h : Asc k l) : Asc (k + 1) l := ⟨fun i hi => by have := h.1 i hi; omega, h.2⟩
theorem elim_asc {S : ES} (h : S.pv = []) : ∀ k, Asc k (elim p m v k S).pv
 | 0 => by
  show Asc 0 S.pv; rw [h]; exact ⟨fun i hi => absurd hi (Nat.not_lt_zero i), fun i j _ hj => absurd hj (Nat.not_lt_zero j)⟩
 | k + 1 => by
  have ih := elim_asc h k; rw [elim_succ]; unfold estep; split
  ·exact ih.snoc
  ·exact ih.up
theorem canP_asc (C : Int) (X : List (List Int)) : Asc C.toNat (canP p m v C X) := elim_asc rfl _
end
section
variable {F : GFv} {p m v g : Nat} {P M : Int} {mf : List Int} {X Y : List (List Int)} {C : Int}
theorem w_search {l : List Int} {x : Int} {k : Nat} {Q : Int × Bool → Prop} (hl : l.length ≤ 1000000) (hs : Asc k l) (h1 : ∀ i, (∃ j, j < l.length ∧ vo l j = x) → Q (i, true)) (h2 : ∀ i, (¬ ∃ j, j < l.length ∧ vo l j = x) → Q (i, false)) : V_search l x Q := by
 refine ⟨fun a b => ∃ s t : Nat, a = s ∧ b = t ∧ s ≤ t ∧ t ≤ l.length ∧ (∀ j, j < s → vo l j < x) ∧ ∀ j, t ≤ j → j < l.length → x ≤ vo l j, fun a b => (b - a).toNat, ⟨0, l.length, rfl, rfl, Nat.zero_le _, Nat.le_refl _, fun j hj => by omega, fun j hj1 hj2 => by omega⟩, ?_⟩; rintro _ _ ⟨s, t, rfl, rfl, hst, htl, hlo, hhi⟩; dsimp only; refine ⟨fun hlt => ?_, fun hge => ?_⟩
 ·obtain ⟨q, hq⟩ : ∃ q : Nat, ((s : Int) + t).fdiv 2 = q := ⟨(s + t) / 2, by
   rw [Int.fdiv_eq_ediv_of_nonneg _ (by decide)]; omega⟩
  have hq2 : q = (s + t) / 2 := by
   have : ((s : Int) + t).fdiv 2 = (((s + t) / 2 : Nat) : Int) := by rw [Int.fdiv_eq_ediv_of_nonneg _ (by decide)]; omega
   omega
  rw [hq]; have hql : q < l.length := by omega
  rw [gi_nat]; refine ⟨small (by omega) (by omega), ⟨by omega, by omega⟩, small (by omega) (by omega), ⟨by omega, by omega⟩, ?_⟩; show (decide (vo l q ≠ vo l q) = true → _) ∧ (decide (vo l q ≠ vo l q) = false → _)
  refine ⟨fun h => absurd (of_decide_eq_true h) (fun h => h rfl), fun _ => ⟨fun h => ?_, fun h => ?_⟩⟩
  ·have hlt2 := of_decide_eq_true h; refine ⟨small (by omega) (by omega), ⟨q + 1, t, by push_cast; rfl, rfl, by omega, htl, fun j hj => ?_, hhi⟩, by omega⟩; rcases Nat.lt_or_ge j q with h3 | h3
   ·have := hs.2 j q h3 hql; omega
   ·rw [show j = q by omega]; exact hlt2
  ·have hge2 := of_decide_eq_false h; refine ⟨⟨s, q, rfl, rfl, by omega, by omega, hlo, fun j hj1 hj2 => ?_⟩, by omega⟩; rcases Nat.eq_or_lt_of_le hj1 with h3 | h3
   ·subst h3; omega
   ·have := hs.2 q j h3 hj2; omega
 ·have hse : s = t := by omega
  subst hse; rw [gi_nat]; refine ⟨fun hlt2 => ⟨⟨by omega, by omega⟩, fun he => h1 _ ⟨s, by omega, he⟩, fun hne => ⟨⟨by omega, by omega⟩, ?_⟩⟩, fun hge2 => ?_⟩
  ·have hno : ¬ ∃ j, j < l.length ∧ vo l j = x := fun ⟨j, hj, he⟩ => by
    rcases Nat.lt_trichotomy j s with h3 | h3 | h3
    ·have := hlo j h3; omega
    ·subst h3; exact hne he
    ·have := hs.2 s j h3 hj; have := hhi s (Nat.le_refl _) (by omega); omega
   show (decide (vo l s ≠ vo l s) = true → _) ∧ (decide (vo l s ≠ vo l s) = false → _)
   exact ⟨fun h => absurd (of_decide_eq_true h) (fun h => h rfl), fun _ => h2 _ hno⟩
  ·refine h2 _ fun ⟨j, hj, he⟩ => ?_; have := hlo j (by omega); omega
def solF (p m : Nat) (C : Nat) (R : List (List Int)) (pv : List Int) (t k : Nat) : List Int := (List.range k).foldl (fun x i => x.set (vo pv i).toNat (Ng p m (vo (row R i) t))) ((List.replicate C 0).set t 1)
theorem solF_succ (C : Nat) (R : List (List Int)) (pv : List Int) (t k : Nat) : solF p m C R pv t (k + 1) = (solF p m C R pv t k).set (vo pv k).toNat (Ng p m (vo (row R k) t)) := by
 unfold solF; rw [List.range_succ, List.foldl_append]; rfl
theorem solF_len (C : Nat) (R : List (List Int)) (pv : List Int) (t : Nat) : ∀ k, (solF p m C R pv t k).length = C
 | 0 => by simp [solF]
 | k + 1 => by rw [solF_succ, List.length_set]; exact solF_len C R pv t k
theorem w_solution {R : List (List Int)} {pv : List Int} {t : Nat} {Q : List Int → Prop} (K : GFk F p m v g) (hC : 0 ≤ C ∧ C ≤ 256) (ht : t < C.toNat) (hR : pv.length ≤ R.length) (hl : pv.length ≤ 1000000) (hr : ∀ i, i < R.length → t < (row R i).length) (hp : Asc C.toNat pv)
  (h : Q (solF p m C.toNat R pv t pv.length)) : V_solution F C R pv t Q := by
 refine ⟨⟨by omega, by omega, by omega⟩, ⟨by omega, by omega⟩, fun x z => ∃ k : Nat, z = k ∧ k ≤ pv.length ∧ x = solF p m C.toNat R pv t k, fun _ z => (pv.length - z).toNat, ⟨0, rfl, Nat.zero_le _, rfl⟩, ?_⟩; rintro _ _ ⟨k, rfl, hk, rfl⟩; dsimp only; rw [gi_nat]; refine ⟨fun hlt => ⟨⟨by omega, by omega⟩, ⟨by omega, by omega⟩, ⟨by omega, by show (t : Int) < ((row R k).length : Nat); have := hr k (by omega); omega⟩, v_Neg K ?_⟩, fun hge => by rw [show k = pv.length by omega]; exact h⟩; have hv : 0 ≤ gi pv (k : Int) ∧ gi pv (k : Int) < ((C.toNat : Nat) : Int) := hp.1 k (by omega); refine ⟨⟨hv.1, by have := hv.2; omega⟩, small (by omega) (by omega), ⟨k + 1, by push_cast; rfl, by omega, ?_⟩, by omega⟩; rw [solF_succ]; rfl
def inP (pv : List Int) (c : Nat) : Bool := (List.range pv.length).any fun i => vo pv i == (c : Int)
theorem inP_iff {pv : List Int} {c : Nat} : inP pv c = true ↔ ∃ j, j < pv.length ∧ vo pv j = (c : Int) := by
 unfold inP; rw [List.any_eq_true]; exact ⟨fun ⟨i, hi, h⟩ => ⟨i, List.mem_range.1 hi, by simpa using h⟩, fun ⟨i, hi, h⟩ => ⟨i, List.mem_range.2 hi, by simpa using h⟩⟩
def bas (p m : Nat) (C : Nat) (R : List (List Int)) (pv : List Int) (k : Nat) : List (List Int) := (List.range k).foldl (fun B c => if inP pv c then B else B ++ [solF p m C R pv c pv.length]) []
theorem bas_succ (C : Nat) (R : List (List Int)) (pv : List Int) (k : Nat) : bas p m C R pv (k + 1) = if inP pv k then bas p m C R pv k else bas p m C R pv k ++ [solF p m C R pv k pv.length] := by
 unfold bas; rw [List.range_succ, List.foldl_append]; rfl
theorem bas_len (C : Nat) (R : List (List Int)) (pv : List Int) : ∀ k, (bas p m C R pv k).length ≤ k
 | 0 => Nat.le_refl _
 | k + 1 => by
  rw [bas_succ]; have := bas_len C R pv k; split
  ·omega
  ·rw [List.length_append]; simp; omega
theorem bas_mem (C : Nat) (R : List (List Int)) (pv : List Int) : ∀ k, ∀ r ∈ bas p m C R pv k, ∃ c, c < k ∧ inP pv c = false ∧ r = solF p m C R pv c pv.length
 | 0, r, h => by cases h
 | k + 1, r, h => by
  rw [bas_succ] at h; split at h
  ·obtain ⟨c, h1, h2⟩ := bas_mem C R pv k r h; exact ⟨c, by omega, h2⟩
  ·rename_i hn
   rcases List.mem_append.1 h with h | h
   ·obtain ⟨c, h1, h2⟩ := bas_mem C R pv k r h; exact ⟨c, by omega, h2⟩
   ·exact ⟨k, by omega, by simpa using hn, by simpa using h⟩
def basC (p m v : Nat) (C : Int) (X : List (List Int)) : List (List Int) := bas p m C.toNat (canX p m v C X) (canP p m v C X) C.toNat
theorem basC_shp (hs : shp C X) : shp C (basC p m v C X) := by
 obtain ⟨h1, h2, h3⟩ := shp_le hs; refine ⟨hs.1, hs.2.1, by have := bas_len (p := p) (m := m) C.toNat (canX p m v C X) (canP p m v C X) C.toNat; unfold basC; omega, fun r hr => ?_⟩; obtain ⟨c, _, _, rfl⟩ := bas_mem _ _ _ _ r hr; rw [solF_len]; exact h3
theorem canX_len (hs : shp C X) : (canX p m v C X).length = (canP p m v C X).length := by
 have h0 := ec_shp (p := p) (m := m) (v := v) hs; unfold canX canP; rw [List.length_take]; have h1 := h0.pl; have h2 := h0.xl; omega
theorem row_take {Z : List (List Int)} {n t : Nat} (h : t < n) : row (Z.take n) t = row Z t := by
 unfold row; rw [List.getD_eq_getElem?_getD, List.getD_eq_getElem?_getD, List.getElem?_take, if_pos h]
theorem canX_row (hs : shp C X) {t : Nat} (ht : t < (canX p m v C X).length) : (row (canX p m v C X) t).length = C.toNat := by
 have h1 := ec_shp (p := p) (m := m) (v := v) hs; rw [canX_len hs] at ht; unfold canX; rw [row_take (n := (ec p m v C X).pv.length) ht]; exact h1.xr t (Nat.lt_of_lt_of_le ht h1.pl)
theorem canX_shp (hs : shp C X) : shp C (canX p m v C X) := by
 obtain ⟨h1, h2, h3⟩ := shp_le hs; have h4 := ec_shp (p := p) (m := m) (v := v) hs; refine ⟨hs.1, hs.2.1, by rw [canX_len hs]; have := h4.pl; show (ec p m v C X).pv.length ≤ 256; omega, fun r hr => ?_⟩; obtain ⟨t, ht, rfl⟩ := mem_row hr; rw [canX_row hs ht]; exact h3
theorem canP_len (hs : shp C X) : (canP p m v C X).length ≤ X.length := (ec_shp (p := p) (m := m) (v := v) hs).pl
theorem w_Kernel {Q : Int × List (List Int) × Int → Prop} (hb : mck P M mf C X ≠ 0 → Q (0, [], mck P M mf C X))
  (h : ∀ p m v, FV P M mf p m v → shp C X → Els p m X → mck P M mf C X = 0 → Q (C, canX p m v C (basC p m v C X), 0)) : V_Kernel P M mf C X Q := by
 refine w_open1 (fun h0 _ => hb h0) fun F p m v g K hF hs he h0 => w_canonical K hs ?_; obtain ⟨h1, h2, h3⟩ := shp_le hs; have hpl := canP_len (p := p) (m := m) (v := v) hs; have hcl := canX_len (p := p) (m := m) (v := v) hs; have hasc := canP_asc (p := p) (m := m) (v := v) C X; have hrow := fun i (hi : i < (canX p m v C X).length) => canX_row (p := p) (m := m) (v := v) hs hi; have hfin := w_canonical (Q := fun q => Q (q.1, q.2.1, 0)) K (basC_shp (p := p) (m := m) (v := v) hs) (h p m v hF hs he h0); unfold basC at hfin; generalize canX p m v C X = R at *
 generalize canP p m v C X = pv at *
 refine ⟨fun x z => ∃ k : Nat, z = k ∧ k ≤ C.toNat ∧ x = bas p m C.toNat R pv k, fun _ z => (C - z).toNat, ⟨0, rfl, Nat.zero_le _, rfl⟩, ?_⟩; rintro _ _ ⟨k, rfl, hk, rfl⟩; have hbl := bas_len (p := p) (m := m) C.toNat R pv k; dsimp only; refine ⟨fun hlt => ⟨fun x _ _ => x = bas p m C.toNat R pv (k + 1), w_search (by omega) hasc (fun i hin => ⟨fun h => absurd h (by simp), fun _ => ?_⟩) (fun i hin => ⟨fun _ => ⟨_, w_solution K ⟨hs.1, hs.2.1⟩ (by omega) (by omega) (by omega) (fun i hi => by rw [hrow i hi]; omega) hasc rfl, by omega, ?_⟩, fun h => absurd h (by simp)⟩), ?_⟩, fun hge => ?_⟩
 ·rw [bas_succ, if_pos (inP_iff.2 hin)]
 ·rw [bas_succ, if_neg (fun hh => hin (inP_iff.1 hh))]
 ·rintro _ _ _ rfl; exact ⟨small (by omega) (by omega), ⟨k + 1, by push_cast; rfl, by omega, rfl⟩, by omega⟩
 ·rw [show k = C.toNat by omega]; exact hfin
end
end Go.Proofs.Ytiboieijhehjnaa
set_option linter.unusedVariables false
set_option linter.unusedSimpArgs false
namespace Go.Proofs.Ytiboieijhehjnaa
section
variable {F : GFv} {p m v g : Nat} {P M : Int} {mf : List Int} {X Y : List (List Int)} {C : Int}
open Classical in
noncomputable def sqe (P M : Int) (mf : List Int) (C : Int) (X : List (List Int)) : Int := if mck P M mf C X ≠ 0 then mck P M mf C X else if (X.length : Int) ≠ C then 3 else 0
theorem sqe_mck (h : mck P M mf C X ≠ 0) : sqe P M mf C X = mck P M mf C X := if_pos h
theorem sqe_no (h : mck P M mf C X = 0) (h2 : (X.length : Int) ≠ C) : sqe P M mf C X = 3 := by unfold sqe; rw [if_neg (fun hh => hh h), if_pos h2]
theorem sqe_ok (h : mck P M mf C X = 0) (h2 : (X.length : Int) = C) : sqe P M mf C X = 0 := by unfold sqe; rw [if_neg (fun hh => hh h), if_neg (fun hh => hh h2)]
theorem w_openSquare {Q : Option GFv × Int → Prop} (hb : sqe P M mf C X ≠ 0 → Q (none, sqe P M mf C X))
  (h : ∀ (F : GFv) (p m v g : Nat), GFk F p m v g → FV P M mf p m v → shp C X → Els p m X → (X.length : Int) = C → sqe P M mf C X = 0 → Q (some F, 0)) : V_openSquare P M mf C X Q := by
 refine w_open1 (fun h0 _ => ⟨h0, ?_⟩) fun F p m v g K hF hs he h0 => ⟨fun h1 => ⟨by decide, ?_⟩, fun h1 => ?_⟩
 ·have := hb (by rw [sqe_mck h0]; exact h0); rwa [sqe_mck h0] at this
 ·have := hb (by rw [sqe_no h0 h1]; decide); rwa [sqe_no h0 h1] at this
 ·have h2 : (X.length : Int) = C := Classical.not_not.1 h1; exact h F p m v g K hF hs he h2 (sqe_ok h0 h2)
theorem w_Det {Q : Int × Int → Prop} (hb : sqe P M mf C X ≠ 0 → Q (0, sqe P M mf C X))
  (h : ∀ p m v, FV P M mf p m v → shp C X → Els p m X → (X.length : Int) = C → sqe P M mf C X = 0 → Q ((if ((canP p m v C X).length : Int) < C then 0 else (ec p m v C X).d), 0)) : V_Det P M mf C X Q := by
 refine w_openSquare (fun h0 _ => hb h0) fun F p m v g K hF hs he hX h0 => ?_; obtain ⟨h1, h2, h3⟩ := shp_le hs; refine ⟨X, w_cloneL (by omega) (shp_rows hs) rfl, ⟨by omega, by omega, by omega⟩, ?_⟩; have hfin := h p m v hF hs he hX h0; have e : V_eliminate F C X (List.replicate C.toNat ([] : List Int)) = V_eliminate F ((C.toNat : Nat) : Int) X (List.replicate X.length ([] : List Int)) := by
  rw [h3, show C.toNat = X.length by omega]
 rw [e]; refine w_eliminate K (by omega) (by omega) (wy := 0) (by omega) (shp_can hs) ?_; refine ⟨fun hlt => ?_, fun hge => ?_⟩
 ·rw [if_pos (show ((canP p m v C X).length : Int) < C from hlt)] at hfin; exact hfin
 ·rw [if_neg (show ¬ ((canP p m v C X).length : Int) < C from hge)] at hfin; exact hfin
def idm (n : Nat) : List (List Int) := (List.range n).map fun i => (List.replicate n (0 : Int)).set i 1
theorem idm_len (n : Nat) : (idm n).length = n := by simp [idm]
theorem row_idm {n t : Nat} (h : t < n) : row (idm n) t = (List.replicate n (0 : Int)).set t 1 := row_map h
theorem w_identity {n : Int} {Q : Int × List (List Int) → Prop} (hn : 0 ≤ n ∧ n ≤ 256) (h : Q (n, idm n.toNat)) : V_identity n Q := by
 refine ⟨⟨by omega, by omega, by omega⟩, fun x z => ∃ t : Nat, z = t ∧ t ≤ n.toNat ∧ x.length = n.toNat ∧ ∀ k, k < t → row x k = row (idm n.toNat) k, fun _ z => (n - z).toNat, ⟨0, rfl, Nat.zero_le _, by simp, fun k hk => by omega⟩, ?_⟩; rintro x _ ⟨t, rfl, ht, hx, hk⟩; have hg : ∀ l : List Int, t < n.toNat → gl (sll x (t : Int) l) (t : Int) = l := fun l hlt => by
  show row (x.set t l) t = l; rw [row_set, if_pos ⟨rfl, by omega⟩]
 dsimp only; refine ⟨fun hlt => ?_, fun hge => ?_⟩
 ·have htn : t < n.toNat := by omega
  rw [hg _ htn]; refine ⟨⟨by omega, by omega, by omega⟩, ⟨by omega, by omega⟩, ⟨by omega, by omega⟩, ⟨by omega, by rw [List.length_replicate]; omega⟩, small (by omega) (by omega), ⟨t + 1, by push_cast; rfl, by omega, by rw [sll_len, sll_len]; exact hx, fun k hk' => ?_⟩, by omega⟩; show row ((x.set t (List.replicate n.toNat 0)).set t ((List.replicate n.toNat (0 : Int)).set t 1)) k = _; rw [row_set, List.length_set]; by_cases e : t = k
  ·subst e; rw [if_pos ⟨rfl, by omega⟩, row_idm htn]
  ·rw [if_neg (fun h => e h.1), row_set, if_neg (fun h => e h.1)]; exact hk k (by omega)
 ·rw [show x = idm n.toNat from row_ext (by rw [idm_len]; exact hx) fun i hi => hk i (by omega)]; exact h
theorem idm_row_len {n t : Nat} (h : t < n) : (row (idm n) t).length = n := by rw [row_idm h]; simp
def ei (p m v : Nat) (C : Int) (X : List (List Int)) : ES := elim p m v C.toNat ⟨X, idm C.toNat, [], 1⟩
theorem ei_shp (hs : shp C X) (hX : (X.length : Int) = C) : Shp X.length C.toNat C.toNat ⟨X, idm C.toNat, [], 1⟩ := shp_S0 hs (by rw [idm_len]; omega) fun t ht => idm_row_len (by omega)
theorem w_Inverse {Q : Int × List (List Int) × Int → Prop} (hb : sqe P M mf C X ≠ 0 → Q (0, [], sqe P M mf C X))
  (h : ∀ p m v, FV P M mf p m v → shp C X → Els p m X → (X.length : Int) = C → sqe P M mf C X = 0 → (((ei p m v C X).pv.length : Int) < C → Q (0, [], 9)) ∧ (¬ ((ei p m v C X).pv.length : Int) < C → Q (C, (ei p m v C X).Y, 0))) : V_Inverse P M mf C X Q := by
 refine w_openSquare (fun h0 _ => hb h0) fun F p m v g K hF hs he hX h0 => w_identity ⟨hs.1, hs.2.1⟩ ⟨X, w_cloneL (by have := shp_len hs; omega) (shp_rows hs) rfl, ?_⟩; obtain ⟨h1, h2, h3⟩ := shp_le hs; have hfin := h p m v hF hs he hX h0; have e : V_eliminate F C X (idm C.toNat) = V_eliminate F ((C.toNat : Nat) : Int) X (idm C.toNat) := by rw [h3]
 rw [e]; exact w_eliminate K (by omega) (by omega) (wy := C.toNat) (by omega) (ei_shp hs hX) hfin
def cmb (p m v : Nat) (x : List Int) (C : Nat) (X : List (List Int)) (k : Nat) : List Int := (List.range k).foldl (fun s i => adx p m v s (vo x i) (row X i)) (List.replicate C 0)
theorem cmb_succ (x : List Int) (C : Nat) (k : Nat) : cmb p m v x C X (k + 1) = adx p m v (cmb p m v x C X k) (vo x k) (row X k) := by
 unfold cmb; rw [List.range_succ, List.foldl_append]; rfl
theorem cmb_len (x : List Int) (C : Nat) : ∀ k, (cmb p m v x C X k).length = C
 | 0 => by simp [cmb]
 | k + 1 => by rw [cmb_succ, adx_len]; exact cmb_len x C k
theorem w_combine {x : List Int} {Q : List Int → Prop} (K : GFk F p m v g) (hs : shp C X) (hx : x.length = X.length) (h : Q (cmb p m v x C.toNat X X.length)) : V_combine F x C X Q := by
 obtain ⟨h1, h2, h3⟩ := shp_le hs; refine ⟨⟨by omega, by omega, by omega⟩, fun y z => ∃ t : Nat, z = t ∧ t ≤ X.length ∧ y = cmb p m v x C.toNat X t, fun _ z => (X.length - z).toNat, ⟨0, rfl, Nat.zero_le _, rfl⟩, ?_⟩; rintro _ _ ⟨t, rfl, ht, rfl⟩; refine ⟨fun hlt => ?_, fun hge => by rw [show t = X.length by omega]; exact h⟩; have hr := shp_row hs (t := t) (by omega); have hc := cmb_len (p := p) (m := m) (v := v) (X := X) x C.toNat t; refine ⟨⟨by omega, by omega⟩, ⟨by omega, by omega⟩, w_addMultiple K (by show (row X t).length ≤ _; omega) (by omega) ⟨small (by omega) (by omega), ⟨t + 1, by push_cast; rfl, by omega, ?_⟩, ?_⟩⟩
 ·rw [cmb_succ]; rfl
 ·show ((X.length : Int) - ((t : Int) + 1)).toNat < ((X.length : Int) - (t : Int)).toNat; omega
open Classical in
noncomputable def vce (p m : Nat) (x : List Int) (n : Nat) : Int := if x.length ≠ n then 3 else if ¬ Elr p m x then 2 else 0
theorem vce_zero {x : List Int} {n : Nat} (h : vce p m x n = 0) : x.length = n ∧ Elr p m x := by
 unfold vce at h; split at h
 ·exact absurd h (by decide)
 ·rename_i h1
  split at h
  ·exact absurd h (by decide)
  ·rename_i h2; exact ⟨Classical.not_not.1 h1, Classical.not_not.1 h2⟩
theorem w_fits {x : List Int} {Q : Int → Prop} (K : GFk F p m v g) (hX : X.length ≤ 1000000) (h : Q (vce p m x X.length)) : V_fits F x C X Q := by
 refine ⟨fun hne => ?_, fun he => ?_⟩
 ·have hne' : x.length ≠ X.length := by omega
  unfold vce at h; rw [if_pos hne'] at h; exact h
 ·have he' : x.length = X.length := by have := Classical.not_not.1 he; omega
  unfold vce at h; rw [if_neg (fun hh => hh he')] at h; refine w_areElements K (by omega) (fun h1 => ?_) (fun h1 => ?_)
  ·rw [if_neg (fun hh => hh h1)] at h; exact ⟨fun h0 => absurd h0 (by decide), fun _ => h⟩
  ·rw [if_pos h1] at h; exact ⟨fun _ => h, fun h0 => absurd h0 (by decide)⟩
theorem w_Vec {x : List Int} {Q : List Int × Int → Prop} (hb : mck P M mf C X ≠ 0 → Q ([], mck P M mf C X))
  (h : ∀ p m v, FV P M mf p m v → shp C X → Els p m X → mck P M mf C X = 0 → (vce p m x X.length ≠ 0 → Q ([], vce p m x X.length)) ∧ (vce p m x X.length = 0 → Q (cmb p m v x C.toNat X X.length, 0))) : V_Vec P M mf x C X Q := by
 refine w_open1 (fun h0 _ => hb h0) fun F p m v g K hF hs he h0 => ?_; have hfin := h p m v hF hs he h0; refine w_fits K (by have := shp_len hs; omega) ⟨hfin.1, fun h1 => ?_⟩; have h1' : vce p m x X.length = 0 := Classical.not_not.1 h1; exact w_combine K hs (vce_zero h1').1 (hfin.2 h1')
def rgt (b : List Int) : List (List Int) := b.map fun y => [y]
theorem rgt_len (b : List Int) : (rgt b).length = b.length := by simp [rgt]
theorem row_rgt {b : List Int} {t : Nat} (h : t < b.length) : row (rgt b) t = [vo b t] := by
 unfold row rgt vo; rw [List.getD_eq_getElem?_getD, List.getElem?_map, List.getD_eq_getElem?_getD, List.getElem?_eq_getElem h]; rfl
def eb (p m v : Nat) (C : Int) (X : List (List Int)) (b : List Int) : ES := elim p m v C.toNat ⟨X, rgt b, [], 1⟩
def slv (C : Nat) (pv : List Int) (Z : List (List Int)) (k : Nat) : List Int := (List.range k).foldl (fun x i => if i < pv.length then x.set (vo pv i).toNat (vo (row Z i) 0) else x) (List.replicate C 0)
theorem slv_succ (C : Nat) (pv : List Int) (Z : List (List Int)) (k : Nat) : slv C pv Z (k + 1) = if k < pv.length then (slv C pv Z k).set (vo pv k).toNat (vo (row Z k) 0) else slv C pv Z k := by
 unfold slv; rw [List.range_succ, List.foldl_append]; rfl
theorem eb_shp (hs : shp C X) {b : List Int} (hb : b.length = X.length) : Shp X.length C.toNat 1 ⟨X, rgt b, [], 1⟩ := shp_S0 hs (by rw [rgt_len]; exact hb) fun t ht => by rw [row_rgt (by omega)]; rfl
theorem w_Solve {b : List Int} {Q : List Int × Int → Prop} (hb : mck P M mf C X ≠ 0 → Q ([], mck P M mf C X))
  (h : ∀ p m v, FV P M mf p m v → shp C X → Els p m X → mck P M mf C X = 0 → (vce p m b X.length ≠ 0 → Q ([], vce p m b X.length)) ∧ (vce p m b X.length = 0 →
   ((∃ i, (eb p m v C X b).pv.length ≤ i ∧ i < b.length ∧ vo (row (eb p m v C X b).Y i) 0 ≠ 0) → Q ([], 11)) ∧ ((∀ i, (eb p m v C X b).pv.length ≤ i → i < b.length → vo (row (eb p m v C X b).Y i) 0 = 0) → Q (slv C.toNat (eb p m v C X b).pv (eb p m v C X b).Y b.length, 0)))) : V_Solve P M mf C X b Q := by
 refine w_open1 (fun h0 _ => hb h0) fun F p m v g K hF hs he h0 => ?_; have hfin := h p m v hF hs he h0; obtain ⟨h1, h2, h3⟩ := shp_le hs; refine w_fits K (by omega) ⟨hfin.1, fun hv => ?_⟩; have hv' : vce p m b X.length = 0 := Classical.not_not.1 hv; have hbl := (vce_zero hv').1; have hfin := hfin.2 hv'; refine ⟨⟨by omega, by omega, by omega⟩, fun x z => ∃ t : Nat, z = t ∧ t ≤ b.length ∧ x.length = b.length ∧ ∀ k, k < t → row x k = row (rgt b) k, fun _ z => (b.length - z).toNat, ⟨0, rfl, Nat.zero_le _, by simp, fun k hk => by omega⟩, ?_⟩; rintro x _ ⟨t, rfl, ht, hx, hk⟩; dsimp only; refine ⟨fun hlt => ⟨⟨by omega, by omega⟩, ⟨by omega, by omega⟩, small (by omega) (by omega), ⟨t + 1, by push_cast; rfl, by omega, by rw [sll_len]; exact hx, fun k hk' => ?_⟩, by omega⟩, fun hge => ?_⟩
 ·show row (x.set t [vo b t]) k = _; rw [row_set]; by_cases e : t = k
  ·subst e; rw [if_pos ⟨rfl, by omega⟩, row_rgt (by omega)]
  ·rw [if_neg (fun h => e h.1)]; exact hk k (by omega)
 ·have ex : x = rgt b := row_ext (by rw [rgt_len]; exact hx) fun i hi => hk i (by omega); subst ex; refine ⟨X, w_cloneL (by omega) (shp_rows hs) rfl, ?_⟩; have e : V_eliminate F C X (rgt b) = V_eliminate F ((C.toNat : Nat) : Int) X (rgt b) := by rw [h3]
  rw [e]; have hS := eb_shp hs hbl; refine w_eliminate K (by omega) (by omega) (wy := 1) (by omega) hS ?_; have hs2 := elim_shp (p := p) (m := m) (v := v) hS C.toNat; have hasc := elim_asc (p := p) (m := m) (v := v) (S := ⟨X, rgt b, [], 1⟩) rfl C.toNat; unfold eb at hfin; generalize elim p m v C.toNat ⟨X, rgt b, [], 1⟩ = E at *
  have hyl := hs2.yl; have hyr := hs2.yr; have hpl := hs2.pl; dsimp only; refine ⟨⟨by omega, by omega, by omega⟩, fun x z => ∃ t : Nat, z = t ∧ t ≤ b.length ∧ x = slv C.toNat E.pv E.Y t ∧ ∀ i, E.pv.length ≤ i → i < t → vo (row E.Y i) 0 = 0, fun _ z => (b.length - z).toNat, ⟨0, rfl, Nat.zero_le _, rfl, fun i _ hi => by omega⟩, ?_⟩; rintro _ _ ⟨t, rfl, ht, rfl, hz⟩; have hrl := rgt_len b; refine ⟨fun hlt => ?_, fun hge => ?_⟩
  ·have htb : t < b.length := by omega
   have hy := hyr t (by omega); refine ⟨fun x => x = slv C.toNat E.pv E.Y (t + 1) ∧ ∀ i, E.pv.length ≤ i → i < t + 1 → vo (row E.Y i) 0 = 0, ⟨⟨by omega, by omega⟩, fun hlt2 => ?_, fun hge2 => ?_⟩, ?_⟩
   ·have hv2 : 0 ≤ gi E.pv (t : Int) ∧ gi E.pv (t : Int) < ((C.toNat : Nat) : Int) := hasc.1 t (by omega); refine ⟨⟨by omega, by omega⟩, ⟨by omega, by show (0 : Int) < ((row E.Y t).length : Nat); omega⟩, hv2, ?_, fun i h4 h5 => ?_⟩
    ·rw [slv_succ, if_pos (by omega)]; rfl
    ·exact hz i h4 (by omega)
   ·refine ⟨⟨by omega, by show (0 : Int) < ((row E.Y t).length : Nat); omega⟩, fun hne => hfin.1 ⟨t, by omega, htb, hne⟩, fun he0 => ⟨?_, fun i h4 h5 => ?_⟩⟩
    ·rw [slv_succ, if_neg (by omega)]
    ·rcases Nat.lt_or_ge i t with h6 | h6
     ·exact hz i h4 h6
     ·rw [show i = t by omega]; exact Classical.not_not.1 he0
   ·rintro _ ⟨rfl, hz2⟩; refine ⟨small (by omega) (by omega), ⟨t + 1, by push_cast; rfl, by omega, rfl, hz2⟩, ?_⟩; show ((b.length : Int) - ((t : Int) + 1)).toNat < ((b.length : Int) - (t : Int)).toNat; omega
  ·have htb : t = b.length := by omega
   rw [htb] at hz ⊢; exact hfin.2 hz
end
theorem islf2 : IsLf 2 2 := ⟨by decide, by decide, fun e h _ => h⟩
theorem islf5 : IsLf 5 5 := ⟨by decide, by decide, fun e h1 h2 => by
 rcases Nat.lt_or_ge e 5 with h | h
 ·rcases (show e = 2 ∨ e = 3 ∨ e = 4 by omega) with rfl | rfl | rfl <;> simp at h2
 ·exact h⟩
theorem fv2 : FV 2 1 [] 2 1 0 := valid_one islf2 (by decide)
theorem fv5 : FV 5 1 [] 5 1 0 := valid_one islf5 (by decide)
def A3 : List (List Int) := [[1, 1, 0], [0, 1, 1], [1, 0, 1]]
def A2 : List (List Int) := [[1, 2], [3, 4]]
theorem shp_A3 : shp 3 A3 := ⟨by decide, by decide, by decide, by decide⟩
theorem shp_A2 : shp 2 A2 := ⟨by decide, by decide, by decide, by decide⟩
instance (p m : Nat) (x : Int) : Decidable (El p m x) := inferInstanceAs (Decidable (_ ∧ _))
theorem els_A3 : Els 2 1 A3 := by unfold Els Elr; decide
theorem els_A2 : Els 5 1 A2 := by unfold Els Elr; decide
theorem nels_A2 : ¬ Els 2 1 A2 := by unfold Els Elr; decide
theorem mck_A3 : mck 2 1 [] 3 A3 = 0 := mck_ok ⟨_, _, _, fv2⟩ shp_A3 ⟨_, _, _, fv2, els_A3⟩
theorem mck_A2 : mck 5 1 [] 2 A2 = 0 := mck_ok ⟨_, _, _, fv5⟩ shp_A2 ⟨_, _, _, fv5, els_A2⟩
theorem mck_A2' : mck 2 1 [] 2 A2 = 2 := mck_els ⟨_, _, _, fv2⟩ shp_A2 fun h => nels_A2 ((elsV_iff fv2).1 h)
theorem sqe_A2 : sqe 5 1 [] 2 A2 = 0 := sqe_ok mck_A2 rfl
theorem ev1 : canX 2 1 0 3 A3 = [[1, 0, 1], [0, 1, 1]] := by decide +kernel
theorem ev2 : canP 2 1 0 3 A3 = [0, 1] := by decide +kernel
theorem ev3 : canX 2 1 0 3 (basC 2 1 0 3 A3) = [[1, 1, 1]] := by decide +kernel
theorem ev4 : (if ((canP 5 1 0 2 A2).length : Int) < 2 then 0 else (ec 5 1 0 2 A2).d) = 3 := by decide +kernel
theorem ev5 : ¬ ((ei 5 1 0 2 A2).pv.length : Int) < 2 := by decide +kernel
theorem ev6 : (ei 5 1 0 2 A2).Y = [[3, 1], [4, 2]] := by decide +kernel
theorem ev7 : cmb 5 1 0 [1, 1] (2 : Int).toNat A2 A2.length = [4, 1] := by decide +kernel
theorem ev8 : slv (2 : Int).toNat (eb 5 1 0 2 A2 [3, 2]).pv (eb 5 1 0 2 A2 [3, 2]).Y 2 = [1, 1] := by decide +kernel
theorem ev9 : (eb 5 1 0 2 A2 [3, 2]).pv.length = 2 := by decide +kernel
theorem vce_ok {p m : Nat} {x : List Int} {n : Nat} (h : x.length = n) (he : Elr p m x) : vce p m x n = 0 := by
 unfold vce; rw [if_neg (fun hh => hh h), if_neg (fun hh => hh he)]
theorem w_awake {Q : Bool → Prop} (h : Q true) : V_awake Q := by
 refine w_Canonical (X := A3) (fun h0 => absurd mck_A3 h0) fun p m v hF _ _ _ => ?_; obtain ⟨rfl, rfl, rfl⟩ := fv2.uniq3 hF; rw [ev1, ev2]; refine w_Rank (X := A3) (fun h0 => absurd mck_A3 h0) fun p m v hF _ _ _ => ?_; obtain ⟨rfl, rfl, rfl⟩ := fv2.uniq3 hF; rw [ev2]; refine w_Kernel (X := A3) (fun h0 => absurd mck_A3 h0) fun p m v hF _ _ _ => ?_; obtain ⟨rfl, rfl, rfl⟩ := fv2.uniq3 hF; rw [ev3]; refine w_Det (X := A2) (fun h0 => absurd sqe_A2 h0) fun p m v hF _ _ _ _ => ?_; obtain ⟨rfl, rfl, rfl⟩ := fv5.uniq3 hF; rw [ev4]; refine w_Inverse (X := A2) (fun h0 => absurd sqe_A2 h0) fun p m v hF _ _ _ _ => ?_; obtain ⟨rfl, rfl, rfl⟩ := fv5.uniq3 hF; refine ⟨fun h0 => absurd h0 ev5, fun _ => ?_⟩; rw [ev6]; refine w_Vec (X := A2) (fun h0 => absurd mck_A2 h0) fun p m v hF _ _ _ => ?_; obtain ⟨rfl, rfl, rfl⟩ := fv5.uniq3 hF; refine ⟨fun h0 => absurd (vce_ok rfl (by unfold Elr; decide)) h0, fun _ => ?_⟩; rw [ev7]; refine w_Solve (X := A2) (fun h0 => absurd mck_A2 h0) fun p m v hF _ _ _ => ?_; obtain ⟨rfl, rfl, rfl⟩ := fv5.uniq3 hF; refine ⟨fun h0 => absurd (vce_ok rfl (by unfold Elr; decide)) h0, fun _ => ⟨fun ⟨i, h1, h2, _⟩ => by rw [ev9] at h1; simp at h2; omega, fun _ => ?_⟩⟩; rw [show slv (2 : Int).toNat (eb 5 1 0 2 A2 [3, 2]).pv (eb 5 1 0 2 A2 [3, 2]).Y ([3, 2] : List Int).length = [1, 1] from ev8]; refine ⟨fun _ => ⟨fun _ => ⟨fun _ => ⟨fun _ => ⟨fun _ => ⟨fun _ => ⟨fun _ => ?_, fun h => absurd rfl h⟩, fun h => absurd rfl h⟩, fun h => absurd rfl h⟩, fun h => absurd rfl h⟩, fun h => absurd rfl h⟩, fun h => absurd rfl h⟩, fun h => absurd rfl h⟩; refine w_rSame (by decide) (by decide) ⟨fun _ => w_rSameInts (by decide) ⟨fun _ => ⟨fun _ => w_rSame (by decide) (by decide) ⟨fun _ => ⟨fun _ => w_rSame (by decide) (by decide) ⟨fun _ => w_rSameInts (by decide) ⟨fun _ => w_rSameInts (by decide) ⟨fun _ => w_mCheck (X := A2) ⟨fun _ => w_mCheck (X := A2) ?_, fun h => absurd mck_A2 h⟩, fun h => absurd h (by decide)⟩, fun h => absurd h (by decide)⟩, fun h => absurd h (by decide)⟩, fun h => absurd rfl h⟩, fun h => absurd h (by decide)⟩, fun h => absurd rfl h⟩, fun h => absurd h (by decide)⟩, fun h => absurd h (by decide)⟩; rw [mck_A2']; exact h
end Go.Proofs.Ytiboieijhehjnaa
set_option linter.unusedVariables false
set_option linter.unusedSimpArgs false
namespace Go.Proofs.Ytiboieijhehjnaa
end Go.Proofs.Ytiboieijhehjnaa
set_option linter.unusedVariables false
set_option linter.unusedSimpArgs false
namespace Go.Proofs.Ytiboieijhehjnaa
section
variable {F : GFv} {p m v g : Nat} {P M : Int} {mf : List Int} {X : List (List Int)} {C : Int} {set y : List Int}
def pkr (y set : List Int) : List Int := (List.range set.length).map fun i => vo y (vo set i).toNat
theorem pkr_len : (pkr y set).length = set.length := by simp [pkr]
theorem vo_pkr {i : Nat} (h : i < set.length) : vo (pkr y set) i = vo y (vo set i).toNat := vo_map h
theorem w_rPick {Q : List Int → Prop} (hl : set.length ≤ 1000000) (hin : ∀ i, i < set.length → 0 ≤ vo set i ∧ vo set i < (y.length : Int)) (h : Q (pkr y set)) : V_rPick y set Q := by
 refine ⟨⟨by omega, by omega, by omega⟩, fun x z => ∃ t : Nat, z = t ∧ t ≤ set.length ∧ x.length = set.length ∧ ∀ k, k < t → vo x k = vo (pkr y set) k, fun _ z => (set.length - z).toNat, ⟨0, rfl, Nat.zero_le _, by simp, fun k hk => by omega⟩, ?_⟩; rintro x _ ⟨t, rfl, ht, hx, hk⟩; dsimp only; refine ⟨fun hlt => ?_, fun hge => ?_⟩
 ·have htl : t < set.length := by omega
  have hc := hin t htl; refine ⟨⟨by omega, by omega⟩, hc, ⟨by omega, by omega⟩, small (by omega) (by omega), ⟨t + 1, by push_cast; rfl, by omega, by rw [si_nat, List.length_set]; exact hx, fun k hk' => ?_⟩, by omega⟩; rw [si_nat, vo_set]; by_cases e : t = k
  ·subst e; rw [if_pos ⟨rfl, by omega⟩, vo_pkr htl]; rfl
  ·rw [if_neg (fun h => e h.1)]; exact hk k (by omega)
 ·rw [show x = pkr y set from vo_ext (by rw [pkr_len]; exact hx) fun i hi => hk i (by omega)]; exact h
theorem w_rCombine {x : List Int} {Q : List Int → Prop} (hF : FV P M mf p m v) (hs : shp C X) (hx : x.length = X.length) (h : Q (cmb p m v x C.toNat X X.length)) : V_rCombine P M mf x X C Q := by
 obtain ⟨h1, h2, h3⟩ := shp_le hs; refine ⟨⟨by omega, by omega, by omega⟩, fun y => y = cmb p m v x C.toNat X X.length, ⟨fun y z => ∃ t : Nat, z = t ∧ t ≤ X.length ∧ y = cmb p m v x C.toNat X t, fun _ z => (X.length - z).toNat, ⟨0, rfl, Nat.zero_le _, rfl⟩, ?_⟩, fun y hy => by rw [hy]; exact h⟩; rintro _ _ ⟨t, rfl, ht, rfl⟩; dsimp only; refine ⟨fun hlt => ⟨fun hlt2 => ⟨fun y => y = cmb p m v x C.toNat X (t + 1), ⟨⟨by omega, by omega⟩, fun hne => ?_, fun he => ?_⟩, ?_⟩, fun hge => by omega⟩, fun hge => by rw [show t = X.length by omega]⟩
 ·have hr := shp_row hs (t := t) (by omega); have hc := cmb_len (p := p) (m := m) (v := v) (X := X) x C.toNat t; refine ⟨⟨by omega, by omega⟩, ⟨by omega, by omega⟩, _, w_rAddTo hF (by show _ ≤ (row X t).length; omega) (by omega) rfl, ?_⟩; rw [cmb_succ]; unfold adx; have hne' : vo x t ≠ 0 := hne; rw [if_neg hne']; rfl
 ·rw [cmb_succ]; unfold adx; have he' : vo x t = 0 := Classical.not_not.1 he; rw [if_pos he']
 ·rintro _ rfl; exact ⟨small (by omega) (by omega), ⟨t + 1, by push_cast; rfl, by omega, rfl⟩, by omega⟩
end
end Go.Proofs.Ytiboieijhehjnaa
set_option linter.unusedVariables false
set_option linter.unusedSimpArgs false
namespace Go.Proofs.Ytiboieijhehjnaa
section
variable {p m v : Nat} {P M : Int} {mf : List Int} {X Y : List (List Int)} {C : Int} {w : Nat}
def en (p m : Nat) (l : List Int) : Nat → Nat := fun c => inE (p ^ m) (vo l c)
structure Lin (p m v w : Nat) (f : (Nat → Nat) → Nat) : Prop where
  lt : ∀ a, f a < p ^ m
  cg : ∀ {a b : Nat → Nat}, (∀ c, c < w → a c = b c) → f a = f b
  ad : ∀ {a b : Nat → Nat} {x : Nat}, (∀ c, a c < p ^ m) → (∀ c, b c < p ^ m) → x < p ^ m → f (fun c => fadd p m (a c) (fmul p m (dv p v) x (b c))) = fadd p m (f a) (fmul p m (dv p v) x (f b))
  ml : ∀ {a : Nat → Nat} {x : Nat}, (∀ c, a c < p ^ m) → x < p ^ m → f (fun c => fmul p m (dv p v) x (a c)) = fmul p m (dv p v) x (f a)
def Ann (p m : Nat) (f : (Nat → Nat) → Nat) (X : List (List Int)) : Prop := ∀ t, t < X.length → f (en p m (row X t)) = 0
theorem en_lt (hF : FV P M mf p m v) (l : List Int) (c : Nat) : en p m l c < p ^ m := inE_lt (by have := hF.ring.q2; omega) _
theorem en_adx (hF : FV P M mf p m v) {a o : List Int} {x : Int} {c : Nat} (hc : c < a.length) : en p m (adx p m v a x o) c = fadd p m (en p m a c) (fmul p m (dv p v) (inE (p ^ m) x) (en p m o c)) := by
 have R := hF.ring; have hq : 0 < p ^ m := by have := R.q2; omega
 have e0 : inE (p ^ m) 0 = 0 := inE_nat (x := 0) hq; have hz : ∀ y, y < p ^ m → fmul p m (dv p v) 0 y = 0 := fun y hy => by rw [R.Mc hq hy]; exact R.M0 hy
 unfold en adx; split
 ·rename_i h; subst h
  rw [e0, hz _ (inE_lt hq _), R.Az (inE_lt hq _)]
 ·rw [vo_adm hc]; split
  ·rename_i h; rw [h, e0, R.M0 (inE_lt hq _), R.Az (inE_lt hq _)]
  ·unfold Ad Ml; rw [inE_nat (R.Al _ _), inE_nat (R.Ml _ _)]
theorem en_sc (hF : FV P M mf p m v) {l : List Int} {x : Int} {c : Nat} (hc : c < l.length) : en p m (sc p m v x l) c = fmul p m (dv p v) (inE (p ^ m) x) (en p m l c) := by
 unfold en; rw [vo_sc hc]; unfold Ml; rw [inE_nat (hF.ring.Ml _ _)]
theorem Lin.adx {f : (Nat → Nat) → Nat} (L : Lin p m v w f) (hF : FV P M mf p m v) {a o : List Int} {x : Int} (ha : a.length = w) : f (en p m (adx p m v a x o)) = fadd p m (f (en p m a)) (fmul p m (dv p v) (inE (p ^ m) x) (f (en p m o))) := by
 rw [← L.ad (en_lt hF a) (en_lt hF o) (inE_lt (by have := hF.ring.q2; omega) x)]; exact L.cg fun c hc => en_adx hF (by omega)
theorem Lin.sc {f : (Nat → Nat) → Nat} (L : Lin p m v w f) (hF : FV P M mf p m v) {l : List Int} {x : Int} (hl : l.length = w) : f (en p m (sc p m v x l)) = fmul p m (dv p v) (inE (p ^ m) x) (f (en p m l)) := by
 rw [← L.ml (en_lt hF l) (inE_lt (by have := hF.ring.q2; omega) x)]; exact L.cg fun c hc => en_sc hF (by omega)
theorem row_swq {r cur t : Nat} (hr : r < X.length) (hc : cur < X.length) : row (swq X r cur) t = if t = cur then row X r else if t = r then row X cur else row X t := by
  unfold swq
  split
  · rename_i h; subst h
    split
    · rename_i h; rw [h]
    · rfl
  · exact row_swp hr hc
theorem row_scq {cur t : Nat} {e : Int} (hc : cur < X.length) : row (scq p m v X cur e) t = if t = cur then sc p m v (Iv p m v e) (row X cur) else row X t := by
 unfold scq; rw [row_set]; by_cases h : cur = t
 ·rw [if_pos ⟨h, hc⟩, if_pos h.symm]
 ·rw [if_neg (fun hh => h hh.1), if_neg (fun hh => h hh.symm)]
theorem ann_swq {f : (Nat → Nat) → Nat} {r cur : Nat} (hr : r < X.length) (hc : cur < X.length) (h : Ann p m f (swq X r cur)) : Ann p m f X := fun t ht => by
 rw [Ann, swq_len] at h; by_cases h1 : t = r
 ·have := h cur hc; rw [row_swq hr hc, if_pos rfl] at this; rw [h1]; exact this
 ·by_cases h2 : t = cur
  ·have := h r hr; rw [row_swq hr hc] at this; rw [if_neg (fun e => h1 (h2.trans e.symm)), if_pos rfl] at this; rw [h2]; exact this
  ·have := h t ht; rw [row_swq hr hc, if_neg h2, if_neg h1] at this; exact this
theorem ann_scq {f : (Nat → Nat) → Nat} (L : Lin p m v w f) (hF : FV P M mf p m v) {cur : Nat} {e : Int} {z : Nat} (hz : z < p ^ m) (he : fmul p m (dv p v) z (inE (p ^ m) (Iv p m v e)) = 1) (hc : cur < X.length) (hw : (row X cur).length = w) (h : Ann p m f (scq p m v X cur e)) : Ann p m f X := fun t ht => by
 have R := hF.ring; have q1 : 1 < p ^ m := R.q2; rw [Ann, scq_len] at h; have h3 := h t ht; rw [row_scq hc] at h3; split at h3
 ·rename_i h1; subst h1
  rw [L.sc hF hw] at h3; have hi := inE_lt (q := p ^ m) (by omega) (Iv p m v e); have h4 := R.Ma hz hi (L.lt (en p m (row X t))); rw [he, h3, R.M0 hz, R.Mc q1 (L.lt _), R.M1 (L.lt _)] at h4; exact h4
 ·exact h3
theorem ann_clr {f : (Nat → Nat) → Nat} (L : Lin p m v w f) (hF : FV P M mf p m v) {cur : Nat} {g : Nat → Int} (hc : cur < X.length) (hw : ∀ t, t < X.length → (row X t).length = w) (h : Ann p m f (clr p m v g cur X)) : Ann p m f X := fun t ht => by
 have R := hF.ring; have hq : 0 < p ^ m := by have := R.q2; omega
 rw [Ann, clr_len] at h; have hcur := h cur hc; rw [row_clr hc, if_pos rfl] at hcur; have h3 := h t ht; rw [row_clr ht] at h3; split at h3
 ·exact h3
 ·rw [L.adx hF (hw t ht), hcur, R.M0 (inE_lt hq _), R.Az (L.lt _)] at h3; exact h3
theorem iv_ex {g : Nat} (K : Gn (p ^ m) (fmul p m (dv p v)) g) (hF : FV P M mf p m v) {x : Int} (h0 : x ≠ 0) (hx : El p m x) : inE (p ^ m) x < p ^ m ∧ fmul p m (dv p v) (inE (p ^ m) x) (inE (p ^ m) (Iv p m v x)) = 1 := by
 have R := hF.ring; have q1 : 1 < p ^ m := R.q2; have hx1 := inE_lt (q := p ^ m) (by omega) x; have hne : 0 < inE (p ^ m) x := by
  have := inE_el hx; omega
 have h1 := K.xone R hne hx1; refine ⟨hx1, ?_⟩; have hz : pw (fmul p m (dv p v)) (inE (p ^ m) x) (p ^ m - 1 - 1) < p ^ m := by
  cases p ^ m - 1 - 1 with
  | zero => exact q1
  | succ n => exact R.Ml _ _
 have h2 : fmul p m (dv p v) (pw (fmul p m (dv p v)) (inE (p ^ m) x) (p ^ m - 1 - 1)) (inE (p ^ m) x) = 1 := by
  rw [show p ^ m - 1 = (p ^ m - 1 - 1) + 1 by omega] at h1; exact h1
 rw [Iv_eq R hx1 hz h2, inE_nat hz, R.Mc hx1 hz]; exact h2
theorem ann_step {g : Nat} (K : Gn (p ^ m) (fmul p m (dv p v)) g) (hF : FV P M mf p m v) {f : (Nat → Nat) → Nat} (L : Lin p m v w f) {S : ES} {c : Nat} (he : Els p m S.X) (hw : ∀ t, t < S.X.length → (row S.X t).length = w) (h : Ann p m f (estep p m v S c).X) : Ann p m f S.X := by
  unfold estep at h
  split at h
  · rename_i h1
    obtain ⟨hc, hr⟩ := h1
    rw [es1_X] at h
    have hw1 : ∀ t, t < (swq S.X (nz S.X c S.pv.length) S.pv.length).length → (row (swq S.X (nz S.X c S.pv.length) S.pv.length) t).length = w := fun t ht => by
      rw [swq_len] at ht; exact swq_row_len hr hc hw ht
    have hrow : row (swq S.X (nz S.X c S.pv.length) S.pv.length) S.pv.length = row S.X (nz S.X c S.pv.length) := by rw [row_swq hr hc, if_pos rfl]
    have hne := (nz_spec S.X c S.pv.length (by omega)).2.2 hr
    have hcl : c < (row S.X (nz S.X c S.pv.length)).length := by
      rcases Nat.lt_or_ge c (row S.X (nz S.X c S.pv.length)).length with h | h
      · exact h
      · exact absurd (vo_hi h) hne
    have hel : El p m (vo (row S.X (nz S.X c S.pv.length)) c) := els_row he _ _ (vo_mem hcl)
    obtain ⟨h4, h5⟩ := iv_ex K hF hne hel
    have h2 := ann_clr L hF (by rw [scq_len, swq_len]; exact hc) (fun t ht => by rw [scq_len] at ht; exact scq_row_len (by rw [swq_len]; exact hc) hw1 ht) h
    rw [hrow] at h2
    have h3 := ann_scq L hF h4 h5 (by rw [swq_len]; exact hc) (hw1 _ (by rw [swq_len]; exact hc)) h2
    exact ann_swq hr hc h3
  · exact h
theorem ann_elim {g : Nat} (K : Gn (p ^ m) (fmul p m (dv p v)) g) (hF : FV P M mf p m v) {f : (Nat → Nat) → Nat} (L : Lin p m v w f) {n wy : Nat} {S : ES} (hS : Shp n w wy S) (he : Els p m S.X) : ∀ k, Ann p m f (elim p m v k S).X → Ann p m f S.X
 | 0, h => h
 | k + 1, h => by
  rw [elim_succ] at h; have hk := elim_shp (p := p) (m := m) (v := v) hS k; refine ann_elim K hF L hS he k (ann_step K hF L (elim_els (by have := hF.p2; omega) he k) (fun t ht => hk.xr t (by have := hk.xl; omega)) h)
end
end Go.Proofs.Ytiboieijhehjnaa
set_option linter.unusedVariables false
set_option linter.unusedSimpArgs false
namespace Go.Proofs.Ytiboieijhehjnaa
section
variable {p m v g : Nat} {P M : Int} {mf : List Int} {X Y : List (List Int)} {C : Int} {w : Nat}
structure Red (k : Nat) (S : ES) : Prop where
  one : ∀ i, i < S.pv.length → ∀ t, t < S.X.length → vo (row S.X t) (vo S.pv i).toNat = if t = i then 1 else 0
  lo : ∀ t, S.pv.length ≤ t → t < S.X.length → ∀ c, c < k → vo (row S.X t) c = 0
  lf : ∀ i, i < S.pv.length → ∀ c : Nat, (c : Int) < vo S.pv i → vo (row S.X i) c = 0
theorem vo_adx0 {a o : List Int} {x : Int} {c : Nat} (h : vo o c = 0) : vo (adx p m v a x o) c = vo a c := by
 unfold adx; split
 ·rfl
 ·rcases Nat.lt_or_ge c a.length with hc | hc
  ·rw [vo_adm hc, if_pos h]
  ·rw [vo_hi hc, vo_hi (by rw [adm_len]; exact hc)]
theorem vo_sc0 (hF : FV P M mf p m v) {l : List Int} {x : Int} {c : Nat} (h : vo l c = 0) : vo (sc p m v x l) c = 0 := by
 have hq : 0 < p ^ m := by have := hF.ring.q2; omega
 rcases Nat.lt_or_ge c l.length with hc | hc
 ·rw [vo_sc hc, h]; unfold Ml; rw [show inE (p ^ m) 0 = 0 from inE_nat (x := 0) hq, hF.ring.M0 (inE_lt hq _)]; rfl
 ·exact vo_hi (by unfold sc; rw [List.length_map]; exact hc)
theorem red_step (K : Gn (p ^ m) (fmul p m (dv p v)) g) (hF : FV P M mf p m v) {S : ES} {k : Nat} (hA : Asc k S.pv) (hl : S.pv.length ≤ S.X.length) (he : Els p m S.X) (h : Red k S) : Red (k + 1) (estep p m v S k) := by
 have R := hF.ring; have q1 : 1 < p ^ m := R.q2; have hp : 0 < p := by have := hF.p2; omega
 unfold estep; split
 case isFalse h1 =>
  refine ⟨h.one, fun t ht1 ht2 c hc => ?_, h.lf⟩; rcases Nat.lt_or_ge c k with hck | hck
  ·exact h.lo t ht1 ht2 c hck
  ·have e : c = k := by omega
   subst e; have hs := nz_spec S.X c S.pv.length hl; exact hs.2.1 t ht1 (by
    rcases Nat.lt_or_ge t (nz S.X c S.pv.length) with h | h
    ·exact h
    ·exact absurd ⟨by omega, by omega⟩ h1)
 case isTrue h1 =>
  obtain ⟨hc, hr⟩ := h1; have hrs := nz_ge S.X k S.pv.length; have hne := (nz_spec S.X k S.pv.length hl).2.2 hr; have hkl : k < (row S.X (nz S.X k S.pv.length)).length := by
   rcases Nat.lt_or_ge k (row S.X (nz S.X k S.pv.length)).length with h | h
   ·exact h
   ·exact absurd (vo_hi h) hne
  have hel : El p m (vo (row S.X (nz S.X k S.pv.length)) k) := els_row he _ _ (vo_mem hkl); obtain ⟨h4, h5⟩ := iv_ex K hF hne hel; have hE3 : Els p m (es1 p m v k (nz S.X k S.pv.length) S.pv.length S).X := es1_els hp he hr hc; have hn : (es1 p m v k (nz S.X k S.pv.length) S.pv.length S).X.length = S.X.length := by rw [es1_X, clr_len, scq_len, swq_len]
  generalize hrr : nz S.X k S.pv.length = r at *
  have hx2 : ∀ t, row (scq p m v (swq S.X r S.pv.length) S.pv.length (vo (row (swq S.X r S.pv.length) S.pv.length) k)) t = if t = S.pv.length then sc p m v (Iv p m v (vo (row S.X r) k)) (row S.X r) else if t = r then row S.X S.pv.length else row S.X t := fun t => by
   rw [row_scq (by rw [swq_len]; exact hc), row_swq hr hc, row_swq hr hc, if_pos rfl]; split <;> rfl
  have hx3 : ∀ t, t < S.X.length → row (es1 p m v k r S.pv.length S).X t = if t = S.pv.length then sc p m v (Iv p m v (vo (row S.X r) k)) (row S.X r) else adx p m v (if t = r then row S.X S.pv.length else row S.X t) (Ng p m (vo (if t = r then row S.X S.pv.length else row S.X t) k)) (sc p m v (Iv p m v (vo (row S.X r) k)) (row S.X r)) := fun t ht => by
   rw [es1_X, row_clr (by rw [scq_len, swq_len]; exact ht), hx2, hx2, if_pos rfl]; split
   ·rfl
   ·rfl
  -- the columns before stay
  have hold : ∀ t, t < S.X.length → ∀ c, c < k → vo (row (es1 p m v k r S.pv.length S).X t) c = vo (row S.X t) c := fun t ht c hck => by
   have z1 : vo (row S.X r) c = 0 := h.lo r hrs hr c hck; have z2 : vo (row S.X S.pv.length) c = 0 := h.lo _ (Nat.le_refl _) hc c hck; rw [hx3 t ht]; split
   ·rename_i e; rw [vo_sc0 hF z1, e, z2]
   ·rw [vo_adx0 (vo_sc0 hF z1)]; split
    ·rename_i e; rw [z2, e, z1]
    ·rfl
  have hone : vo (sc p m v (Iv p m v (vo (row S.X r) k)) (row S.X r)) k = 1 := by
   rw [vo_sc hkl]; unfold Ml; rw [R.Mc (inE_lt (by omega) _) h4, h5]; rfl
  have hnew : ∀ t, t < S.X.length → vo (row (es1 p m v k r S.pv.length S).X t) k = if t = S.pv.length then 1 else 0 := fun t ht => by
   have hEt := els_row hE3 t; have hx := hx3 t ht; by_cases e : t = S.pv.length
   ·rw [if_pos e] at hx ⊢; rw [hx]; exact hone
   ·rw [if_neg e] at hx ⊢; rcases Nat.lt_or_ge k (if t = r then row S.X S.pv.length else row S.X t).length with hkt | hkt
    ·have h6 := en_adx hF (x := Ng p m (vo (if t = r then row S.X S.pv.length else row S.X t) k)) (o := sc p m v (Iv p m v (vo (row S.X r) k)) (row S.X r)) hkt; rw [← hx] at h6; have h7 : en p m (sc p m v (Iv p m v (vo (row S.X r) k)) (row S.X r)) k = 1 := by unfold en; rw [hone]; exact inE_nat (x := 1) q1
     rw [h7] at h6; unfold Ng at h6; have h8 : fneg p m (inE (p ^ m) (vo (if t = r then row S.X S.pv.length else row S.X t) k)) < p ^ m := fneg_lt hp _; rw [inE_nat h8, R.M1 h8] at h6; have h9 : en p m (row (es1 p m v k r S.pv.length S).X t) k = 0 := by rw [h6]; exact fadd_neg hp (inE_lt (by omega) _)
     have h10 : El p m (vo (row (es1 p m v k r S.pv.length S).X t) k) := hEt _ (vo_mem (by rw [hx, adx_len]; exact hkt)); rw [← inE_el h10]; show ((en p m (row (es1 p m v k r S.pv.length S).X t) k : Nat) : Int) = 0; rw [h9]; rfl
    ·rw [hx]; exact vo_hi (by rw [adx_len]; exact hkt)
  have hpv : (es1 p m v k r S.pv.length S).pv = S.pv ++ [(k : Int)] := rfl; refine ⟨fun i hi t ht => ?_, fun t ht1 ht2 c hck => ?_, fun i hi c hci => ?_⟩
  ·rw [hn] at ht; rw [hpv, List.length_append, List.length_singleton] at hi; rw [hpv, vo_app1]; by_cases e : i < S.pv.length
   ·rw [if_pos e, hold t ht _ (by have := hA.1 i e; omega)]; exact h.one i e t ht
   ·have e2 : i = S.pv.length := by omega
    rw [if_neg e, if_pos e2, e2]; exact hnew t ht
  ·rw [hn] at ht2; rw [hpv, List.length_append, List.length_singleton] at ht1; rcases Nat.lt_or_ge c k with h6 | h6
   ·rw [hold t ht2 c h6]; exact h.lo t (by omega) ht2 c h6
   ·rw [show c = k by omega, hnew t ht2, if_neg (by omega)]
  ·rw [hpv, List.length_append, List.length_singleton] at hi; rw [hpv, vo_app1] at hci; by_cases e : i < S.pv.length
   ·rw [if_pos e] at hci; rw [hold i (by omega) c (by have := hA.1 i e; omega)]; exact h.lf i e c hci
   ·have e2 : i = S.pv.length := by omega
    rw [if_neg e, if_pos e2] at hci; rw [hold i (by omega) c (by omega), e2]; exact h.lo _ (Nat.le_refl _) hc c (by omega)
theorem red_elim (K : Gn (p ^ m) (fmul p m (dv p v)) g) (hF : FV P M mf p m v) {n wy : Nat} {S : ES} (hS : Shp n w wy S) (he : Els p m S.X) (h0 : S.pv = []) : ∀ k, Red k (elim p m v k S)
 | 0 => ⟨fun i hi => by
   have : (elim p m v 0 S).pv = [] := h0; rw [this] at hi; exact absurd hi (Nat.not_lt_zero _), fun t _ _ c hc => absurd hc (Nat.not_lt_zero _), fun i hi => by
   have : (elim p m v 0 S).pv = [] := h0; rw [this] at hi; exact absurd hi (Nat.not_lt_zero _)⟩
 | k + 1 => by
  rw [elim_succ]; have hk := elim_shp (p := p) (m := m) (v := v) hS k; exact red_step K hF (elim_asc h0 k) (by have := hk.pl; have := hk.xl; omega) (elim_els (by have := hF.p2; omega) he k) (red_elim K hF hS he h0 k)
end
end Go.Proofs.Ytiboieijhehjnaa
set_option linter.unusedVariables false
set_option linter.unusedSimpArgs false
namespace Go.Proofs.Ytiboieijhehjnaa
section
variable {p m v g : Nat} {P M : Int} {mf : List Int} {X Y : List (List Int)} {C : Int} {w : Nat}
def fs (p m : Nat) (f : Nat → Nat) : Nat → Nat
  | 0 => 0
  | n + 1 => fadd p m (fs p m f n) (f n)
theorem fs_lt (hF : FV P M mf p m v) (f : Nat → Nat) : ∀ n, fs p m f n < p ^ m
 | 0 => by have := hF.ring.q2; show 0 < _; omega
 | n + 1 => hF.ring.Al _ _
theorem fs_cg {f h : Nat → Nat} : ∀ n, (∀ i, i < n → f i = h i) → fs p m f n = fs p m h n
 | 0, _ => rfl
 | n + 1, e => by show fadd p m _ _ = fadd p m _ _; rw [fs_cg n fun i hi => e i (by omega), e n (by omega)]
theorem mix (hF : FV P M mf p m v) {a b c d : Nat} (ha : a < p ^ m) (hb : b < p ^ m) (hc : c < p ^ m) (hd : d < p ^ m) : fadd p m (fadd p m a b) (fadd p m c d) = fadd p m (fadd p m a c) (fadd p m b d) := by
 have R := hF.ring; rw [R.Aa ha hb (R.Al _ _), ← R.Aa hb hc hd, R.Ac b c, R.Aa hc hb hd, ← R.Aa ha hc (R.Al _ _)]
theorem fs_lin (hF : FV P M mf p m v) {f h : Nat → Nat} {x : Nat} (hf : ∀ i, f i < p ^ m) (hh : ∀ i, h i < p ^ m) (hx : x < p ^ m) : ∀ n, fs p m (fun i => fadd p m (f i) (fmul p m (dv p v) x (h i))) n = fadd p m (fs p m f n) (fmul p m (dv p v) x (fs p m h n))
 | 0 => by
  have R := hF.ring; show 0 = fadd p m 0 (fmul p m (dv p v) x 0); rw [R.M0 hx, R.Az (by have := R.q2; omega)]
 | n + 1 => by
  have R := hF.ring; show fadd p m (fs p m _ n) _ = fadd p m (fadd p m _ _) (fmul p m (dv p v) x (fadd p m _ _)); rw [fs_lin hF hf hh hx n, R.Md hx (fs_lt hF h n) (hh n), mix hF (fs_lt hF f n) (R.Ml _ _) (hf n) (R.Ml _ _)]
theorem fs_ml (hF : FV P M mf p m v) {f : Nat → Nat} {x : Nat} (hf : ∀ i, f i < p ^ m) (hx : x < p ^ m) : ∀ n, fs p m (fun i => fmul p m (dv p v) x (f i)) n = fmul p m (dv p v) x (fs p m f n)
 | 0 => by show 0 = fmul p m (dv p v) x 0; rw [hF.ring.M0 hx]
 | n + 1 => by
  show fadd p m (fs p m _ n) _ = fmul p m (dv p v) x (fadd p m _ _); rw [fs_ml hF hf hx n, hF.ring.Md hx (fs_lt hF f n) (hf n)]
theorem fs_zero (hF : FV P M mf p m v) {f : Nat → Nat} : ∀ n, (∀ i, i < n → f i = 0) → fs p m f n = 0
 | 0, _ => rfl
 | n + 1, h => by
  show fadd p m (fs p m f n) (f n) = 0; rw [fs_zero hF n fun i hi => h i (by omega), h n (by omega), hF.ring.Az (by have := hF.ring.q2; omega)]
theorem fs_one (hF : FV P M mf p m v) {f : Nat → Nat} {j : Nat} (hj : f j < p ^ m) : ∀ n, j < n → (∀ i, i < n → i ≠ j → f i = 0) → fs p m f n = f j
 | 0, h, _ => absurd h (Nat.not_lt_zero _)
 | n + 1, h, e => by
  have R := hF.ring; show fadd p m (fs p m f n) (f n) = f j; by_cases en : n = j
  ·subst en; rw [fs_zero hF n fun i hi => e i (by omega) (by omega), R.Ac, R.Az hj]
  ·rw [fs_one hF hj n (by omega) fun i hi => e i (by omega), e n (by omega) en, R.Az hj]
def cof (p m v c r : Nat) (pv : Nat → Nat) (nR : Nat → Nat) (a : Nat → Nat) : Nat := fadd p m (a c) (fs p m (fun i => fmul p m (dv p v) (nR i) (a (pv i))) r)
theorem cof_lin (hF : FV P M mf p m v) {c r : Nat} {pv nR : Nat → Nat} (hc : c < w) (hpv : ∀ i, i < r → pv i < w) (hn : ∀ i, nR i < p ^ m) : Lin p m v w (cof p m v c r pv nR) where
 lt a := hF.ring.Al _ _
 cg h := by
  unfold cof; rw [h c hc, fs_cg r fun i hi => by rw [h _ (hpv i hi)]]
 ad {a b x} ha hb hx := by
  have R := hF.ring; unfold cof; have e : (fun i => fmul p m (dv p v) (nR i) (fadd p m (a (pv i)) (fmul p m (dv p v) x (b (pv i))))) = fun i => fadd p m (fmul p m (dv p v) (nR i) (a (pv i))) (fmul p m (dv p v) x (fmul p m (dv p v) (nR i) (b (pv i)))) := funext fun i => by
   rw [R.Md (hn i) (ha _) (R.Ml _ _), ← R.Ma (hn i) hx (hb _), R.Mc (hn i) hx, R.Ma hx (hn i) (hb _)]
  rw [e, fs_lin hF (fun i => R.Ml _ _) (fun i => R.Ml _ _) hx, mix hF (ha c) (R.Ml _ _) (fs_lt hF _ _) (R.Ml _ _), ← R.Md hx (hb c) (fs_lt hF _ _)]
 ml {a x} ha hx := by
  have R := hF.ring; unfold cof; have e : (fun i => fmul p m (dv p v) (nR i) (fmul p m (dv p v) x (a (pv i)))) = fun i => fmul p m (dv p v) x (fmul p m (dv p v) (nR i) (a (pv i))) := funext fun i => by
   rw [← R.Ma (hn i) hx (ha _), R.Mc (hn i) hx, R.Ma hx (hn i) (ha _)]
  rw [e, fs_ml hF (fun i => R.Ml _ _) hx, ← R.Md hx (ha c) (fs_lt hF _ _)]
theorem fv_gen (hF : FV P M mf p m v) : ∃ g, Gn (p ^ m) (fmul p m (dv p v)) g := hF.gen
end
end Go.Proofs.Ytiboieijhehjnaa
set_option linter.unusedVariables false
set_option linter.unusedSimpArgs false
namespace Go.Proofs.Ytiboieijhehjnaa
section
variable {p m v g : Nat} {P M : Int} {mf : List Int} {X Y : List (List Int)} {C : Int} {w : Nat}
theorem en_of (hF : FV P M mf p m v) {l : List Int} {c : Nat} {z : Nat} (hz : z < p ^ m) (h : vo l c = (z : Int)) : en p m l c = z := by unfold en; rw [h]; exact inE_nat hz
theorem can_red (hF : FV P M mf p m v) (hs : shp C X) (he : Els p m X) : Red C.toNat (ec p m v C X) := by
 obtain ⟨g, G⟩ := fv_gen hF; exact red_elim G hF (shp_can hs) he rfl _
theorem can_comb (hF : FV P M mf p m v) (hs : shp C X) (he : Els p m X) {t c : Nat} (ht : t < X.length) (hc : c < C.toNat) :
    en p m (row X t) c = fs p m (fun i => fmul p m (dv p v) (en p m (row X t) (vo (canP p m v C X) i).toNat) (en p m (row (canX p m v C X) i) c)) (canP p m v C X).length := by
  have R := hF.ring
  have q1 : 1 < p ^ m := R.q2
  have hp : 0 < p := by have := hF.p2; omega
  obtain ⟨g, G⟩ := fv_gen hF
  have hS := ec_shp (p := p) (m := m) (v := v) hs
  have red := can_red hF hs he
  have hasc := canP_asc (p := p) (m := m) (v := v) C X
  have hr : (canP p m v C X).length ≤ X.length := canP_len hs
  have hrow : ∀ i, i < (canP p m v C X).length → row (canX p m v C X) i = row (ec p m v C X).X i := fun i hi => row_take hi
  have hneg : ∀ y, y < p ^ m → fneg p m y < p ^ m := fun y _ => fneg_lt hp y
  have L := cof_lin (w := C.toNat) hF (c := c) (r := (canP p m v C X).length) (pv := fun i => (vo (canP p m v C X) i).toNat) (nR := fun i => fneg p m (en p m (row (ec p m v C X).X i) c)) hc (fun i hi => by have := hasc.1 i hi; show (vo (canP p m v C X) i).toNat < _; omega) (fun i => hneg _ (en_lt hF _ _))
  have hann := ann_elim G hF L (shp_can hs) he C.toNat (fun s hsl => by
    have hsl' : s < X.length := by have := hS.xl; exact Nat.lt_of_lt_of_eq hsl this
    show cof _ _ _ _ _ _ _ (en p m (row (ec p m v C X).X s)) = 0
    unfold cof
    by_cases hsr : s < (canP p m v C X).length
    · have hd : ∀ i, i < (canP p m v C X).length → en p m (row (ec p m v C X).X s) (vo (canP p m v C X) i).toNat = if s = i then 1 else 0 := fun i hi => by
        have := red.one i hi s hsl
        by_cases e : s = i
        · rw [if_pos e] at this ⊢; exact en_of hF q1 this
        · rw [if_neg e] at this ⊢; exact en_of hF (by omega) this
      have h9 := fs_one hF (f := fun i => fmul p m (dv p v) (fneg p m (en p m (row (ec p m v C X).X i) c)) (en p m (row (ec p m v C X).X s) (vo (canP p m v C X) i).toNat)) (j := s) (R.Ml _ _) _ hsr fun i hi hne => by
        show fmul p m (dv p v) _ _ = 0
        rw [hd i hi, if_neg (fun e => hne e.symm), R.M0 (hneg _ (en_lt hF _ _))]
      show fadd p m _ (fs p m (fun i => fmul p m (dv p v) (fneg p m (en p m (row (ec p m v C X).X i) c)) (en p m (row (ec p m v C X).X s) (vo (canP p m v C X) i).toNat)) (canP p m v C X).length) = 0
      rw [h9]
      show fadd p m _ (fmul p m (dv p v) _ _) = 0
      rw [hd s hsr, if_pos rfl, R.M1 (hneg _ (en_lt hF _ _))]
      exact fadd_neg hp (en_lt hF _ _)
    · have hz : ∀ d, d < C.toNat → en p m (row (ec p m v C X).X s) d = 0 := fun d hd => en_of hF (by omega) (red.lo s (by show (canP p m v C X).length ≤ s; omega) hsl d hd)
      rw [hz c hc, fs_zero hF _ fun i hi => by
        show fmul p m (dv p v) _ _ = 0
        rw [hz (vo (canP p m v C X) i).toNat (by have := hasc.1 i hi; omega), R.M0 (hneg _ (en_lt hF _ _))], R.Az (by omega)]) t ht
  unfold cof at hann
  have hG := fs_lt hF (fun i => fmul p m (dv p v) (en p m (row X t) (vo (canP p m v C X) i).toNat) (en p m (row (canX p m v C X) i) c)) (canP p m v C X).length
  have hN := fs_lt hF (fun i => fmul p m (dv p v) (fneg p m (en p m (row (ec p m v C X).X i) c)) (en p m (row X t) (vo (canP p m v C X) i).toNat)) (canP p m v C X).length
  have hGN : fadd p m (fs p m (fun i => fmul p m (dv p v) (en p m (row X t) (vo (canP p m v C X) i).toNat) (en p m (row (canX p m v C X) i) c)) (canP p m v C X).length) (fs p m (fun i => fmul p m (dv p v) (fneg p m (en p m (row (ec p m v C X).X i) c)) (en p m (row X t) (vo (canP p m v C X) i).toNat)) (canP p m v C X).length) = 0 := by
    have h1 := fs_lin hF (f := fun i => fmul p m (dv p v) (en p m (row X t) (vo (canP p m v C X) i).toNat) (en p m (row (canX p m v C X) i) c)) (h := fun i => fmul p m (dv p v) (fneg p m (en p m (row (ec p m v C X).X i) c)) (en p m (row X t) (vo (canP p m v C X) i).toNat)) (x := 1) (fun i => R.Ml _ _) (fun i => R.Ml _ _) q1 (canP p m v C X).length
    rw [R.Mc q1 hN, R.M1 hN] at h1
    rw [← h1]
    refine fs_zero hF _ fun i hi => ?_
    show fadd p m (fmul p m (dv p v) _ _) (fmul p m (dv p v) 1 (fmul p m (dv p v) _ _)) = 0
    have ha := en_lt hF (row X t) (vo (canP p m v C X) i).toNat
    have hb := en_lt hF (row (ec p m v C X).X i) c
    rw [R.Mc q1 (R.Ml _ _), R.M1 (R.Ml _ _), hrow i hi, R.Mc (hneg _ hb) ha, ← R.Md ha hb (hneg _ hb), fadd_neg hp hb, R.M0 ha]
  have hx := en_lt hF (row X t) c
  generalize fs p m (fun i => fmul p m (dv p v) (en p m (row X t) (vo (canP p m v C X) i).toNat) (en p m (row (canX p m v C X) i) c)) (canP p m v C X).length = G1 at *
  generalize fs p m (fun i => fmul p m (dv p v) (fneg p m (en p m (row (ec p m v C X).X i) c)) (en p m (row X t) (vo (canP p m v C X) i).toNat)) (canP p m v C X).length = N1 at *
  generalize en p m (row X t) c = a at *
  calc a = fadd p m a (fadd p m G1 N1) := by rw [hGN, R.Az hx]
    _ = fadd p m G1 (fadd p m a N1) := by rw [← R.Aa hx hG hN, R.Ac a G1, R.Aa hG hx hN]
    _ = G1 := by rw [hann, R.Az hG]
theorem cmb_en (hF : FV P M mf p m v) {x : List Int} {n c : Nat} {Z : List (List Int)} (hc : c < n) : ∀ k, en p m (cmb p m v x n Z k) c = fs p m (fun i => fmul p m (dv p v) (inE (p ^ m) (vo x i)) (en p m (row Z i) c)) k
 | 0 => by
  show en p m (List.replicate n 0) c = 0; exact en_of hF (by have := hF.ring.q2; omega) (vo_rep n c)
 | k + 1 => by
  rw [cmb_succ, en_adx hF (by rw [cmb_len]; exact hc), cmb_en hF hc k]; rfl
theorem cmb_els (hF : FV P M mf p m v) {x : List Int} {n : Nat} {Z : List (List Int)} : ∀ k, Elr p m (cmb p m v x n Z k)
 | 0 => elr_of fun t ht => by
  have : vo (cmb p m v x n Z 0) t = 0 := vo_rep n t; rw [this]; exact el_fin (q := 0) (by have := hF.ring.q2; omega)
 | k + 1 => by rw [cmb_succ]; exact adx_els (by have := hF.p2; omega) (cmb_els hF k)
theorem canX_els (hF : FV P M mf p m v) (he : Els p m X) : Els p m (canX p m v C X) := fun r hr => elim_els (S := ⟨X, List.replicate X.length [], [], 1⟩) (by have := hF.p2; omega) he C.toNat r (List.mem_of_mem_take hr)
theorem can_row (hF : FV P M mf p m v) (hs : shp C X) (he : Els p m X) {t : Nat} (ht : t < X.length) : cmb p m v (pkr (row X t) (canP p m v C X)) C.toNat (canX p m v C X) (canX p m v C X).length = row X t := by
 refine vo_ext (by rw [cmb_len, shp_row hs ht]) fun c hc => ?_; have hcl := hc; rw [cmb_len] at hc; have e1 : El p m (vo (cmb p m v (pkr (row X t) (canP p m v C X)) C.toNat (canX p m v C X) (canX p m v C X).length) c) := cmb_els hF _ _ (vo_mem hcl); have e2 : El p m (vo (row X t) c) := els_row he t _ (vo_mem (by rw [shp_row hs ht]; exact hc)); rw [← inE_el e1, ← inE_el e2]; show ((en p m _ c : Nat) : Int) = ((en p m _ c : Nat) : Int)
 rw [cmb_en hF hc, can_comb hF hs he ht hc, canX_len hs]
 congr 1
 refine fs_cg _ fun i hi => ?_; rw [vo_pkr hi]; rfl
theorem can_mck (hF : FV P M mf p m v) (hs : shp C X) (he : Els p m X) : mck P M mf C (canX p m v C X) = 0 := mck_ok ⟨p, m, v, hF⟩ (canX_shp hs) ((elsV_iff hF).2 (canX_els hF he))
theorem can_unit (hF : FV P M mf p m v) (hs : shp C X) (he : Els p m X) {i t : Nat} (hi : i < (canP p m v C X).length) (ht : t < (canP p m v C X).length) : vo (row (canX p m v C X) t) (vo (canP p m v C X) i).toNat = if t = i then 1 else 0 := by
 have hS := ec_shp (p := p) (m := m) (v := v) hs; have := canP_len (p := p) (m := m) (v := v) hs; rw [show row (canX p m v C X) t = row (ec p m v C X).X t from row_take ht]; exact (can_red hF hs he).one i hi t (by have := hS.xl; omega)
theorem can_left (hF : FV P M mf p m v) (hs : shp C X) (he : Els p m X) {i c : Nat} (hi : i < (canP p m v C X).length) (hc : (c : Int) < vo (canP p m v C X) i) : vo (row (canX p m v C X) i) c = 0 := by
 rw [show row (canX p m v C X) i = row (ec p m v C X).X i from row_take hi]; exact (can_red hF hs he).lf i hi c hc
theorem vo_take {l : List Int} {n i : Nat} (h : i < n) : vo (l.take n) i = vo l i := by
 show (l.take n).getD i 0 = l.getD i 0; rw [List.getD_eq_getElem?_getD, List.getElem?_take_of_lt h, ← List.getD_eq_getElem?_getD]
end
end Go.Proofs.Ytiboieijhehjnaa
set_option linter.unusedVariables false
set_option linter.unusedSimpArgs false
namespace Go.Proofs.Ytiboieijhehjnaa
theorem law_MatrixReduced (P M : Int) (mf : List Int) (C : Int) (X : List (List Int)) : V_LReduced P M mf C X (fun b => b = true) := by
 refine w_awake ⟨fun h => absurd h (by decide), fun _ => w_rFew ⟨by omega, by omega⟩ (fun h1 h2 h3 => ⟨fun h => absurd h (by decide), fun _ => ?_⟩) ⟨fun _ => w_awake rfl, fun h => absurd h (by decide)⟩⟩; refine w_Canonical (fun h0 => ⟨fun _ => ⟨fun _ => by simp, fun h => absurd rfl h⟩, fun h => absurd h0 h⟩) fun p m v hF hs he h0 => ⟨fun h => absurd rfl h, fun _ => w_rmCheck ⟨fun h => absurd h0 h, fun _ => ⟨fun h => absurd rfl h, fun _ => ⟨fun h => ?_, fun _ => ⟨fun h => ?_, fun _ => w_mCheck ⟨fun h => ?_, fun _ => w_rmCheck ⟨fun h => ?_, fun _ => ?_⟩⟩⟩⟩⟩⟩⟩
 ·exact absurd (congrArg (fun n : Nat => (n : Int)) (canX_len (p := p) (m := m) (v := v) hs)) h
 ·have := canP_len (p := p) (m := m) (v := v) hs; omega
 ·exact absurd (can_mck hF hs he) h
 ·exact absurd (can_mck hF hs he) h
 have hl := canX_len (p := p) (m := m) (v := v) hs; have hpl := canP_len (p := p) (m := m) (v := v) hs; have hX := shp_len hs; obtain ⟨hX', hC, hC'⟩ := shp_le hs; have hasc := canP_asc (p := p) (m := m) (v := v) C X; have hrl : ∀ t, t < (canP p m v C X).length → (row (canX p m v C X) t).length = C.toNat := fun t ht => canX_row hs (by omega); refine ⟨fun z => ∃ i : Nat, z = i ∧ i ≤ (canP p m v C X).length, fun z => ((canP p m v C X).length - z).toNat, ⟨0, rfl, Nat.zero_le _⟩, ?_⟩; rintro _ ⟨i, rfl, hi⟩; refine ⟨fun hlt => ?_, fun hge => ?_⟩
 ·have hin : i < (canP p m v C X).length := by omega
  have hpi := hasc.1 i hin; have hpi' : 0 ≤ gi (canP p m v C X) (i : Int) ∧ gi (canP p m v C X) (i : Int) < (C.toNat : Int) := hpi; refine ⟨fun _ _ _ _ _ => True, ⟨⟨by omega, by omega⟩, fun h => ?_, fun _ => ⟨fun h => ?_, fun _ => ⟨fun hpos => ⟨small (by omega) (by omega), ⟨by omega, by omega⟩, fun h => ?_, fun _ => ?_⟩, fun _ => ?_⟩⟩⟩, fun _ _ _ _ _ _ => ⟨small (by omega) (by omega), ⟨i + 1, by push_cast; rfl, by omega⟩, by dsimp only; omega⟩⟩
  ·omega
  ·omega
  ·have := hasc.2 (i - 1) i (by omega) hin; have e : gi (canP p m v C X) ((i : Int) - 1) = vo (canP p m v C X) (i - 1) := by
    show vo (canP p m v C X) ((i : Int) - 1).toNat = _; rw [show ((i : Int) - 1).toNat = i - 1 by omega]
   rw [e] at h; have h' : vo (canP p m v C X) i ≤ vo (canP p m v C X) (i - 1) := h; omega
  all_goals
   refine ⟨fun z => ∃ s : Nat, z = s ∧ s ≤ (canX p m v C X).length, fun z => ((canX p m v C X).length - z).toNat, ⟨0, rfl, Nat.zero_le _⟩, ?_⟩; rintro _ ⟨s, rfl, hsl⟩; refine ⟨fun hlt2 => ⟨fun _ => True, ⟨⟨by omega, by omega⟩, fun e => ?_, fun e => ?_⟩, fun _ _ => ⟨small (by omega) (by omega), ⟨s + 1, by push_cast; rfl, by omega⟩, by dsimp only; omega⟩⟩, fun hge2 => ?_⟩
   ·have hu : gi (gl (canX p m v C X) (s : Int)) (gi (canP p m v C X) (i : Int)) = if s = i then 1 else 0 := can_unit hF hs he hin (by omega)
    rw [hu, if_pos (by omega)]; have hb : ((gl (canX p m v C X) (s : Int)).length : Int) = C.toNat := by
     have : (gl (canX p m v C X) (s : Int)).length = C.toNat := hrl s (by omega); omega
    exact ⟨⟨hpi'.1, by omega⟩, fun h => absurd rfl h, fun _ => ⟨fun h => absurd e h, fun _ => trivial⟩⟩
   ·have hu : gi (gl (canX p m v C X) (s : Int)) (gi (canP p m v C X) (i : Int)) = if s = i then 1 else 0 := can_unit hF hs he hin (by omega)
    rw [hu, if_neg (by omega)]; have hb : ((gl (canX p m v C X) (s : Int)).length : Int) = C.toNat := by
     have : (gl (canX p m v C X) (s : Int)).length = C.toNat := hrl s (by omega); omega
    exact ⟨fun _ => ⟨⟨hpi'.1, by omega⟩, fun h => absurd rfl h, fun _ => trivial⟩, fun h => absurd e h⟩
   ·have hb : (gl (canX p m v C X) (i : Int)).length = C.toNat := hrl i hin; refine ⟨⟨by omega, by omega⟩, ⟨hpi'.1, by omega⟩, fun z => ∃ u : Nat, z = u ∧ u ≤ (gi (canP p m v C X) (i : Int)).toNat, fun z => ((gi (canP p m v C X) (i : Int)).toNat - z).toNat, ⟨0, rfl, Nat.zero_le _⟩, ?_⟩; rintro _ ⟨u, rfl, hu⟩; have htl : ((gl (canX p m v C X) (i : Int)).take (gi (canP p m v C X) (i : Int)).toNat).length = (gi (canP p m v C X) (i : Int)).toNat := by rw [List.length_take]; omega
    refine ⟨fun hlt3 => ?_, fun _ => trivial⟩; rw [htl] at hlt3; have hz : gi ((gl (canX p m v C X) (i : Int)).take (gi (canP p m v C X) (i : Int)).toNat) (u : Int) = 0 := by
     show vo ((gl (canX p m v C X) (i : Int)).take (gi (canP p m v C X) (i : Int)).toNat) u = 0; rw [vo_take (by omega)]; exact can_left hF hs he hin (by show (u : Int) < gi (canP p m v C X) (i : Int); omega)
    rw [hz]; exact ⟨⟨by omega, by rw [htl]; omega⟩, fun h => absurd rfl h, fun _ => ⟨small (by omega) (by omega), ⟨u + 1, by push_cast; rfl, by omega⟩, by dsimp only; omega⟩⟩
 ·refine ⟨fun z => ∃ t : Nat, z = t ∧ t ≤ X.length, fun z => (X.length - z).toNat, ⟨0, rfl, Nat.zero_le _⟩, ?_⟩; rintro _ ⟨t, rfl, ht⟩; refine ⟨fun hlt => ?_, fun _ => rfl⟩; have htl : t < X.length := by omega
  have hr := shp_row hs htl; refine ⟨⟨by omega, by omega⟩, _, w_rPick (by omega) (fun j hj => ?_) rfl, _, w_rCombine hF (canX_shp hs) (by rw [pkr_len, hl]) rfl, true, ?_, fun h => absurd h (by decide), fun _ => ⟨small (by omega) (by omega), ⟨t + 1, by push_cast; rfl, by omega⟩, by dsimp only; omega⟩⟩
  ·have := hasc.1 j hj; exact ⟨this.1, by show _ < ((row X t).length : Int); omega⟩
  ·show V_rSameInts (cmb p m v (pkr (row X t) (canP p m v C X)) C.toNat (canX p m v C X) (canX p m v C X).length) (row X t) _; rw [can_row hF hs he htl]; exact w_rSameInts (by omega) rfl
end Go.Proofs.Ytiboieijhehjnaa
