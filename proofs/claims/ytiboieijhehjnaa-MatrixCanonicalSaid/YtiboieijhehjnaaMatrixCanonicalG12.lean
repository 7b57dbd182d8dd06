/- Contracts of functions of the program, and what they lean on: M4, M5, M6, M7. -/
import Derived.Test.YtiboieijhehjnaaMatrixCanonicalG11
set_option linter.unusedVariables false
set_option linter.unusedSimpArgs false
namespace Go.Proofs.Ytiboieijhehjnaa
section
variable {F : GFv} {p m v g : Nat} {P M : Int} {mf : List Int} {X Y : List (List Int)} {C : Int}
def ElsV (P M : Int) (mf : List Int) (X : List (List Int)) : Prop := ∃ p m v, FV P M mf p m v ∧ Els p m X
open Classical in
/-- the error of a matrix over a field -/
noncomputable def mck (P M : Int) (mf : List Int) (C : Int) (X : List (List Int)) : Int := if ¬ Valid P M mf then 1 else if ¬ shp C X then 3 else if ¬ ElsV P M mf X then 2 else 0
theorem FV.uniq {p' m' v' : Nat} (h : FV P M mf p m v) (h' : FV P M mf p' m' v') : p = p' ∧ m = m' := ⟨by have := h.eP; have := h'.eP; omega, by have := h.eM; have := h'.eM; omega⟩
theorem elsV_iff (h : FV P M mf p m v) : ElsV P M mf X ↔ Els p m X := ⟨fun ⟨p', m', v', h1, h2⟩ => by obtain ⟨rfl, rfl⟩ := h.uniq h1; exact h2, fun h2 => ⟨p, m, v, h, h2⟩⟩
theorem mck_no (h : ¬ Valid P M mf) : mck P M mf C X = 1 := if_pos h
theorem mck_shp (h : Valid P M mf) (hs : ¬ shp C X) : mck P M mf C X = 3 := by unfold mck; rw [if_neg (fun hh => hh h), if_pos hs]
theorem mck_els (h : Valid P M mf) (hs : shp C X) (he : ¬ ElsV P M mf X) : mck P M mf C X = 2 := by unfold mck; rw [if_neg (fun hh => hh h), if_neg (fun hh => hh hs), if_pos he]
theorem mck_ok (h : Valid P M mf) (hs : shp C X) (he : ElsV P M mf X) : mck P M mf C X = 0 := by unfold mck; rw [if_neg (fun hh => hh h), if_neg (fun hh => hh hs), if_neg (fun hh => hh he)]
theorem mck_zero (h : mck P M mf C X = 0) : Valid P M mf ∧ shp C X ∧ ElsV P M mf X := by
 by_cases h1 : Valid P M mf
 ·by_cases h2 : shp C X
  ·by_cases h3 : ElsV P M mf X
   ·exact ⟨h1, h2, h3⟩
   ·rw [mck_els h1 h2 h3] at h; exact absurd h (by decide)
  ·rw [mck_shp h1 h2] at h; exact absurd h (by decide)
 ·rw [mck_no h1] at h; exact absurd h (by decide)
theorem shp_len (h : shp C X) : X.length ≤ 256 := h.2.2.1
theorem shp_row (h : shp C X) {t : Nat} (ht : t < X.length) : (row X t).length = C.toNat := by
 have := h.2.2.2 _ (row_mem ht); have := h.1; omega
/-- the first of several matrices that has an error -/
noncomputable def oprM (P M : Int) (mf : List Int) : List Mt → Int
  | [] => 0
  | (C, X) :: ms => if mck P M mf C X = 0 then oprM P M mf ms else mck P M mf C X
theorem w_open {ms : List Mt} {Q : Option GFv × Int → Prop} (hl : ms.length ≤ 1000) (hno : ¬ Valid P M mf → Q (none, 1))
  (h : ∀ (F : GFv) (p m v g : Nat), GFk F p m v g → FV P M mf p m v → oprM P M mf ms = 0 → Q (some F, 0)) (hb : Valid P M mf → oprM P M mf ms ≠ 0 → Q (none, oprM P M mf ms)) : V_open P M mf ms Q := by
 refine v_New (fun hn => ⟨fun h0 => ⟨h0, hno hn⟩, fun h0 => absurd (show (1 : Int) ≠ 0 by decide) h0⟩) fun F p m v g K eP eM emf => ⟨fun h0 => absurd rfl h0, fun _ => ?_⟩
 have hF : FV P M mf p m v := by rw [← eP, ← eM, ← emf]; exact K.fv
 have hV : Valid P M mf := ⟨p, m, v, hF⟩
 refine ⟨fun z => ∃ t : Nat, z = t ∧ t ≤ ms.length ∧ oprM P M mf (ms.drop t) = oprM P M mf ms, fun z => (ms.length - z).toNat, ⟨0, rfl, Nat.zero_le _, rfl⟩, ?_⟩; rintro _ ⟨t, rfl, ht, he⟩; refine ⟨fun hlt => ?_, fun hge => ?_⟩
 ·have htl : t < ms.length := by omega
  have hd : ms.drop t = gm ms t :: ms.drop (t + 1) := by
   rw [List.drop_eq_getElem_cons htl]
   congr 1
   unfold gm; show _ = ms.getD t (0, []); rw [List.getD_eq_getElem?_getD, List.getElem?_eq_getElem htl]; rfl
  rw [hd] at he; generalize gm ms t = mt at *
  obtain ⟨C, X⟩ := mt; simp only [oprM] at he; dsimp only; refine ⟨⟨by omega, by omega⟩, w_isShaped (fun hs => ⟨fun h => absurd h (by decide), fun _ => ?_⟩) (fun hs => ⟨fun _ => ⟨by decide, ?_⟩, fun h => absurd h (by decide)⟩)⟩
  ·refine ⟨fun z => ∃ s : Nat, z = s ∧ s ≤ X.length ∧ ∀ k, k < s → Elr p m (row X k), fun z => (X.length - z).toNat, ⟨0, rfl, Nat.zero_le _, fun k hk => by omega⟩, ?_⟩; rintro _ ⟨s, rfl, hs1, hs2⟩; have hX : X.length ≤ 256 := shp_len hs; dsimp only; refine ⟨fun hlt2 => ⟨⟨by omega, by omega⟩, w_areElements K (by show (row X s).length ≤ _; rw [shp_row hs (by omega)]; have := hs.2.1; omega) (fun hel => ⟨fun h => absurd h (by decide), fun _ => ⟨small (by omega) (by omega), ⟨s + 1, by push_cast; rfl, by omega, fun k hk => ?_⟩, by omega⟩⟩) (fun hel => ⟨fun _ => ⟨by decide, ?_⟩, fun h => absurd h (by decide)⟩)⟩, fun hge2 => ?_⟩
   ·rcases Nat.lt_or_ge k s with h | h
    ·exact hs2 k h
    ·rw [show k = s by omega]; exact hel
   ·have e : mck P M mf C X = 2 := mck_els hV hs fun hv => hel (els_row ((elsV_iff hF).1 hv) s); rw [e, if_neg (by decide)] at he; have := hb hV (by rw [← he]; decide)
    rwa [← he] at this
   ·have e : mck P M mf C X = 0 := mck_ok hV hs ((elsV_iff hF).2 (els_of fun k hk => hs2 k (by omega))); rw [e, if_pos rfl] at he; exact ⟨small (by omega) (by omega), ⟨t + 1, by push_cast; rfl, by omega, he⟩, by omega⟩
  ·have e : mck P M mf C X = 3 := mck_shp hV hs; rw [e, if_neg (by decide)] at he; have := hb hV (by rw [← he]; decide)
   rwa [← he] at this
 ·rw [show t = ms.length by omega, List.drop_length] at he; exact h F p m v g K hF he.symm
theorem oprM_one : oprM P M mf [(C, X)] = mck P M mf C X := by
 simp only [oprM]; split
 ·rename_i h; exact h.symm
 ·rfl
/-- one matrix -/
theorem w_open1 {Q : Option GFv × Int → Prop} (hb : mck P M mf C X ≠ 0 → Q (none, mck P M mf C X))
    (h : ∀ (F : GFv) (p m v g : Nat), GFk F p m v g → FV P M mf p m v → shp C X → Els p m X → mck P M mf C X = 0 → Q (some F, 0)) : V_open P M mf [(C, X)] Q := by
  refine w_open (by simp) (fun hn => ?_) (fun F p m v g K hF he => ?_) (fun hV he => ?_)
  · have := hb (by rw [mck_no hn]; decide); rwa [mck_no hn] at this
  · rw [oprM_one] at he
    obtain ⟨_, h2, h3⟩ := mck_zero he
    exact h F p m v g K hF h2 ((elsV_iff hF).1 h3) he
  · rw [oprM_one] at he ⊢; exact hb he
theorem w_mCheck {Q : Int → Prop} (h : Q (mck P M mf C X)) : V_mCheck P M mf C X Q := w_open1 (fun _ _ => h) (fun F p m v g K hF h1 h2 h3 => by show Q 0; rw [← h3]; exact h)
theorem w_rmCheck {Q : Int → Prop} (h : Q (mck P M mf C X)) : V_rmCheck P M mf C X Q := by
 refine v_rCheck ?_; by_cases hV : Valid P M mf
 ·rw [ck_ok hV]; refine ⟨fun h0 => absurd rfl h0, fun _ => ⟨fun h0 => ?_, fun h0 => ⟨fun h1 => ?_, fun h1 => ⟨fun h2 => ?_, fun h2 => ?_⟩⟩⟩⟩
  ·rw [mck_shp hV fun s => by have := s.1; omega] at h; exact h
  ·rw [mck_shp hV fun s => by have := s.2.1; omega] at h; exact h
  ·rw [mck_shp hV fun s => by have := s.2.2.1; omega] at h; exact h
  ·refine ⟨fun z => ∃ t : Nat, z = t ∧ t ≤ X.length ∧ ∀ k, k < t → ((row X k).length : Int) = C, fun z => (X.length - z).toNat, ⟨0, rfl, Nat.zero_le _, fun k hk => by omega⟩, ?_⟩; rintro _ ⟨t, rfl, ht, hk⟩; dsimp only; refine ⟨fun hlt => ⟨⟨by omega, by omega⟩, fun hne => ?_, fun he => ⟨small (by omega) (by omega), ⟨t + 1, by push_cast; rfl, by omega, fun k hk' => ?_⟩, by omega⟩⟩, fun hge => ?_⟩
   ·rw [mck_shp hV fun s => hne (s.2.2.2 _ (row_mem (by omega)))] at h; exact h
   ·rcases Nat.lt_or_ge k t with h | h
    ·exact hk k h
    ·rw [show k = t by omega]; exact Classical.not_not.1 he
   ·have hs : shp C X := ⟨by omega, by omega, by omega, fun r hr => by obtain ⟨s, h3, rfl⟩ := mem_row hr; exact hk s (by omega)⟩
    obtain ⟨p, m, v, hF⟩ := hV; refine ⟨fun r z => r = 0 ∧ ∃ s : Nat, z = s ∧ s ≤ X.length ∧ ∀ k, k < s → Elr p m (row X k), fun _ z => (X.length - z).toNat, ⟨rfl, 0, rfl, Nat.zero_le _, fun k hk => by omega⟩, ?_⟩; rintro _ _ ⟨rfl, s, rfl, hs1, hs2⟩; dsimp only; refine ⟨fun hlt2 => ⟨⟨by omega, by omega⟩, ?_⟩, fun hge2 => ?_⟩
    ·have hrl : (row X s).length ≤ 1000000 := by rw [shp_row hs (by omega)]; have := hs.2.1; omega
     by_cases hel : Elr p m (row X s)
     ·refine ⟨0, w_rEntries hF hrl (fun _ => rfl) (fun h => absurd hel h), fun h0 => absurd rfl h0, fun _ => ⟨small (by omega) (by omega), ⟨rfl, s + 1, by push_cast; rfl, by omega, fun k hk' => ?_⟩, by omega⟩⟩; rcases Nat.lt_or_ge k s with h | h
      ·exact hs2 k h
      ·rw [show k = s by omega]; exact hel
     ·refine ⟨2, w_rEntries hF hrl (fun h => absurd h hel) (fun _ => rfl), fun _ => ?_, fun h0 => absurd (by decide) h0⟩; rw [mck_els ⟨p, m, v, hF⟩ hs fun hv => hel (els_row ((elsV_iff hF).1 hv) s)] at h; exact h
    ·rw [mck_ok ⟨p, m, v, hF⟩ hs ((elsV_iff hF).2 (els_of fun k hk' => hs2 k (by omega)))] at h; exact h
 ·rw [ck_no hV]; rw [mck_no hV] at h; exact ⟨fun _ => h, fun h0 => absurd (by decide) h0⟩
/-! ### canonical matrices -/
def ec (p m v : Nat) (C : Int) (X : List (List Int)) : ES := elim p m v C.toNat ⟨X, List.replicate X.length [], [], 1⟩
def canX (p m v : Nat) (C : Int) (X : List (List Int)) : List (List Int) := (ec p m v C X).X.take (ec p m v C X).pv.length
def canP (p m v : Nat) (C : Int) (X : List (List Int)) : List Int := (ec p m v C X).pv
theorem row_rep {n t : Nat} {l : List Int} (h : t < n) : row (List.replicate n l) t = l := by
 unfold row; rw [List.getD_eq_getElem?_getD, List.getElem?_replicate, if_pos h]; rfl
theorem shp_S0 (hs : shp C X) {Z : List (List Int)} {wz : Nat} {d : Int} (hZ : Z.length = X.length) (hz : ∀ t, t < X.length → (row Z t).length = wz) : Shp X.length C.toNat wz ⟨X, Z, [], d⟩ := ⟨rfl, fun t ht => shp_row hs ht, hZ, hz, Nat.zero_le _⟩
theorem shp_can (hs : shp C X) : Shp X.length C.toNat 0 ⟨X, List.replicate X.length [], [], 1⟩ := shp_S0 hs (by simp) fun t ht => by rw [row_rep ht]; rfl
theorem shp_le (hs : shp C X) : X.length ≤ 256 ∧ C.toNat ≤ 256 ∧ ((C.toNat : Nat) : Int) = C := ⟨hs.2.2.1, by have := hs.2.1; omega, by have := hs.1; omega⟩
theorem shp_rows (hs : shp C X) : ∀ r ∈ X, r.length ≤ 1000000 := fun r hr => by have := hs.2.2.2 r hr; have := hs.2.1; omega
theorem ec_shp (hs : shp C X) : Shp X.length C.toNat 0 (ec p m v C X) := elim_shp (shp_can hs) _
theorem w_canonical {Q : Int × List (List Int) × List Int → Prop} (K : GFk F p m v g) (hs : shp C X) (h : Q (C, canX p m v C X, canP p m v C X)) : V_canonical F C X Q := by
 obtain ⟨h1, h2, h3⟩ := shp_le hs; refine w_cloneL (by omega) (shp_rows hs) ⟨⟨by omega, by omega, by omega⟩, ?_⟩; show V_eliminate F C X (List.replicate X.length ([] : List Int)) _; rw [← h3]; refine w_eliminate K (by omega) (by omega) (wy := 0) (by omega) (shp_can hs) ?_; rw [h3]; have := (ec_shp (p := p) (m := m) (v := v) hs).pl; exact ⟨⟨by omega, by show ((ec p m v C X).pv.length : Int) ≤ _; omega⟩, h⟩
theorem w_Canonical {Q : Int × List (List Int) × List Int × Int → Prop} (hb : mck P M mf C X ≠ 0 → Q (0, [], [], mck P M mf C X))
  (h : ∀ p m v, FV P M mf p m v → shp C X → Els p m X → mck P M mf C X = 0 → Q (C, canX p m v C X, canP p m v C X, 0)) : V_Canonical P M mf C X Q :=
 w_open1 (fun h0 _ => hb h0) fun F p m v g K hF hs he h0 => w_canonical K hs (h p m v hF hs he h0)
theorem w_rCanon {Q : List (List Int) × List Int → Prop} (hF : FV P M mf p m v) (hs : shp C X) (he : Els p m X) (h : Q (canX p m v C X, canP p m v C X)) : V_rCanon P M mf X C Q := by
 obtain ⟨h1, h2, h3⟩ := shp_le hs; show V_rEliminate P M mf X C _; rw [← h3]; refine w_rEliminate hF (by omega) (by omega) (shp_can hs) he ?_; have h4 := ec_shp (p := p) (m := m) (v := v) hs; exact ⟨⟨by omega, by have := h4.pl; have := h4.xl; show ((ec p m v C X).pv.length : Int) ≤ ((ec p m v C X).X.length : Nat); omega⟩, h⟩
theorem w_rCanonical {Q : Int × List (List Int) × List Int × Int → Prop} (hb : mck P M mf C X ≠ 0 → Q (0, [], [], mck P M mf C X))
  (h : ∀ p m v, FV P M mf p m v → shp C X → Els p m X → mck P M mf C X = 0 → Q (C, canX p m v C X, canP p m v C X, 0)) : V_rCanonical P M mf C X Q := by
 refine w_rmCheck ⟨fun h0 => hb h0, fun h0 => ?_⟩; have h0' : mck P M mf C X = 0 := Classical.not_not.1 h0; obtain ⟨⟨p, m, v, hF⟩, h2, h3⟩ := mck_zero h0'; exact w_rCanon hF h2 ((elsV_iff hF).1 h3) (h p m v hF h2 ((elsV_iff hF).1 h3) h0')
theorem w_Rank {Q : Int × Int → Prop} (hb : mck P M mf C X ≠ 0 → Q (0, mck P M mf C X))
 (h : ∀ p m v, FV P M mf p m v → shp C X → Els p m X → mck P M mf C X = 0 → Q (((canP p m v C X).length : Nat), 0)) : V_Rank P M mf C X Q := w_Canonical hb h
theorem FV.uniq3 {p' m' v' : Nat} (h : FV P M mf p m v) (h' : FV P M mf p' m' v') : p = p' ∧ m = m' ∧ v = v' := by
 obtain ⟨e1, e2⟩ := h.uniq h'; subst e1; subst e2; refine ⟨rfl, rfl, ?_⟩; by_cases hm : m = 1
 ·rw [(h.m1 hm).2, (h'.m1 hm).2]
 ·have e1 := h.m2 hm; have e2 := h'.m2 hm; have hp := h.p2; have h3 : dv p v = dv p v' := by rw [← h.vo, ← h'.vo]
  have h4 := nm_dv (p := p) (m := m) (x := v) (by omega) h.vlt; have h5 := nm_dv (p := p) (m := m) (x := v') (by omega) h'.vlt; rw [← h4, ← h5, h3]
end
end Go.Proofs.Ytiboieijhehjnaa
set_option linter.unusedVariables false
set_option linter.unusedSimpArgs false
namespace Go.Proofs.Ytiboieijhehjnaa
/-! ### pivots ascend -/
section
variable {p m v : Nat}
/-- the pivots of a state of k columns: ascending, below k -/
def Asc (k : Nat) (l : List Int) : Prop := (∀ i, i < l.length → 0 ≤ vo l i ∧ vo l i < (k : Int)) ∧ ∀ i j, i < j → j < l.length → vo l i < vo l j
theorem vo_app1 {l : List Int} {x : Int} {i : Nat} : vo (l ++ [x]) i = if i < l.length then vo l i else if i = l.length then x else 0 := by
 unfold vo; rw [List.getD_eq_getElem?_getD, List.getD_eq_getElem?_getD, List.getElem?_append]; by_cases h : i < l.length
 ·rw [if_pos h, if_pos h]
 ·rw [if_neg h, if_neg h]; by_cases h2 : i = l.length
  ·subst h2; simp
  ·rw [if_neg h2]; have : i - l.length ≠ 0 := by omega
   cases hh : i - l.length with
   | zero => omega
   | succ n => simp
theorem Asc.snoc {k : Nat} {l : List Int} (h : Asc k l) : Asc (k + 1) (l ++ [(k : Int)]) := by
 refine ⟨fun i hi => ?_, fun i j hij hj => ?_⟩
 ·rw [List.length_append] at hi; rw [vo_app1]; split
  ·rename_i h1; have := h.1 i h1; omega
  ·split
   ·omega
   ·simp at hi; omega
 ·rw [List.length_append] at hj; have hj' : j < l.length + 1 := by simpa using hj
  rw [vo_app1, vo_app1, if_pos (show i < l.length by omega)]; split
  ·rename_i h1; exact h.2 i j hij h1
  ·rw [if_pos (show j = l.length by omega)]; exact (h.1 i (by omega)).2
theorem Asc.up {k : Nat} {l : List Int} (h : Asc k l) : Asc (k + 1) l := ⟨fun i hi => by have := h.1 i hi; omega, h.2⟩
theorem elim_asc {S : ES} (h : S.pv = []) : ∀ k, Asc k (elim p m v k S).pv
 | 0 => by
  show Asc 0 S.pv; rw [h]; exact ⟨fun i hi => absurd hi (Nat.not_lt_zero i), fun i j _ hj => absurd hj (Nat.not_lt_zero j)⟩
 | k + 1 => by
  have ih := elim_asc h k; rw [elim_succ]; unfold estep; split
  ·exact ih.snoc
  ·exact ih.up
theorem canP_asc (C : Int) (X : List (List Int)) : Asc C.toNat (canP p m v C X) := elim_asc rfl _
end
section
variable {F : GFv} {p m v g : Nat} {P M : Int} {mf : List Int} {X Y : List (List Int)} {C : Int}
theorem w_search {l : List Int} {x : Int} {k : Nat} {Q : Int × Bool → Prop} (hl : l.length ≤ 1000000) (hs : Asc k l) (h1 : ∀ i, (∃ j, j < l.length ∧ vo l j = x) → Q (i, true)) (h2 : ∀ i, (¬ ∃ j, j < l.length ∧ vo l j = x) → Q (i, false)) : V_search l x Q := by
 refine ⟨fun a b => ∃ s t : Nat, a = s ∧ b = t ∧ s ≤ t ∧ t ≤ l.length ∧ (∀ j, j < s → vo l j < x) ∧ ∀ j, t ≤ j → j < l.length → x ≤ vo l j, fun a b => (b - a).toNat, ⟨0, l.length, rfl, rfl, Nat.zero_le _, Nat.le_refl _, fun j hj => by omega, fun j hj1 hj2 => by omega⟩, ?_⟩; rintro _ _ ⟨s, t, rfl, rfl, hst, htl, hlo, hhi⟩; dsimp only; refine ⟨fun hlt => ?_, fun hge => ?_⟩
 ·obtain ⟨q, hq⟩ : ∃ q : Nat, ((s : Int) + t).fdiv 2 = q := ⟨(s + t) / 2, by
   rw [Int.fdiv_eq_ediv_of_nonneg _ (by decide)]; omega⟩
  have hq2 : q = (s + t) / 2 := by
   have : ((s : Int) + t).fdiv 2 = (((s + t) / 2 : Nat) : Int) := by rw [Int.fdiv_eq_ediv_of_nonneg _ (by decide)]; omega
   omega
  rw [hq]; have hql : q < l.length := by omega
  rw [gi_nat]; refine ⟨small (by omega) (by omega), ⟨by omega, by omega⟩, small (by omega) (by omega), ⟨by omega, by omega⟩, ?_⟩; show (decide (vo l q ≠ vo l q) = true → _) ∧ (decide (vo l q ≠ vo l q) = false → _)
  refine ⟨fun h => absurd (of_decide_eq_true h) (fun h => h rfl), fun _ => ⟨fun h => ?_, fun h => ?_⟩⟩
  ·have hlt2 := of_decide_eq_true h; refine ⟨small (by omega) (by omega), ⟨q + 1, t, by push_cast; rfl, rfl, by omega, htl, fun j hj => ?_, hhi⟩, by omega⟩; rcases Nat.lt_or_ge j q with h3 | h3
   ·have := hs.2 j q h3 hql; omega
   ·rw [show j = q by omega]; exact hlt2
  ·have hge2 := of_decide_eq_false h; refine ⟨⟨s, q, rfl, rfl, by omega, by omega, hlo, fun j hj1 hj2 => ?_⟩, by omega⟩; rcases Nat.eq_or_lt_of_le hj1 with h3 | h3
   ·subst h3; omega
   ·have := hs.2 q j h3 hj2; omega
 ·have hse : s = t := by omega
  subst hse; rw [gi_nat]; refine ⟨fun hlt2 => ⟨⟨by omega, by omega⟩, fun he => h1 _ ⟨s, by omega, he⟩, fun hne => ⟨⟨by omega, by omega⟩, ?_⟩⟩, fun hge2 => ?_⟩
  ·have hno : ¬ ∃ j, j < l.length ∧ vo l j = x := fun ⟨j, hj, he⟩ => by
    rcases Nat.lt_trichotomy j s with h3 | h3 | h3
    ·have := hlo j h3; omega
    ·subst h3; exact hne he
    ·have := hs.2 s j h3 hj; have := hhi s (Nat.le_refl _) (by omega); omega
   show (decide (vo l s ≠ vo l s) = true → _) ∧ (decide (vo l s ≠ vo l s) = false → _)
   exact ⟨fun h => absurd (of_decide_eq_true h) (fun h => h rfl), fun _ => h2 _ hno⟩
  ·refine h2 _ fun ⟨j, hj, he⟩ => ?_; have := hlo j (by omega); omega
/-- the solution with 1 at column t -/
def solF (p m : Nat) (C : Nat) (R : List (List Int)) (pv : List Int) (t k : Nat) : List Int := (List.range k).foldl (fun x i => x.set (vo pv i).toNat (Ng p m (vo (row R i) t))) ((List.replicate C 0).set t 1)
theorem solF_succ (C : Nat) (R : List (List Int)) (pv : List Int) (t k : Nat) : solF p m C R pv t (k + 1) = (solF p m C R pv t k).set (vo pv k).toNat (Ng p m (vo (row R k) t)) := by
 unfold solF; rw [List.range_succ, List.foldl_append]; rfl
theorem solF_len (C : Nat) (R : List (List Int)) (pv : List Int) (t : Nat) : ∀ k, (solF p m C R pv t k).length = C
 | 0 => by simp [solF]
 | k + 1 => by rw [solF_succ, List.length_set]; exact solF_len C R pv t k
theorem w_solution {R : List (List Int)} {pv : List Int} {t : Nat} {Q : List Int → Prop} (K : GFk F p m v g) (hC : 0 ≤ C ∧ C ≤ 256) (ht : t < C.toNat) (hR : pv.length ≤ R.length) (hl : pv.length ≤ 1000000) (hr : ∀ i, i < R.length → t < (row R i).length) (hp : Asc C.toNat pv)
  (h : Q (solF p m C.toNat R pv t pv.length)) : V_solution F C R pv t Q := by
 refine ⟨⟨by omega, by omega, by omega⟩, ⟨by omega, by omega⟩, fun x z => ∃ k : Nat, z = k ∧ k ≤ pv.length ∧ x = solF p m C.toNat R pv t k, fun _ z => (pv.length - z).toNat, ⟨0, rfl, Nat.zero_le _, rfl⟩, ?_⟩; rintro _ _ ⟨k, rfl, hk, rfl⟩; dsimp only; rw [gi_nat]; refine ⟨fun hlt => ⟨⟨by omega, by omega⟩, ⟨by omega, by omega⟩, ⟨by omega, by show (t : Int) < ((row R k).length : Nat); have := hr k (by omega); omega⟩, v_Neg K ?_⟩, fun hge => by rw [show k = pv.length by omega]; exact h⟩; have hv : 0 ≤ gi pv (k : Int) ∧ gi pv (k : Int) < ((C.toNat : Nat) : Int) := hp.1 k (by omega); refine ⟨⟨hv.1, by have := hv.2; omega⟩, small (by omega) (by omega), ⟨k + 1, by push_cast; rfl, by omega, ?_⟩, by omega⟩; rw [solF_succ]; rfl
/-- the basis of the kernel, of the first k columns -/
def inP (pv : List Int) (c : Nat) : Bool := (List.range pv.length).any fun i => vo pv i == (c : Int)
theorem inP_iff {pv : List Int} {c : Nat} : inP pv c = true ↔ ∃ j, j < pv.length ∧ vo pv j = (c : Int) := by
 unfold inP; rw [List.any_eq_true]; exact ⟨fun ⟨i, hi, h⟩ => ⟨i, List.mem_range.1 hi, by simpa using h⟩, fun ⟨i, hi, h⟩ => ⟨i, List.mem_range.2 hi, by simpa using h⟩⟩
def bas (p m : Nat) (C : Nat) (R : List (List Int)) (pv : List Int) (k : Nat) : List (List Int) := (List.range k).foldl (fun B c => if inP pv c then B else B ++ [solF p m C R pv c pv.length]) []
theorem bas_succ (C : Nat) (R : List (List Int)) (pv : List Int) (k : Nat) : bas p m C R pv (k + 1) = if inP pv k then bas p m C R pv k else bas p m C R pv k ++ [solF p m C R pv k pv.length] := by
 unfold bas; rw [List.range_succ, List.foldl_append]; rfl
theorem bas_len (C : Nat) (R : List (List Int)) (pv : List Int) : ∀ k, (bas p m C R pv k).length ≤ k
 | 0 => Nat.le_refl _
 | k + 1 => by
  rw [bas_succ]; have := bas_len C R pv k; split
  ·omega
  ·rw [List.length_append]; simp; omega
theorem bas_mem (C : Nat) (R : List (List Int)) (pv : List Int) : ∀ k, ∀ r ∈ bas p m C R pv k, ∃ c, c < k ∧ inP pv c = false ∧ r = solF p m C R pv c pv.length
 | 0, r, h => by cases h
 | k + 1, r, h => by
  rw [bas_succ] at h; split at h
  ·obtain ⟨c, h1, h2⟩ := bas_mem C R pv k r h; exact ⟨c, by omega, h2⟩
  ·rename_i hn
   rcases List.mem_append.1 h with h | h
   ·obtain ⟨c, h1, h2⟩ := bas_mem C R pv k r h; exact ⟨c, by omega, h2⟩
   ·exact ⟨k, by omega, by simpa using hn, by simpa using h⟩
def basC (p m v : Nat) (C : Int) (X : List (List Int)) : List (List Int) := bas p m C.toNat (canX p m v C X) (canP p m v C X) C.toNat
theorem basC_shp (hs : shp C X) : shp C (basC p m v C X) := by
 obtain ⟨h1, h2, h3⟩ := shp_le hs; refine ⟨hs.1, hs.2.1, by have := bas_len (p := p) (m := m) C.toNat (canX p m v C X) (canP p m v C X) C.toNat; unfold basC; omega, fun r hr => ?_⟩; obtain ⟨c, _, _, rfl⟩ := bas_mem _ _ _ _ r hr; rw [solF_len]; exact h3
theorem canX_len (hs : shp C X) : (canX p m v C X).length = (canP p m v C X).length := by
 have h0 := ec_shp (p := p) (m := m) (v := v) hs; unfold canX canP; rw [List.length_take]; have h1 := h0.pl; have h2 := h0.xl; omega
theorem row_take {Z : List (List Int)} {n t : Nat} (h : t < n) : row (Z.take n) t = row Z t := by
 unfold row; rw [List.getD_eq_getElem?_getD, List.getD_eq_getElem?_getD, List.getElem?_take, if_pos h]
theorem canX_row (hs : shp C X) {t : Nat} (ht : t < (canX p m v C X).length) : (row (canX p m v C X) t).length = C.toNat := by
 have h1 := ec_shp (p := p) (m := m) (v := v) hs; rw [canX_len hs] at ht; unfold canX; rw [row_take (n := (ec p m v C X).pv.length) ht]; exact h1.xr t (Nat.lt_of_lt_of_le ht h1.pl)
theorem canX_shp (hs : shp C X) : shp C (canX p m v C X) := by
 obtain ⟨h1, h2, h3⟩ := shp_le hs; have h4 := ec_shp (p := p) (m := m) (v := v) hs; refine ⟨hs.1, hs.2.1, by rw [canX_len hs]; have := h4.pl; show (ec p m v C X).pv.length ≤ 256; omega, fun r hr => ?_⟩; obtain ⟨t, ht, rfl⟩ := mem_row hr; rw [canX_row hs ht]; exact h3
theorem canP_len (hs : shp C X) : (canP p m v C X).length ≤ X.length := (ec_shp (p := p) (m := m) (v := v) hs).pl
theorem w_Kernel {Q : Int × List (List Int) × Int → Prop} (hb : mck P M mf C X ≠ 0 → Q (0, [], mck P M mf C X))
  (h : ∀ p m v, FV P M mf p m v → shp C X → Els p m X → mck P M mf C X = 0 → Q (C, canX p m v C (basC p m v C X), 0)) : V_Kernel P M mf C X Q := by
 refine w_open1 (fun h0 _ => hb h0) fun F p m v g K hF hs he h0 => w_canonical K hs ?_; obtain ⟨h1, h2, h3⟩ := shp_le hs; have hpl := canP_len (p := p) (m := m) (v := v) hs; have hcl := canX_len (p := p) (m := m) (v := v) hs; have hasc := canP_asc (p := p) (m := m) (v := v) C X; have hrow := fun i (hi : i < (canX p m v C X).length) => canX_row (p := p) (m := m) (v := v) hs hi; have hfin := w_canonical (Q := fun q => Q (q.1, q.2.1, 0)) K (basC_shp (p := p) (m := m) (v := v) hs) (h p m v hF hs he h0); unfold basC at hfin; generalize canX p m v C X = R at *
 generalize canP p m v C X = pv at *
 refine ⟨fun x z => ∃ k : Nat, z = k ∧ k ≤ C.toNat ∧ x = bas p m C.toNat R pv k, fun _ z => (C - z).toNat, ⟨0, rfl, Nat.zero_le _, rfl⟩, ?_⟩; rintro _ _ ⟨k, rfl, hk, rfl⟩; have hbl := bas_len (p := p) (m := m) C.toNat R pv k; dsimp only; refine ⟨fun hlt => ⟨fun x _ _ => x = bas p m C.toNat R pv (k + 1), w_search (by omega) hasc (fun i hin => ⟨fun h => absurd h (by simp), fun _ => ?_⟩) (fun i hin => ⟨fun _ => ⟨_, w_solution K ⟨hs.1, hs.2.1⟩ (by omega) (by omega) (by omega) (fun i hi => by rw [hrow i hi]; omega) hasc rfl, by omega, ?_⟩, fun h => absurd h (by simp)⟩), ?_⟩, fun hge => ?_⟩
 ·rw [bas_succ, if_pos (inP_iff.2 hin)]
 ·rw [bas_succ, if_neg (fun hh => hin (inP_iff.1 hh))]
 ·rintro _ _ _ rfl; exact ⟨small (by omega) (by omega), ⟨k + 1, by push_cast; rfl, by omega, rfl⟩, by omega⟩
 ·rw [show k = C.toNat by omega]; exact hfin
end
end Go.Proofs.Ytiboieijhehjnaa
set_option linter.unusedVariables false
set_option linter.unusedSimpArgs false
namespace Go.Proofs.Ytiboieijhehjnaa
section
variable {F : GFv} {p m v g : Nat} {P M : Int} {mf : List Int} {X Y : List (List Int)} {C : Int}
open Classical in
/-- the error of a matrix that must be square -/
noncomputable def sqe (P M : Int) (mf : List Int) (C : Int) (X : List (List Int)) : Int := if mck P M mf C X ≠ 0 then mck P M mf C X else if (X.length : Int) ≠ C then 3 else 0
theorem sqe_mck (h : mck P M mf C X ≠ 0) : sqe P M mf C X = mck P M mf C X := if_pos h
theorem sqe_no (h : mck P M mf C X = 0) (h2 : (X.length : Int) ≠ C) : sqe P M mf C X = 3 := by unfold sqe; rw [if_neg (fun hh => hh h), if_pos h2]
theorem sqe_ok (h : mck P M mf C X = 0) (h2 : (X.length : Int) = C) : sqe P M mf C X = 0 := by unfold sqe; rw [if_neg (fun hh => hh h), if_neg (fun hh => hh h2)]
theorem w_openSquare {Q : Option GFv × Int → Prop} (hb : sqe P M mf C X ≠ 0 → Q (none, sqe P M mf C X))
  (h : ∀ (F : GFv) (p m v g : Nat), GFk F p m v g → FV P M mf p m v → shp C X → Els p m X → (X.length : Int) = C → sqe P M mf C X = 0 → Q (some F, 0)) : V_openSquare P M mf C X Q := by
 refine w_open1 (fun h0 _ => ⟨h0, ?_⟩) fun F p m v g K hF hs he h0 => ⟨fun h1 => ⟨by decide, ?_⟩, fun h1 => ?_⟩
 ·have := hb (by rw [sqe_mck h0]; exact h0); rwa [sqe_mck h0] at this
 ·have := hb (by rw [sqe_no h0 h1]; decide); rwa [sqe_no h0 h1] at this
 ·have h2 : (X.length : Int) = C := Classical.not_not.1 h1; exact h F p m v g K hF hs he h2 (sqe_ok h0 h2)
theorem w_Det {Q : Int × Int → Prop} (hb : sqe P M mf C X ≠ 0 → Q (0, sqe P M mf C X))
  (h : ∀ p m v, FV P M mf p m v → shp C X → Els p m X → (X.length : Int) = C → sqe P M mf C X = 0 → Q ((if ((canP p m v C X).length : Int) < C then 0 else (ec p m v C X).d), 0)) : V_Det P M mf C X Q := by
 refine w_openSquare (fun h0 _ => hb h0) fun F p m v g K hF hs he hX h0 => ?_; obtain ⟨h1, h2, h3⟩ := shp_le hs; refine ⟨X, w_cloneL (by omega) (shp_rows hs) rfl, ⟨by omega, by omega, by omega⟩, ?_⟩; have hfin := h p m v hF hs he hX h0; have e : V_eliminate F C X (List.replicate C.toNat ([] : List Int)) = V_eliminate F ((C.toNat : Nat) : Int) X (List.replicate X.length ([] : List Int)) := by
  rw [h3, show C.toNat = X.length by omega]
 rw [e]; refine w_eliminate K (by omega) (by omega) (wy := 0) (by omega) (shp_can hs) ?_; refine ⟨fun hlt => ?_, fun hge => ?_⟩
 ·rw [if_pos (show ((canP p m v C X).length : Int) < C from hlt)] at hfin; exact hfin
 ·rw [if_neg (show ¬ ((canP p m v C X).length : Int) < C from hge)] at hfin; exact hfin
/-! ### identity matrices -/
def idm (n : Nat) : List (List Int) := (List.range n).map fun i => (List.replicate n (0 : Int)).set i 1
theorem idm_len (n : Nat) : (idm n).length = n := by simp [idm]
theorem row_idm {n t : Nat} (h : t < n) : row (idm n) t = (List.replicate n (0 : Int)).set t 1 := row_map h
theorem w_identity {n : Int} {Q : Int × List (List Int) → Prop} (hn : 0 ≤ n ∧ n ≤ 256) (h : Q (n, idm n.toNat)) : V_identity n Q := by
 refine ⟨⟨by omega, by omega, by omega⟩, fun x z => ∃ t : Nat, z = t ∧ t ≤ n.toNat ∧ x.length = n.toNat ∧ ∀ k, k < t → row x k = row (idm n.toNat) k, fun _ z => (n - z).toNat, ⟨0, rfl, Nat.zero_le _, by simp, fun k hk => by omega⟩, ?_⟩; rintro x _ ⟨t, rfl, ht, hx, hk⟩; have hg : ∀ l : List Int, t < n.toNat → gl (sll x (t : Int) l) (t : Int) = l := fun l hlt => by
  show row (x.set t l) t = l; rw [row_set, if_pos ⟨rfl, by omega⟩]
 dsimp only; refine ⟨fun hlt => ?_, fun hge => ?_⟩
 ·have htn : t < n.toNat := by omega
  rw [hg _ htn]; refine ⟨⟨by omega, by omega, by omega⟩, ⟨by omega, by omega⟩, ⟨by omega, by omega⟩, ⟨by omega, by rw [List.length_replicate]; omega⟩, small (by omega) (by omega), ⟨t + 1, by push_cast; rfl, by omega, by rw [sll_len, sll_len]; exact hx, fun k hk' => ?_⟩, by omega⟩; show row ((x.set t (List.replicate n.toNat 0)).set t ((List.replicate n.toNat (0 : Int)).set t 1)) k = _; rw [row_set, List.length_set]; by_cases e : t = k
  ·subst e; rw [if_pos ⟨rfl, by omega⟩, row_idm htn]
  ·rw [if_neg (fun h => e h.1), row_set, if_neg (fun h => e h.1)]; exact hk k (by omega)
 ·rw [show x = idm n.toNat from row_ext (by rw [idm_len]; exact hx) fun i hi => hk i (by omega)]; exact h
theorem idm_row_len {n t : Nat} (h : t < n) : (row (idm n) t).length = n := by rw [row_idm h]; simp
def ei (p m v : Nat) (C : Int) (X : List (List Int)) : ES := elim p m v C.toNat ⟨X, idm C.toNat, [], 1⟩
theorem ei_shp (hs : shp C X) (hX : (X.length : Int) = C) : Shp X.length C.toNat C.toNat ⟨X, idm C.toNat, [], 1⟩ := shp_S0 hs (by rw [idm_len]; omega) fun t ht => idm_row_len (by omega)
theorem w_Inverse {Q : Int × List (List Int) × Int → Prop} (hb : sqe P M mf C X ≠ 0 → Q (0, [], sqe P M mf C X))
  (h : ∀ p m v, FV P M mf p m v → shp C X → Els p m X → (X.length : Int) = C → sqe P M mf C X = 0 → (((ei p m v C X).pv.length : Int) < C → Q (0, [], 9)) ∧ (¬ ((ei p m v C X).pv.length : Int) < C → Q (C, (ei p m v C X).Y, 0))) : V_Inverse P M mf C X Q := by
 refine w_openSquare (fun h0 _ => hb h0) fun F p m v g K hF hs he hX h0 => w_identity ⟨hs.1, hs.2.1⟩ ⟨X, w_cloneL (by have := shp_len hs; omega) (shp_rows hs) rfl, ?_⟩; obtain ⟨h1, h2, h3⟩ := shp_le hs; have hfin := h p m v hF hs he hX h0; have e : V_eliminate F C X (idm C.toNat) = V_eliminate F ((C.toNat : Nat) : Int) X (idm C.toNat) := by rw [h3]
 rw [e]; exact w_eliminate K (by omega) (by omega) (wy := C.toNat) (by omega) (ei_shp hs hX) hfin
/-! ### combinations of rows -/
def cmb (p m v : Nat) (x : List Int) (C : Nat) (X : List (List Int)) (k : Nat) : List Int := (List.range k).foldl (fun s i => adx p m v s (vo x i) (row X i)) (List.replicate C 0)
theorem cmb_succ (x : List Int) (C : Nat) (k : Nat) : cmb p m v x C X (k + 1) = adx p m v (cmb p m v x C X k) (vo x k) (row X k) := by
 unfold cmb; rw [List.range_succ, List.foldl_append]; rfl
theorem cmb_len (x : List Int) (C : Nat) : ∀ k, (cmb p m v x C X k).length = C
 | 0 => by simp [cmb]
 | k + 1 => by rw [cmb_succ, adx_len]; exact cmb_len x C k
theorem w_combine {x : List Int} {Q : List Int → Prop} (K : GFk F p m v g) (hs : shp C X) (hx : x.length = X.length) (h : Q (cmb p m v x C.toNat X X.length)) : V_combine F x C X Q := by
 obtain ⟨h1, h2, h3⟩ := shp_le hs; refine ⟨⟨by omega, by omega, by omega⟩, fun y z => ∃ t : Nat, z = t ∧ t ≤ X.length ∧ y = cmb p m v x C.toNat X t, fun _ z => (X.length - z).toNat, ⟨0, rfl, Nat.zero_le _, rfl⟩, ?_⟩; rintro _ _ ⟨t, rfl, ht, rfl⟩; refine ⟨fun hlt => ?_, fun hge => by rw [show t = X.length by omega]; exact h⟩; have hr := shp_row hs (t := t) (by omega); have hc := cmb_len (p := p) (m := m) (v := v) (X := X) x C.toNat t; refine ⟨⟨by omega, by omega⟩, ⟨by omega, by omega⟩, w_addMultiple K (by show (row X t).length ≤ _; omega) (by omega) ⟨small (by omega) (by omega), ⟨t + 1, by push_cast; rfl, by omega, ?_⟩, ?_⟩⟩
 ·rw [cmb_succ]; rfl
 ·show ((X.length : Int) - ((t : Int) + 1)).toNat < ((X.length : Int) - (t : Int)).toNat; omega
open Classical in
/-- the error of a list that must have an element for each row -/
noncomputable def vce (p m : Nat) (x : List Int) (n : Nat) : Int := if x.length ≠ n then 3 else if ¬ Elr p m x then 2 else 0
theorem vce_zero {x : List Int} {n : Nat} (h : vce p m x n = 0) : x.length = n ∧ Elr p m x := by
 unfold vce at h; split at h
 ·exact absurd h (by decide)
 ·rename_i h1
  split at h
  ·exact absurd h (by decide)
  ·rename_i h2; exact ⟨Classical.not_not.1 h1, Classical.not_not.1 h2⟩
theorem w_fits {x : List Int} {Q : Int → Prop} (K : GFk F p m v g) (hX : X.length ≤ 1000000) (h : Q (vce p m x X.length)) : V_fits F x C X Q := by
 refine ⟨fun hne => ?_, fun he => ?_⟩
 ·have hne' : x.length ≠ X.length := by omega
  unfold vce at h; rw [if_pos hne'] at h; exact h
 ·have he' : x.length = X.length := by have := Classical.not_not.1 he; omega
  unfold vce at h; rw [if_neg (fun hh => hh he')] at h; refine w_areElements K (by omega) (fun h1 => ?_) (fun h1 => ?_)
  ·rw [if_neg (fun hh => hh h1)] at h; exact ⟨fun h0 => absurd h0 (by decide), fun _ => h⟩
  ·rw [if_pos h1] at h; exact ⟨fun _ => h, fun h0 => absurd h0 (by decide)⟩
theorem w_Vec {x : List Int} {Q : List Int × Int → Prop} (hb : mck P M mf C X ≠ 0 → Q ([], mck P M mf C X))
  (h : ∀ p m v, FV P M mf p m v → shp C X → Els p m X → mck P M mf C X = 0 → (vce p m x X.length ≠ 0 → Q ([], vce p m x X.length)) ∧ (vce p m x X.length = 0 → Q (cmb p m v x C.toNat X X.length, 0))) : V_Vec P M mf x C X Q := by
 refine w_open1 (fun h0 _ => hb h0) fun F p m v g K hF hs he h0 => ?_; have hfin := h p m v hF hs he h0; refine w_fits K (by have := shp_len hs; omega) ⟨hfin.1, fun h1 => ?_⟩; have h1' : vce p m x X.length = 0 := Classical.not_not.1 h1; exact w_combine K hs (vce_zero h1').1 (hfin.2 h1')
/-! ### systems -/
def rgt (b : List Int) : List (List Int) := b.map fun y => [y]
theorem rgt_len (b : List Int) : (rgt b).length = b.length := by simp [rgt]
theorem row_rgt {b : List Int} {t : Nat} (h : t < b.length) : row (rgt b) t = [vo b t] := by
 unfold row rgt vo; rw [List.getD_eq_getElem?_getD, List.getElem?_map, List.getD_eq_getElem?_getD, List.getElem?_eq_getElem h]; rfl
def eb (p m v : Nat) (C : Int) (X : List (List Int)) (b : List Int) : ES := elim p m v C.toNat ⟨X, rgt b, [], 1⟩
def slv (C : Nat) (pv : List Int) (Z : List (List Int)) (k : Nat) : List Int := (List.range k).foldl (fun x i => if i < pv.length then x.set (vo pv i).toNat (vo (row Z i) 0) else x) (List.replicate C 0)
theorem slv_succ (C : Nat) (pv : List Int) (Z : List (List Int)) (k : Nat) : slv C pv Z (k + 1) = if k < pv.length then (slv C pv Z k).set (vo pv k).toNat (vo (row Z k) 0) else slv C pv Z k := by
 unfold slv; rw [List.range_succ, List.foldl_append]; rfl
theorem eb_shp (hs : shp C X) {b : List Int} (hb : b.length = X.length) : Shp X.length C.toNat 1 ⟨X, rgt b, [], 1⟩ := shp_S0 hs (by rw [rgt_len]; exact hb) fun t ht => by rw [row_rgt (by omega)]; rfl
theorem w_Solve {b : List Int} {Q : List Int × Int → Prop} (hb : mck P M mf C X ≠ 0 → Q ([], mck P M mf C X))
  (h : ∀ p m v, FV P M mf p m v → shp C X → Els p m X → mck P M mf C X = 0 → (vce p m b X.length ≠ 0 → Q ([], vce p m b X.length)) ∧ (vce p m b X.length = 0 →
   ((∃ i, (eb p m v C X b).pv.length ≤ i ∧ i < b.length ∧ vo (row (eb p m v C X b).Y i) 0 ≠ 0) → Q ([], 11)) ∧ ((∀ i, (eb p m v C X b).pv.length ≤ i → i < b.length → vo (row (eb p m v C X b).Y i) 0 = 0) → Q (slv C.toNat (eb p m v C X b).pv (eb p m v C X b).Y b.length, 0)))) : V_Solve P M mf C X b Q := by
 refine w_open1 (fun h0 _ => hb h0) fun F p m v g K hF hs he h0 => ?_; have hfin := h p m v hF hs he h0; obtain ⟨h1, h2, h3⟩ := shp_le hs; refine w_fits K (by omega) ⟨hfin.1, fun hv => ?_⟩; have hv' : vce p m b X.length = 0 := Classical.not_not.1 hv; have hbl := (vce_zero hv').1; have hfin := hfin.2 hv'; refine ⟨⟨by omega, by omega, by omega⟩, fun x z => ∃ t : Nat, z = t ∧ t ≤ b.length ∧ x.length = b.length ∧ ∀ k, k < t → row x k = row (rgt b) k, fun _ z => (b.length - z).toNat, ⟨0, rfl, Nat.zero_le _, by simp, fun k hk => by omega⟩, ?_⟩; rintro x _ ⟨t, rfl, ht, hx, hk⟩; dsimp only; refine ⟨fun hlt => ⟨⟨by omega, by omega⟩, ⟨by omega, by omega⟩, small (by omega) (by omega), ⟨t + 1, by push_cast; rfl, by omega, by rw [sll_len]; exact hx, fun k hk' => ?_⟩, by omega⟩, fun hge => ?_⟩
 ·show row (x.set t [vo b t]) k = _; rw [row_set]; by_cases e : t = k
  ·subst e; rw [if_pos ⟨rfl, by omega⟩, row_rgt (by omega)]
  ·rw [if_neg (fun h => e h.1)]; exact hk k (by omega)
 ·have ex : x = rgt b := row_ext (by rw [rgt_len]; exact hx) fun i hi => hk i (by omega); subst ex; refine ⟨X, w_cloneL (by omega) (shp_rows hs) rfl, ?_⟩; have e : V_eliminate F C X (rgt b) = V_eliminate F ((C.toNat : Nat) : Int) X (rgt b) := by rw [h3]
  rw [e]; have hS := eb_shp hs hbl; refine w_eliminate K (by omega) (by omega) (wy := 1) (by omega) hS ?_; have hs2 := elim_shp (p := p) (m := m) (v := v) hS C.toNat; have hasc := elim_asc (p := p) (m := m) (v := v) (S := ⟨X, rgt b, [], 1⟩) rfl C.toNat; unfold eb at hfin; generalize elim p m v C.toNat ⟨X, rgt b, [], 1⟩ = E at *
  have hyl := hs2.yl; have hyr := hs2.yr; have hpl := hs2.pl; dsimp only; refine ⟨⟨by omega, by omega, by omega⟩, fun x z => ∃ t : Nat, z = t ∧ t ≤ b.length ∧ x = slv C.toNat E.pv E.Y t ∧ ∀ i, E.pv.length ≤ i → i < t → vo (row E.Y i) 0 = 0, fun _ z => (b.length - z).toNat, ⟨0, rfl, Nat.zero_le _, rfl, fun i _ hi => by omega⟩, ?_⟩; rintro _ _ ⟨t, rfl, ht, rfl, hz⟩; have hrl := rgt_len b; refine ⟨fun hlt => ?_, fun hge => ?_⟩
  ·have htb : t < b.length := by omega
   have hy := hyr t (by omega); refine ⟨fun x => x = slv C.toNat E.pv E.Y (t + 1) ∧ ∀ i, E.pv.length ≤ i → i < t + 1 → vo (row E.Y i) 0 = 0, ⟨⟨by omega, by omega⟩, fun hlt2 => ?_, fun hge2 => ?_⟩, ?_⟩
   ·have hv2 : 0 ≤ gi E.pv (t : Int) ∧ gi E.pv (t : Int) < ((C.toNat : Nat) : Int) := hasc.1 t (by omega); refine ⟨⟨by omega, by omega⟩, ⟨by omega, by show (0 : Int) < ((row E.Y t).length : Nat); omega⟩, hv2, ?_, fun i h4 h5 => ?_⟩
    ·rw [slv_succ, if_pos (by omega)]; rfl
    ·exact hz i h4 (by omega)
   ·refine ⟨⟨by omega, by show (0 : Int) < ((row E.Y t).length : Nat); omega⟩, fun hne => hfin.1 ⟨t, by omega, htb, hne⟩, fun he0 => ⟨?_, fun i h4 h5 => ?_⟩⟩
    ·rw [slv_succ, if_neg (by omega)]
    ·rcases Nat.lt_or_ge i t with h6 | h6
     ·exact hz i h4 h6
     ·rw [show i = t by omega]; exact Classical.not_not.1 he0
   ·rintro _ ⟨rfl, hz2⟩; refine ⟨small (by omega) (by omega), ⟨t + 1, by push_cast; rfl, by omega, rfl, hz2⟩, ?_⟩; show ((b.length : Int) - ((t : Int) + 1)).toNat < ((b.length : Int) - (t : Int)).toNat; omega
  ·have htb : t = b.length := by omega
   rw [htb] at hz ⊢; exact hfin.2 hz
end
/-! ### the examples of the chapter -/
theorem islf2 : IsLf 2 2 := ⟨by decide, by decide, fun e h _ => h⟩
theorem islf5 : IsLf 5 5 := ⟨by decide, by decide, fun e h1 h2 => by
 rcases Nat.lt_or_ge e 5 with h | h
 ·rcases (show e = 2 ∨ e = 3 ∨ e = 4 by omega) with rfl | rfl | rfl <;> simp at h2
 ·exact h⟩
theorem fv2 : FV 2 1 [] 2 1 0 := valid_one islf2 (by decide)
theorem fv5 : FV 5 1 [] 5 1 0 := valid_one islf5 (by decide)
def A3 : List (List Int) := [[1, 1, 0], [0, 1, 1], [1, 0, 1]]
def A2 : List (List Int) := [[1, 2], [3, 4]]
theorem shp_A3 : shp 3 A3 := ⟨by decide, by decide, by decide, by decide⟩
theorem shp_A2 : shp 2 A2 := ⟨by decide, by decide, by decide, by decide⟩
instance (p m : Nat) (x : Int) : Decidable (El p m x) := inferInstanceAs (Decidable (_ ∧ _))
theorem els_A3 : Els 2 1 A3 := by unfold Els Elr; decide
theorem els_A2 : Els 5 1 A2 := by unfold Els Elr; decide
theorem nels_A2 : ¬ Els 2 1 A2 := by unfold Els Elr; decide
theorem mck_A3 : mck 2 1 [] 3 A3 = 0 := mck_ok ⟨_, _, _, fv2⟩ shp_A3 ⟨_, _, _, fv2, els_A3⟩
theorem mck_A2 : mck 5 1 [] 2 A2 = 0 := mck_ok ⟨_, _, _, fv5⟩ shp_A2 ⟨_, _, _, fv5, els_A2⟩
theorem mck_A2' : mck 2 1 [] 2 A2 = 2 := mck_els ⟨_, _, _, fv2⟩ shp_A2 fun h => nels_A2 ((elsV_iff fv2).1 h)
theorem sqe_A2 : sqe 5 1 [] 2 A2 = 0 := sqe_ok mck_A2 rfl
theorem ev1 : canX 2 1 0 3 A3 = [[1, 0, 1], [0, 1, 1]] := by decide +kernel
theorem ev2 : canP 2 1 0 3 A3 = [0, 1] := by decide +kernel
theorem ev3 : canX 2 1 0 3 (basC 2 1 0 3 A3) = [[1, 1, 1]] := by decide +kernel
theorem ev4 : (if ((canP 5 1 0 2 A2).length : Int) < 2 then 0 else (ec 5 1 0 2 A2).d) = 3 := by decide +kernel
theorem ev5 : ¬ ((ei 5 1 0 2 A2).pv.length : Int) < 2 := by decide +kernel
theorem ev6 : (ei 5 1 0 2 A2).Y = [[3, 1], [4, 2]] := by decide +kernel
theorem ev7 : cmb 5 1 0 [1, 1] (2 : Int).toNat A2 A2.length = [4, 1] := by decide +kernel
theorem ev8 : slv (2 : Int).toNat (eb 5 1 0 2 A2 [3, 2]).pv (eb 5 1 0 2 A2 [3, 2]).Y 2 = [1, 1] := by decide +kernel
theorem ev9 : (eb 5 1 0 2 A2 [3, 2]).pv.length = 2 := by decide +kernel
theorem vce_ok {p m : Nat} {x : List Int} {n : Nat} (h : x.length = n) (he : Elr p m x) : vce p m x n = 0 := by
 unfold vce; rw [if_neg (fun hh => hh h), if_neg (fun hh => hh he)]
theorem w_awake {Q : Bool → Prop} (h : Q true) : V_awake Q := by
 refine w_Canonical (X := A3) (fun h0 => absurd mck_A3 h0) fun p m v hF _ _ _ => ?_; obtain ⟨rfl, rfl, rfl⟩ := fv2.uniq3 hF; rw [ev1, ev2]; refine w_Rank (X := A3) (fun h0 => absurd mck_A3 h0) fun p m v hF _ _ _ => ?_; obtain ⟨rfl, rfl, rfl⟩ := fv2.uniq3 hF; rw [ev2]; refine w_Kernel (X := A3) (fun h0 => absurd mck_A3 h0) fun p m v hF _ _ _ => ?_; obtain ⟨rfl, rfl, rfl⟩ := fv2.uniq3 hF; rw [ev3]; refine w_Det (X := A2) (fun h0 => absurd sqe_A2 h0) fun p m v hF _ _ _ _ => ?_; obtain ⟨rfl, rfl, rfl⟩ := fv5.uniq3 hF; rw [ev4]; refine w_Inverse (X := A2) (fun h0 => absurd sqe_A2 h0) fun p m v hF _ _ _ _ => ?_; obtain ⟨rfl, rfl, rfl⟩ := fv5.uniq3 hF; refine ⟨fun h0 => absurd h0 ev5, fun _ => ?_⟩; rw [ev6]; refine w_Vec (X := A2) (fun h0 => absurd mck_A2 h0) fun p m v hF _ _ _ => ?_; obtain ⟨rfl, rfl, rfl⟩ := fv5.uniq3 hF; refine ⟨fun h0 => absurd (vce_ok rfl (by unfold Elr; decide)) h0, fun _ => ?_⟩; rw [ev7]; refine w_Solve (X := A2) (fun h0 => absurd mck_A2 h0) fun p m v hF _ _ _ => ?_; obtain ⟨rfl, rfl, rfl⟩ := fv5.uniq3 hF; refine ⟨fun h0 => absurd (vce_ok rfl (by unfold Elr; decide)) h0, fun _ => ⟨fun ⟨i, h1, h2, _⟩ => by rw [ev9] at h1; simp at h2; omega, fun _ => ?_⟩⟩; rw [show slv (2 : Int).toNat (eb 5 1 0 2 A2 [3, 2]).pv (eb 5 1 0 2 A2 [3, 2]).Y ([3, 2] : List Int).length = [1, 1] from ev8]; refine ⟨fun _ => ⟨fun _ => ⟨fun _ => ⟨fun _ => ⟨fun _ => ⟨fun _ => ⟨fun _ => ?_, fun h => absurd rfl h⟩, fun h => absurd rfl h⟩, fun h => absurd rfl h⟩, fun h => absurd rfl h⟩, fun h => absurd rfl h⟩, fun h => absurd rfl h⟩, fun h => absurd rfl h⟩; refine w_rSame (by decide) (by decide) ⟨fun _ => w_rSameInts (by decide) ⟨fun _ => ⟨fun _ => w_rSame (by decide) (by decide) ⟨fun _ => ⟨fun _ => w_rSame (by decide) (by decide) ⟨fun _ => w_rSameInts (by decide) ⟨fun _ => w_rSameInts (by decide) ⟨fun _ => w_mCheck (X := A2) ⟨fun _ => w_mCheck (X := A2) ?_, fun h => absurd mck_A2 h⟩, fun h => absurd h (by decide)⟩, fun h => absurd h (by decide)⟩, fun h => absurd h (by decide)⟩, fun h => absurd rfl h⟩, fun h => absurd h (by decide)⟩, fun h => absurd rfl h⟩, fun h => absurd h (by decide)⟩, fun h => absurd h (by decide)⟩; rw [mck_A2']; exact h
end Go.Proofs.Ytiboieijhehjnaa
set_option linter.unusedVariables false
set_option linter.unusedSimpArgs false
namespace Go.Proofs.Ytiboieijhehjnaa
theorem law_MatrixCanonical (P M : Int) (mf : List Int) (C : Int) (X : List (List Int)) : V_LCanonical P M mf C X (fun b => b = true) := by
 refine w_awake ⟨fun h => absurd h (by decide), fun _ => w_rFew ⟨by omega, by omega⟩ (fun h1 h2 h3 => ⟨fun h => absurd h (by decide), fun _ => ?_⟩) ⟨fun _ => w_awake rfl, fun h => absurd h (by decide)⟩⟩; refine w_Canonical (fun h0 => ?_) (fun p m v hF hs he h0 => ?_)
 ·refine w_rCanonical (fun _ => ?_) (fun p m v hF hs he h1 => absurd h1 h0); refine w_Rank (fun _ => ?_) (fun p m v hF hs he h1 => absurd h1 h0); exact ⟨rfl, rfl, w_rSame (by simp) (by simp) rfl, w_rSameInts (by simp) rfl, rfl, _, w_mCheck rfl, _, w_rmCheck rfl, by simp⟩
 ·refine w_rCanonical (fun h1 => absurd h0 h1) (fun p' m' v' hF' _ _ _ => ?_); obtain ⟨rfl, rfl, rfl⟩ := hF.uniq3 hF'; refine w_Rank (fun h1 => absurd h0 h1) (fun p' m' v' hF' _ _ _ => ?_); obtain ⟨rfl, rfl, rfl⟩ := hF.uniq3 hF'; have h4 := canX_shp (p := p) (m := m) (v := v) hs; have h5 := canP_len (p := p) (m := m) (v := v) hs; have h6 := shp_len hs; exact ⟨rfl, rfl, w_rSame (by have := shp_len h4; omega) (shp_rows h4) rfl, w_rSameInts (by omega) rfl, rfl, _, w_mCheck rfl, _, w_rmCheck rfl, by simp⟩
end Go.Proofs.Ytiboieijhehjnaa
