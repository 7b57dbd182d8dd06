/- Contracts of functions of the program, and what they lean on: M6, M7, M8. -/
import Derived.Test.YtiboieijhehjnaaMatrixPicksG11
set_option linter.unusedVariables false
set_option linter.unusedSimpArgs false
namespace Go.Proofs.Ytiboieijhehjnaa
section
variable {F : GFv} {p m v g : Nat} {P M : Int} {mf : List Int} {X Y : List (List Int)} {C : Int}
open Classical in
noncomputable def sqe (P M : Int) (mf : List Int) (C : Int) (X : List (List Int)) : Int := if mck P M mf C X ≠ 0 then mck P M mf C X else if (X.length : Int) ≠ C then 3 else 0
theorem sqe_mck (h : mck P M mf C X ≠ 0) : sqe P M mf C X = mck P M mf C X := if_pos h
theorem sqe_no (h : mck P M mf C X = 0) (h2 : (X.length : Int) ≠ C) : sqe P M mf C X = 3 := by unfold sqe; rw [if_neg (fun hh => hh h), if_pos h2]
theorem sqe_ok (h : mck P M mf C X = 0) (h2 : (X.length : Int) = C) : sqe P M mf C X = 0 := by unfold sqe; rw [if_neg (fun hh => hh h), if_neg (fun hh => hh h2)]
theorem w_openSquare {Q : Option GFv × Int → Prop} (hb : sqe P M mf C X ≠ 0 → Q (none, sqe P M mf C X))
  (h : ∀ (F : GFv) (p m v g : Nat), GFk F p m v g → FV P M mf p m v → shp C X → Els p m X → (X.length : Int) = C → sqe P M mf C X = 0 → Q (some F, 0)) : V_openSquare P M mf C X Q := by
 refine w_open1 (fun h0 _ => ⟨h0, ?_⟩) fun F p m v g K hF hs he h0 => ⟨fun h1 => ⟨by decide, ?_⟩, fun h1 => ?_⟩
 ·have := hb (by rw [sqe_mck h0]; exact h0); rwa [sqe_mck h0] at this
 ·have := hb (by rw [sqe_no h0 h1]; decide); rwa [sqe_no h0 h1] at this
 ·have h2 : (X.length : Int) = C := Classical.not_not.1 h1; exact h F p m v g K hF hs he h2 (sqe_ok h0 h2)
theorem w_Det {Q : Int × Int → Prop} (hb : sqe P M mf C X ≠ 0 → Q (0, sqe P M mf C X))
  (h : ∀ p m v, FV P M mf p m v → shp C X → Els p m X → (X.length : Int) = C → sqe P M mf C X = 0 → Q ((if ((canP p m v C X).length : Int) < C then 0 else (ec p m v C X).d), 0)) : V_Det P M mf C X Q := by
 refine w_openSquare (fun h0 _ => hb h0) fun F p m v g K hF hs he hX h0 => ?_; obtain ⟨h1, h2, h3⟩ := shp_le hs; refine ⟨X, w_cloneL (by omega) (shp_rows hs) rfl, ⟨by omega, by omega, by omega⟩, ?_⟩; have hfin := h p m v hF hs he hX h0; have e : V_eliminate F C X (List.replicate C.toNat ([] : List Int)) = V_eliminate F ((C.toNat : Nat) : Int) X (List.replicate X.length ([] : List Int)) := by
  rw [h3, show C.toNat = X.length by omega]
 rw [e]; refine w_eliminate K (by omega) (by omega) (wy := 0) (by omega) (shp_can hs) ?_; refine ⟨fun hlt => ?_, fun hge => ?_⟩
 ·rw [if_pos (show ((canP p m v C X).length : Int) < C from hlt)] at hfin; exact hfin
 ·rw [if_neg (show ¬ ((canP p m v C X).length : Int) < C from hge)] at hfin; exact hfin
def idm (n : Nat) : List (List Int) := (List.range n).map fun i => (List.replicate n (0 : Int)).set i 1
theorem idm_len (n : Nat) : (idm n).length = n := by simp [idm]
theorem row_idm {n t : Nat} (h : t < n) : row (idm n) t = (List.replicate n (0 : Int)).set t 1 := row_map h
theorem w_identity {n : Int} {Q : Int × List (List Int) → Prop} (hn : 0 ≤ n ∧ n ≤ 256) (h : Q (n, idm n.toNat)) : V_identity n Q := by
 refine ⟨⟨by omega, by omega, by omega⟩, fun x z => ∃ t : Nat, z = t ∧ t ≤ n.toNat ∧ x.length = n.toNat ∧ ∀ k, k < t → row x k = row (idm n.toNat) k, fun _ z => (n - z).toNat, ⟨0, rfl, Nat.zero_le _, by simp, fun k hk => by omega⟩, ?_⟩; rintro x _ ⟨t, rfl, ht, hx, hk⟩; have hg : ∀ l : List Int, t < n.toNat → gl (sll x (t : Int) l) (t : Int) = l := fun l hlt => by
  show row (x.set t l) t = l; rw [row_set, if_pos ⟨rfl, by omega⟩]
 dsimp only; refine ⟨fun hlt => ?_, fun hge => ?_⟩
 ·have htn : t < n.toNat := by omega
  rw [hg _ htn]; refine ⟨⟨by omega, by omega, by omega⟩, ⟨by omega, by omega⟩, ⟨by omega, by omega⟩, ⟨by omega, by rw [List.length_replicate]; omega⟩, small (by omega) (by omega), ⟨t + 1, by push_cast; rfl, by omega, by rw [sll_len, sll_len]; exact hx, fun k hk' => ?_⟩, by omega⟩; show row ((x.set t (List.replicate n.toNat 0)).set t ((List.replicate n.toNat (0 : Int)).set t 1)) k = _; rw [row_set, List.length_set]; by_cases e : t = k
  ·subst e; rw [if_pos ⟨rfl, by omega⟩, row_idm htn]
  ·rw [if_neg (fun h => e h.1), row_set, if_neg (fun h => e h.1)]; exact hk k (by omega)
 ·rw [show x = idm n.toNat from row_ext (by rw [idm_len]; exact hx) fun i hi => hk i (by omega)]; exact h
theorem idm_row_len {n t : Nat} (h : t < n) : (row (idm n) t).length = n := by rw [row_idm h]; simp
def ei (p m v : Nat) (C : Int) (X : List (List Int)) : ES := elim p m v C.toNat ⟨X, idm C.toNat, [], 1⟩
theorem ei_shp (hs : shp C X) (hX : (X.length : Int) = C) : Shp X.length C.toNat C.toNat ⟨X, idm C.toNat, [], 1⟩ := shp_S0 hs (by rw [idm_len]; omega) fun t ht => idm_row_len (by omega)
theorem w_Inverse {Q : Int × List (List Int) × Int → Prop} (hb : sqe P M mf C X ≠ 0 → Q (0, [], sqe P M mf C X))
  (h : ∀ p m v, FV P M mf p m v → shp C X → Els p m X → (X.length : Int) = C → sqe P M mf C X = 0 → (((ei p m v C X).pv.length : Int) < C → Q (0, [], 9)) ∧ (¬ ((ei p m v C X).pv.length : Int) < C → Q (C, (ei p m v C X).Y, 0))) : V_Inverse P M mf C X Q := by
 refine w_openSquare (fun h0 _ => hb h0) fun F p m v g K hF hs he hX h0 => w_identity ⟨hs.1, hs.2.1⟩ ⟨X, w_cloneL (by have := shp_len hs; omega) (shp_rows hs) rfl, ?_⟩; obtain ⟨h1, h2, h3⟩ := shp_le hs; have hfin := h p m v hF hs he hX h0; have e : V_eliminate F C X (idm C.toNat) = V_eliminate F ((C.toNat : Nat) : Int) X (idm C.toNat) := by rw [h3]
 rw [e]; exact w_eliminate K (by omega) (by omega) (wy := C.toNat) (by omega) (ei_shp hs hX) hfin
def cmb (p m v : Nat) (x : List Int) (C : Nat) (X : List (List Int)) (k : Nat) : List Int := (List.range k).foldl (fun s i => adx p m v s (vo x i) (row X i)) (List.replicate C 0)
theorem cmb_succ (x : List Int) (C : Nat) (k : Nat) : cmb p m v x C X (k + 1) = adx p m v (cmb p m v x C X k) (vo x k) (row X k) := by
 unfold cmb; rw [List.range_succ, List.foldl_append]; rfl
theorem cmb_len (x : List Int) (C : Nat) : ∀ k, (cmb p m v x C X k).length = C
 | 0 => by simp [cmb]
 | k + 1 => by rw [cmb_succ, adx_len]; exact cmb_len x C k
theorem w_combine {x : List Int} {Q : List Int → Prop} (K : GFk F p m v g) (hs : shp C X) (hx : x.length = X.length) (h : Q (cmb p m v x C.toNat X X.length)) : V_combine F x C X Q := by
 obtain ⟨h1, h2, h3⟩ := shp_le hs; refine ⟨⟨by omega, by omega, by omega⟩, fun y z => ∃ t : Nat, z = t ∧ t ≤ X.length ∧ y = cmb p m v x C.toNat X t, fun _ z => (X.length - z).toNat, ⟨0, rfl, Nat.zero_le _, rfl⟩, ?_⟩; rintro _ _ ⟨t, rfl, ht, rfl⟩; refine ⟨fun hlt => ?_, fun hge => by rw [show t = X.length by omega]; exact h⟩; have hr := shp_row hs (t := t) (by omega); have hc := cmb_len (p := p) (m := m) (v := v) (X := X) x C.toNat t; refine ⟨⟨by omega, by omega⟩, ⟨by omega, by omega⟩, w_addMultiple K (by show (row X t).length ≤ _; omega) (by omega) ⟨small (by omega) (by omega), ⟨t + 1, by push_cast; rfl, by omega, ?_⟩, ?_⟩⟩
 ·rw [cmb_succ]; rfl
 ·show ((X.length : Int) - ((t : Int) + 1)).toNat < ((X.length : Int) - (t : Int)).toNat; omega
open Classical in
noncomputable def vce (p m : Nat) (x : List Int) (n : Nat) : Int := if x.length ≠ n then 3 else if ¬ Elr p m x then 2 else 0
theorem vce_zero {x : List Int} {n : Nat} (h : vce p m x n = 0) : x.length = n ∧ Elr p m x := by
 unfold vce at h; split at h
 ·exact absurd h (by decide)
 ·rename_i h1
  split at h
  ·exact absurd h (by decide)
  ·rename_i h2; exact ⟨Classical.not_not.1 h1, Classical.not_not.1 h2⟩
theorem w_fits {x : List Int} {Q : Int → Prop} (K : GFk F p m v g) (hX : X.length ≤ 1000000) (h : Q (vce p m x X.length)) : V_fits F x C X Q := by
 refine ⟨fun hne => ?_, fun he => ?_⟩
 ·have hne' : x.length ≠ X.length := by omega
  unfold vce at h; rw [if_pos hne'] at h; exact h
 ·have he' : x.length = X.length := by have := Classical.not_not.1 he; omega
  unfold vce at h; rw [if_neg (fun hh => hh he')] at h; refine w_areElements K (by omega) (fun h1 => ?_) (fun h1 => ?_)
  ·rw [if_neg (fun hh => hh h1)] at h; exact ⟨fun h0 => absurd h0 (by decide), fun _ => h⟩
  ·rw [if_pos h1] at h; exact ⟨fun _ => h, fun h0 => absurd h0 (by decide)⟩
theorem w_Vec {x : List Int} {Q : List Int × Int → Prop} (hb : mck P M mf C X ≠ 0 → Q ([], mck P M mf C X))
  (h : ∀ p m v, FV P M mf p m v → shp C X → Els p m X → mck P M mf C X = 0 → (vce p m x X.length ≠ 0 → Q ([], vce p m x X.length)) ∧ (vce p m x X.length = 0 → Q (cmb p m v x C.toNat X X.length, 0))) : V_Vec P M mf x C X Q := by
 refine w_open1 (fun h0 _ => hb h0) fun F p m v g K hF hs he h0 => ?_; have hfin := h p m v hF hs he h0; refine w_fits K (by have := shp_len hs; omega) ⟨hfin.1, fun h1 => ?_⟩; have h1' : vce p m x X.length = 0 := Classical.not_not.1 h1; exact w_combine K hs (vce_zero h1').1 (hfin.2 h1')
def rgt (b : List Int) : List (List Int) := b.map fun y => [y]
theorem rgt_len (b : List Int) : (rgt b).length = b.length := by simp [rgt]
theorem row_rgt {b : List Int} {t : Nat} (h : t < b.length) : row (rgt b) t = [vo b t] := by
 unfold row rgt vo; rw [List.getD_eq_getElem?_getD, List.getElem?_map, List.getD_eq_getElem?_getD, List.getElem?_eq_getElem h]; rfl
def eb (p m v : Nat) (C : Int) (X : List (List Int)) (b : List Int) : ES := elim p m v C.toNat ⟨X, rgt b, [], 1⟩
def slv (C : Nat) (pv : List Int) (Z : List (List Int)) (k : Nat) : List Int := (List.range k).foldl (fun x i => if i < pv.length then x.set (vo pv i).toNat (vo (row Z i) 0) else x) (List.replicate C 0)
theorem slv_succ (C : Nat) (pv : List Int) (Z : List (List Int)) (k : Nat) : slv C pv Z (k + 1) = if k < pv.length then (slv C pv Z k).set (vo pv k).toNat (vo (row Z k) 0) else slv C pv Z k := by
 unfold slv; rw [List.range_succ, List.foldl_append]; rfl
theorem eb_shp (hs : shp C X) {b : List Int} (hb : b.length = X.length) : Shp X.length C.toNat 1 ⟨X, rgt b, [], 1⟩ := shp_S0 hs (by rw [rgt_len]; exact hb) fun t ht => by rw [row_rgt (by omega)]; rfl
theorem w_Solve {b : List Int} {Q : List Int × Int → Prop} (hb : mck P M mf C X ≠ 0 → Q ([], mck P M mf C X))
  (h : ∀ p m v, FV P M mf p m v → shp C X → Els p m X → mck P M mf C X = 0 → (vce p m b X.length ≠ 0 → Q ([], vce p m b X.length)) ∧ (vce p m b X.length = 0 →
   ((∃ i, (eb p m v C X b).pv.length ≤ i ∧ i < b.length ∧ vo (row (eb p m v C X b).Y i) 0 ≠ 0) → Q ([], 11)) ∧ ((∀ i, (eb p m v C X b).pv.length ≤ i → i < b.length → vo (row (eb p m v C X b).Y i) 0 = 0) → Q (slv C.toNat (eb p m v C X b).pv (eb p m v C X b).Y b.length, 0)))) : V_Solve P M mf C X b Q := by
 refine w_open1 (fun h0 _ => hb h0) fun F p m v g K hF hs he h0 => ?_; have hfin := h p m v hF hs he h0; obtain ⟨h1, h2, h3⟩ := shp_le hs; refine w_fits K (by omega) ⟨hfin.1, fun hv => ?_⟩; have hv' : vce p m b X.length = 0 := Classical.not_not.1 hv; have hbl := (vce_zero hv').1; have hfin := hfin.2 hv'; refine ⟨⟨by omega, by omega, by omega⟩, fun x z => ∃ t : Nat, z = t ∧ t ≤ b.length ∧ x.length = b.length ∧ ∀ k, k < t → row x k = row (rgt b) k, fun _ z => (b.length - z).toNat, ⟨0, rfl, Nat.zero_le _, by simp, fun k hk => by omega⟩, ?_⟩; rintro x _ ⟨t, rfl, ht, hx, hk⟩; dsimp only; refine ⟨fun hlt => ⟨⟨by omega, by omega⟩, ⟨by omega, by omega⟩, small (by omega) (by omega), ⟨t + 1, by push_cast; rfl, by omega, by rw [sll_len]; exact hx, fun k hk' => ?_⟩, by omega⟩, fun hge => ?_⟩
 ·show row (x.set t [vo b t]) k = _; rw [row_set]; by_cases e : t = k
  ·subst e; rw [if_pos ⟨rfl, by omega⟩, row_rgt (by omega)]
  ·rw [if_neg (fun h => e h.1)]; exact hk k (by omega)
 ·have ex : x = rgt b := row_ext (by rw [rgt_len]; exact hx) fun i hi => hk i (by omega); subst ex; refine ⟨X, w_cloneL (by omega) (shp_rows hs) rfl, ?_⟩; have e : V_eliminate F C X (rgt b) = V_eliminate F ((C.toNat : Nat) : Int) X (rgt b) := by rw [h3]
  rw [e]; have hS := eb_shp hs hbl; refine w_eliminate K (by omega) (by omega) (wy := 1) (by omega) hS ?_; have hs2 := elim_shp (p := p) (m := m) (v := v) hS C.toNat; have hasc := elim_asc (p := p) (m := m) (v := v) (S := ⟨X, rgt b, [], 1⟩) rfl C.toNat; unfold eb at hfin; generalize elim p m v C.toNat ⟨X, rgt b, [], 1⟩ = E at *
  have hyl := hs2.yl; have hyr := hs2.yr; have hpl := hs2.pl; dsimp only; refine ⟨⟨by omega, by omega, by omega⟩, fun x z => ∃ t : Nat, z = t ∧ t ≤ b.length ∧ x = slv C.toNat E.pv E.Y t ∧ ∀ i, E.pv.length ≤ i → i < t → vo (row E.Y i) 0 = 0, fun _ z => (b.length - z).toNat, ⟨0, rfl, Nat.zero_le _, rfl, fun i _ hi => by omega⟩, ?_⟩; rintro _ _ ⟨t, rfl, ht, rfl, hz⟩; have hrl := rgt_len b; refine ⟨fun hlt => ?_, fun hge => ?_⟩
  ·have htb : t < b.length := by omega
   have hy := hyr t (by omega); refine ⟨fun x => x = slv C.toNat E.pv E.Y (t + 1) ∧ ∀ i, E.pv.length ≤ i → i < t + 1 → vo (row E.Y i) 0 = 0, ⟨⟨by omega, by omega⟩, fun hlt2 => ?_, fun hge2 => ?_⟩, ?_⟩
   ·have hv2 : 0 ≤ gi E.pv (t : Int) ∧ gi E.pv (t : Int) < ((C.toNat : Nat) : Int) := hasc.1 t (by omega); refine ⟨⟨by omega, by omega⟩, ⟨by omega, by show (0 : Int) < ((row E.Y t).length : Nat); omega⟩, hv2, ?_, fun i h4 h5 => ?_⟩
    ·rw [slv_succ, if_pos (by omega)]; rfl
    ·exact hz i h4 (by omega)
   ·refine ⟨⟨by omega, by show (0 : Int) < ((row E.Y t).length : Nat); omega⟩, fun hne => hfin.1 ⟨t, by omega, htb, hne⟩, fun he0 => ⟨?_, fun i h4 h5 => ?_⟩⟩
    ·rw [slv_succ, if_neg (by omega)]
    ·rcases Nat.lt_or_ge i t with h6 | h6
     ·exact hz i h4 h6
     ·rw [show i = t by omega]; exact Classical.not_not.1 he0
   ·rintro _ ⟨rfl, hz2⟩; refine ⟨small (by omega) (by omega), ⟨t + 1, by push_cast; rfl, by omega, rfl, hz2⟩, ?_⟩; show ((b.length : Int) - ((t : Int) + 1)).toNat < ((b.length : Int) - (t : Int)).toNat; omega
  ·have htb : t = b.length := by omega
   rw [htb] at hz ⊢; exact hfin.2 hz
end
theorem islf2 : IsLf 2 2 := ⟨by decide, by decide, fun e h _ => h⟩
theorem islf5 : IsLf 5 5 := ⟨by decide, by decide, fun e h1 h2 => by
 rcases Nat.lt_or_ge e 5 with h | h
 ·rcases (show e = 2 ∨ e = 3 ∨ e = 4 by omega) with rfl | rfl | rfl <;> simp at h2
 ·exact h⟩
theorem fv2 : FV 2 1 [] 2 1 0 := valid_one islf2 (by decide)
theorem fv5 : FV 5 1 [] 5 1 0 := valid_one islf5 (by decide)
def A3 : List (List Int) := [[1, 1, 0], [0, 1, 1], [1, 0, 1]]
def A2 : List (List Int) := [[1, 2], [3, 4]]
theorem shp_A3 : shp 3 A3 := ⟨by decide, by decide, by decide, by decide⟩
theorem shp_A2 : shp 2 A2 := ⟨by decide, by decide, by decide, by decide⟩
instance (p m : Nat) (x : Int) : Decidable (El p m x) := inferInstanceAs (Decidable (_ ∧ _))
theorem els_A3 : Els 2 1 A3 := by unfold Els Elr; decide
theorem els_A2 : Els 5 1 A2 := by unfold Els Elr; decide
theorem nels_A2 : ¬ Els 2 1 A2 := by unfold Els Elr; decide
theorem mck_A3 : mck 2 1 [] 3 A3 = 0 := mck_ok ⟨_, _, _, fv2⟩ shp_A3 ⟨_, _, _, fv2, els_A3⟩
theorem mck_A2 : mck 5 1 [] 2 A2 = 0 := mck_ok ⟨_, _, _, fv5⟩ shp_A2 ⟨_, _, _, fv5, els_A2⟩
theorem mck_A2' : mck 2 1 [] 2 A2 = 2 := mck_els ⟨_, _, _, fv2⟩ shp_A2 fun h => nels_A2 ((elsV_iff fv2).1 h)
theorem sqe_A2 : sqe 5 1 [] 2 A2 = 0 := sqe_ok mck_A2 rfl
theorem ev1 : canX 2 1 0 3 A3 = [[1, 0, 1], [0, 1, 1]] := by decide +kernel
theorem ev2 : canP 2 1 0 3 A3 = [0, 1] := by decide +kernel
theorem ev3 : canX 2 1 0 3 (basC 2 1 0 3 A3) = [[1, 1, 1]] := by decide +kernel
theorem ev4 : (if ((canP 5 1 0 2 A2).length : Int) < 2 then 0 else (ec 5 1 0 2 A2).d) = 3 := by decide +kernel
theorem ev5 : ¬ ((ei 5 1 0 2 A2).pv.length : Int) < 2 := by decide +kernel
theorem ev6 : (ei 5 1 0 2 A2).Y = [[3, 1], [4, 2]] := by decide +kernel
theorem ev7 : cmb 5 1 0 [1, 1] (2 : Int).toNat A2 A2.length = [4, 1] := by decide +kernel
theorem ev8 : slv (2 : Int).toNat (eb 5 1 0 2 A2 [3, 2]).pv (eb 5 1 0 2 A2 [3, 2]).Y 2 = [1, 1] := by decide +kernel
theorem ev9 : (eb 5 1 0 2 A2 [3, 2]).pv.length = 2 := by decide +kernel
theorem vce_ok {p m : Nat} {x : List Int} {n : Nat} (h : x.length = n) (he : Elr p m x) : vce p m x n = 0 := by
 unfold vce; rw [if_neg (fun hh => hh h), if_neg (fun hh => hh he)]
theorem w_awake {Q : Bool → Prop} (h : Q true) : V_awake Q := by
 refine w_Canonical (X := A3) (fun h0 => absurd mck_A3 h0) fun p m v hF _ _ _ => ?_; obtain ⟨rfl, rfl, rfl⟩ := fv2.uniq3 hF; rw [ev1, ev2]; refine w_Rank (X := A3) (fun h0 => absurd mck_A3 h0) fun p m v hF _ _ _ => ?_; obtain ⟨rfl, rfl, rfl⟩ := fv2.uniq3 hF; rw [ev2]; refine w_Kernel (X := A3) (fun h0 => absurd mck_A3 h0) fun p m v hF _ _ _ => ?_; obtain ⟨rfl, rfl, rfl⟩ := fv2.uniq3 hF; rw [ev3]; refine w_Det (X := A2) (fun h0 => absurd sqe_A2 h0) fun p m v hF _ _ _ _ => ?_; obtain ⟨rfl, rfl, rfl⟩ := fv5.uniq3 hF; rw [ev4]; refine w_Inverse (X := A2) (fun h0 => absurd sqe_A2 h0) fun p m v hF _ _ _ _ => ?_; obtain ⟨rfl, rfl, rfl⟩ := fv5.uniq3 hF; refine ⟨fun h0 => absurd h0 ev5, fun _ => ?_⟩; rw [ev6]; refine w_Vec (X := A2) (fun h0 => absurd mck_A2 h0) fun p m v hF _ _ _ => ?_; obtain ⟨rfl, rfl, rfl⟩ := fv5.uniq3 hF; refine ⟨fun h0 => absurd (vce_ok rfl (by unfold Elr; decide)) h0, fun _ => ?_⟩; rw [ev7]; refine w_Solve (X := A2) (fun h0 => absurd mck_A2 h0) fun p m v hF _ _ _ => ?_; obtain ⟨rfl, rfl, rfl⟩ := fv5.uniq3 hF; refine ⟨fun h0 => absurd (vce_ok rfl (by unfold Elr; decide)) h0, fun _ => ⟨fun ⟨i, h1, h2, _⟩ => by rw [ev9] at h1; simp at h2; omega, fun _ => ?_⟩⟩; rw [show slv (2 : Int).toNat (eb 5 1 0 2 A2 [3, 2]).pv (eb 5 1 0 2 A2 [3, 2]).Y ([3, 2] : List Int).length = [1, 1] from ev8]; refine ⟨fun _ => ⟨fun _ => ⟨fun _ => ⟨fun _ => ⟨fun _ => ⟨fun _ => ⟨fun _ => ?_, fun h => absurd rfl h⟩, fun h => absurd rfl h⟩, fun h => absurd rfl h⟩, fun h => absurd rfl h⟩, fun h => absurd rfl h⟩, fun h => absurd rfl h⟩, fun h => absurd rfl h⟩; refine w_rSame (by decide) (by decide) ⟨fun _ => w_rSameInts (by decide) ⟨fun _ => ⟨fun _ => w_rSame (by decide) (by decide) ⟨fun _ => ⟨fun _ => w_rSame (by decide) (by decide) ⟨fun _ => w_rSameInts (by decide) ⟨fun _ => w_rSameInts (by decide) ⟨fun _ => w_mCheck (X := A2) ⟨fun _ => w_mCheck (X := A2) ?_, fun h => absurd mck_A2 h⟩, fun h => absurd h (by decide)⟩, fun h => absurd h (by decide)⟩, fun h => absurd h (by decide)⟩, fun h => absurd rfl h⟩, fun h => absurd h (by decide)⟩, fun h => absurd rfl h⟩, fun h => absurd h (by decide)⟩, fun h => absurd h (by decide)⟩; rw [mck_A2']; exact h
end Go.Proofs.Ytiboieijhehjnaa
set_option linter.unusedVariables false
set_option linter.unusedSimpArgs false
namespace Go.Proofs.Ytiboieijhehjnaa
end Go.Proofs.Ytiboieijhehjnaa
set_option linter.unusedVariables false
set_option linter.unusedSimpArgs false
namespace Go.Proofs.Ytiboieijhehjnaa
section
variable {F : GFv} {p m v g : Nat} {P M : Int} {mf : List Int} {X : List (List Int)} {C : Int} {set y : List Int}
def pkr (y set : List Int) : List Int := (List.range set.length).map fun i => vo y (vo set i).toNat
def pks (X : List (List Int)) (set : List Int) : List (List Int) := (List.range X.length).map fun t => pkr (row X t) set
theorem pkr_len : (pkr y set).length = set.length := by simp [pkr]
theorem pks_len : (pks X set).length = X.length := by simp [pks]
theorem vo_pkr {i : Nat} (h : i < set.length) : vo (pkr y set) i = vo y (vo set i).toNat := vo_map h
theorem row_pks {t : Nat} (h : t < X.length) : row (pks X set) t = pkr (row X t) set := row_map h
theorem w_rPick {Q : List Int → Prop} (hl : set.length ≤ 1000000) (hin : ∀ i, i < set.length → 0 ≤ vo set i ∧ vo set i < (y.length : Int)) (h : Q (pkr y set)) : V_rPick y set Q := by
 refine ⟨⟨by omega, by omega, by omega⟩, fun x z => ∃ t : Nat, z = t ∧ t ≤ set.length ∧ x.length = set.length ∧ ∀ k, k < t → vo x k = vo (pkr y set) k, fun _ z => (set.length - z).toNat, ⟨0, rfl, Nat.zero_le _, by simp, fun k hk => by omega⟩, ?_⟩; rintro x _ ⟨t, rfl, ht, hx, hk⟩; dsimp only; refine ⟨fun hlt => ?_, fun hge => ?_⟩
 ·have htl : t < set.length := by omega
  have hc := hin t htl; refine ⟨⟨by omega, by omega⟩, hc, ⟨by omega, by omega⟩, small (by omega) (by omega), ⟨t + 1, by push_cast; rfl, by omega, by rw [si_nat, List.length_set]; exact hx, fun k hk' => ?_⟩, by omega⟩; rw [si_nat, vo_set]; by_cases e : t = k
  ·subst e; rw [if_pos ⟨rfl, by omega⟩, vo_pkr htl]; rfl
  ·rw [if_neg (fun h => e h.1)]; exact hk k (by omega)
 ·rw [show x = pkr y set from vo_ext (by rw [pkr_len]; exact hx) fun i hi => hk i (by omega)]; exact h
def bad (C : Int) (set : List Int) : Bool := set.any fun c => if c < 0 then true else decide (C ≤ c)
theorem bad_no (h : bad C set = false) : ∀ i, i < set.length → 0 ≤ vo set i ∧ vo set i < C := fun i hi => by
 have := List.any_eq_false.1 h (vo set i) (vo_mem hi); split at this
 ·exact absurd rfl this
 ·rw [decide_eq_true_eq] at this; omega
theorem bad_of {i : Nat} (hi : i < set.length) (h : vo set i < 0 ∨ C ≤ vo set i) : bad C set = true := by
 cases hb : bad C set with
 | true => rfl
 | false => have := bad_no hb i hi; omega
noncomputable def colR (P M : Int) (mf : List Int) (C : Int) (X : List (List Int)) (set : List Int) : Int × List (List Int) × Int := if mck P M mf C X ≠ 0 then (0, [], mck P M mf C X) else if 256 < set.length then (0, [], 8) else if bad C set = true then (0, [], 6) else ((set.length : Int), pks X set, 0)
theorem col_len {c e : Int} {Z : List (List Int)} (h : colR P M mf C X set = (c, Z, e)) : Z.length ≤ 1000000 ∧ ∀ r ∈ Z, r.length ≤ 1000000 := by
 unfold colR at h; split at h
 ·cases h; simp
 split at h
 ·cases h; simp
 split at h
 ·cases h; simp
 rename_i h1 h2 h3
 cases h; have hs := (mck_zero (Classical.not_not.1 h1)).2.1; refine ⟨by rw [pks_len]; have := shp_len hs; omega, fun r hr => ?_⟩; obtain ⟨t, ht, rfl⟩ := mem_row hr; rw [row_pks (by rwa [pks_len] at ht), pkr_len]; omega
theorem w_Columns {Q : Int × List (List Int) × Int → Prop} (h : ∀ c Z e, colR P M mf C X set = (c, Z, e) → Q (c, Z, e)) : V_Columns P M mf C X set Q := by
 refine w_open1 (fun h0 _ => h _ _ _ (if_pos h0)) fun F p m v g K hF hs he h0 => ?_; have e0 : colR P M mf C X set = if 256 < set.length then (0, [], 8) else if bad C set = true then (0, [], 6) else ((set.length : Int), pks X set, 0) := if_neg (fun hh => hh h0)
 refine ⟨fun h1 => h _ _ _ (by rw [e0, if_pos (by omega)]), fun h1 => v_contains (f := fun x => if x < 0 then true else decide (C ≤ x)) (by omega) (fun x R hR => ⟨fun hx => by simpa [hx] using hR, fun hx => by simpa [hx] using hR⟩) ⟨fun hb6 => h _ _ _ (by rw [e0, if_neg (by omega), if_pos (show bad C set = true from hb6)]), fun hb6 => ?_⟩⟩; have hin := bad_no hb6; have hfin := h _ _ _ (by rw [e0, if_neg (by omega), if_neg (by rw [show bad C set = false from hb6]; decide)]); obtain ⟨hX, hC, hC'⟩ := shp_le hs; refine ⟨⟨by omega, by omega, by omega⟩, fun x z => ∃ t : Nat, z = t ∧ t ≤ X.length ∧ x.length = X.length ∧ ∀ k, k < t → row x k = row (pks X set) k, fun _ z => (X.length - z).toNat, ⟨0, rfl, Nat.zero_le _, by simp, fun k hk => by omega⟩, ?_⟩; rintro x _ ⟨t, rfl, ht, hx, hk⟩; dsimp only; refine ⟨fun hlt => ?_, fun hge => ?_⟩
 ·have htl : t < X.length := by omega
  have hr := shp_row hs htl; refine ⟨⟨by omega, by omega⟩, ⟨by omega, by omega, by omega⟩, ⟨by omega, by omega⟩, fun y z => ∃ s : Nat, z = s ∧ s ≤ set.length ∧ y.length = X.length ∧ (∀ k, k < t → row y k = row (pks X set) k) ∧ (row y t).length = set.length ∧ ∀ k, k < s → vo (row y t) k = vo (pkr (row X t) set) k, fun _ z => (set.length - z).toNat, ⟨0, rfl, Nat.zero_le _, by rw [sll_len]; exact hx, fun k hk' => ?_, ?_, fun k hk' => by omega⟩, ?_⟩
  ·show row (x.set t _) k = _; rw [row_set, if_neg (fun h => by omega)]; exact hk k hk'
  ·show (row (x.set t _) t).length = _; rw [row_set, if_pos ⟨rfl, by omega⟩]; simp
  rintro y _ ⟨s, rfl, hs1, hy, hk1, hyl, hk2⟩; dsimp only; refine ⟨fun hlt2 => ?_, fun hge2 => ⟨small (by omega) (by omega), ⟨t + 1, by push_cast; rfl, by omega, hy, fun k hk' => ?_⟩, by omega⟩⟩
  ·have hsl : s < set.length := by omega
   have hc := hin s hsl; refine ⟨⟨by omega, by omega⟩, ⟨by omega, by omega⟩, ⟨hc.1, by show vo set s < ((row X t).length : Int); omega⟩, ⟨by omega, by show (s : Int) < ((row y t).length : Int); omega⟩, small (by omega) (by omega), ⟨s + 1, by push_cast; rfl, by omega, by rw [sll_len]; exact hy, fun k hk' => ?_, ?_, fun k hk' => ?_⟩, by omega⟩
   ·show row (y.set t _) k = _; rw [row_set, if_neg (fun h => by omega)]; exact hk1 k hk'
   ·show (row (y.set t ((row y t).set s _)) t).length = _; rw [row_set, if_pos ⟨rfl, by omega⟩, List.length_set]; exact hyl
   ·show vo (row (y.set t ((row y t).set s (vo (row X t) (vo set s).toNat))) t) k = _; rw [row_set, if_pos ⟨rfl, by omega⟩, vo_set]; by_cases e : s = k
    ·subst e; rw [if_pos ⟨rfl, by omega⟩, vo_pkr hsl]
    ·rw [if_neg (fun h => e h.1)]; exact hk2 k (by omega)
  ·rcases Nat.lt_or_ge k t with h | h
   ·exact hk1 k h
   ·rw [show k = t by omega, row_pks htl]; exact vo_ext (by rw [pkr_len]; exact hyl) fun i hi => hk2 i (by omega)
 ·rw [show x = pks X set from row_ext (by rw [pks_len]; exact hx) fun i hi => hk i (by omega)]; exact hfin
theorem w_rColumns {Q : Int × List (List Int) × Int → Prop} {c e : Int} {Z : List (List Int)} (hc : colR P M mf C X set = (c, Z, e)) (h : Q (c, Z, e)) : V_rColumns P M mf C X set Q := by
 rw [← hc] at h; refine w_rmCheck ⟨fun h0 => ?_, fun h0 => ?_⟩
 ·unfold colR at h; rw [if_pos h0] at h; exact h
 have e0 : colR P M mf C X set = if 256 < set.length then (0, [], 8) else if bad C set = true then (0, [], 6) else ((set.length : Int), pks X set, 0) := if_neg h0
 rw [e0] at h; obtain ⟨_, hs, _⟩ := mck_zero (Classical.not_not.1 h0); obtain ⟨hX, hC, hC'⟩ := shp_le hs; refine ⟨fun h1 => ?_, fun h1 => ?_⟩
 ·rw [if_pos (by omega)] at h; exact h
 rw [if_neg (by omega)] at h; refine ⟨fun z => ∃ t : Nat, z = t ∧ t ≤ set.length ∧ ∀ k, k < t → 0 ≤ vo set k ∧ vo set k < C, fun z => (set.length - z).toNat, ⟨0, rfl, Nat.zero_le _, fun k hk => by omega⟩, ?_⟩; rintro _ ⟨t, rfl, ht, hk⟩; dsimp only; refine ⟨fun hlt => ⟨fun hlo => ?_, fun hlo => ?_⟩, fun hge => ?_⟩
 ·rw [if_pos (bad_of (i := t) (by omega) (.inl hlo))] at h; exact ⟨⟨by omega, by omega⟩, h⟩
 ·refine ⟨⟨by omega, by omega⟩, ⟨by omega, by omega⟩, fun hhi => ?_, fun hhi => ⟨small (by omega) (by omega), ⟨t + 1, by push_cast; rfl, by omega, fun k hk' => ?_⟩, by omega⟩⟩
  ·rw [if_pos (bad_of (i := t) (by omega) (.inr hhi))] at h; exact h
  ·rcases Nat.lt_or_ge k t with h | h
   ·exact hk k h
   ·rw [show k = t by omega]; have h5 : ¬ vo set t < 0 := hlo; have h6 : ¬ C ≤ vo set t := hhi; omega
 have hin : ∀ i, i < set.length → 0 ≤ vo set i ∧ vo set i < C := fun i hi => hk i (by omega); have hb : ¬ bad C set = true := fun hb => by
  obtain ⟨x, hx, hx'⟩ := List.any_eq_true.1 hb; obtain ⟨i, hi, rfl⟩ := mem_vo hx; have := hin i hi; rw [if_neg (by omega), decide_eq_true_eq] at hx'; omega
 rw [if_neg hb] at h; refine ⟨fun x z => ∃ t : Nat, z = t ∧ t ≤ X.length ∧ x = (List.range t).map fun k => pkr (row X k) set, fun _ z => (X.length - z).toNat, ⟨0, rfl, Nat.zero_le _, rfl⟩, ?_⟩; rintro _ _ ⟨t, rfl, ht, rfl⟩; dsimp only; refine ⟨fun hlt => ⟨fun y => y = (List.range (t + 1)).map fun k => pkr (row X k) set, ⟨⟨by omega, by omega⟩, _, w_rPick (by omega) (fun i hi => ?_) rfl, by simp; omega, ?_⟩, ?_⟩, fun hge => ?_⟩
 ·have := hin i hi; exact ⟨this.1, by show vo set i < ((row X t).length : Int); rw [shp_row hs (by omega)]; omega⟩
 ·rw [List.range_succ, List.map_append]; rfl
 ·rintro _ rfl; exact ⟨small (by omega) (by omega), ⟨t + 1, by push_cast; rfl, by omega, rfl⟩, by omega⟩
 ·rw [show t = X.length by omega]; exact h
def idR (n : Int) : Int × List (List Int) × Int := if n < 0 then (0, [], 6) else if 256 < n then (0, [], 6) else (n, idm n.toNat, 0)
theorem idR_len {n c e : Int} {Z : List (List Int)} (h : idR n = (c, Z, e)) : Z.length ≤ 1000000 ∧ ∀ r ∈ Z, r.length ≤ 1000000 := by
 unfold idR at h; split at h
 ·cases h; simp
 split at h
 ·cases h; simp
 cases h; refine ⟨by rw [idm_len]; omega, fun r hr => ?_⟩; obtain ⟨t, ht, rfl⟩ := mem_row hr; rw [idm_row_len (by rwa [idm_len] at ht)]; omega
theorem w_Identity {n : Int} {Q : Int × List (List Int) × Int → Prop} (h : ∀ c Z e, idR n = (c, Z, e) → Q (c, Z, e)) : V_Identity n Q :=
 ⟨fun h0 => h _ _ _ (if_pos h0), fun h0 => ⟨fun h1 => h _ _ _ (by unfold idR; rw [if_neg h0, if_pos h1]), fun h1 => w_identity ⟨by omega, by omega⟩ (h _ _ _ (by unfold idR; rw [if_neg h0, if_neg h1]))⟩⟩
theorem w_rUnit {n : Int} {Q : List (List Int) → Prop} (hn : 0 ≤ n ∧ n ≤ 256) (h : Q (idm n.toNat)) : V_rUnit n Q := by
 refine ⟨fun x z => ∃ t : Nat, z = t ∧ t ≤ n.toNat ∧ x = (List.range t).map fun i => (List.replicate n.toNat (0 : Int)).set i 1, fun _ z => (n - z).toNat, ⟨0, rfl, Nat.zero_le _, rfl⟩, ?_⟩; rintro _ _ ⟨t, rfl, ht, rfl⟩; dsimp only; refine ⟨fun hlt => ⟨⟨by omega, by omega, by omega⟩, ⟨by omega, by omega⟩, by simp; omega, small (by omega) (by omega), ⟨t + 1, by push_cast; rfl, by omega, ?_⟩, by omega⟩, fun hge => ?_⟩
 ·rw [List.range_succ, List.map_append]; rfl
 ·rw [show t = n.toNat by omega]; exact h
theorem w_rIdentity {n c e : Int} {Z : List (List Int)} {Q : Int × List (List Int) × Int → Prop} (hc : idR n = (c, Z, e)) (h : Q (c, Z, e)) : V_rIdentity n Q := by
 rw [← hc] at h; unfold idR at h; refine ⟨fun h0 => ?_, fun h0 => ⟨fun h1 => ?_, fun h1 => w_rUnit ⟨by omega, by omega⟩ ?_⟩⟩
 ·rw [if_pos h0] at h; exact h
 ·rw [if_neg h0, if_pos h1] at h; exact h
 ·rw [if_neg h0, if_neg h1] at h; exact h
theorem w_rVector {x : List Int} {n : Nat} {Q : Int → Prop} (hF : FV P M mf p m v) (hn : n ≤ 1000000) (h : Q (vce p m x n)) : V_rVector P M mf x (n : Int) Q := by
  refine ⟨fun hne => ?_, fun he => ?_⟩
  · have hne' : x.length ≠ n := by omega
    unfold vce at h; rw [if_pos hne'] at h; exact h
  · have he' : x.length = n := by have := Classical.not_not.1 he; omega
    unfold vce at h; rw [if_neg (fun hh => hh he')] at h
    refine w_rEntries hF (by omega) (fun h1 => ?_) (fun h1 => ?_)
    · rw [if_neg (fun hh => hh h1)] at h; exact h
    · rw [if_pos h1] at h; exact h
theorem w_rCombine {x : List Int} {Q : List Int → Prop} (hF : FV P M mf p m v) (hs : shp C X) (hx : x.length = X.length) (h : Q (cmb p m v x C.toNat X X.length)) : V_rCombine P M mf x X C Q := by
 obtain ⟨h1, h2, h3⟩ := shp_le hs; refine ⟨⟨by omega, by omega, by omega⟩, fun y => y = cmb p m v x C.toNat X X.length, ⟨fun y z => ∃ t : Nat, z = t ∧ t ≤ X.length ∧ y = cmb p m v x C.toNat X t, fun _ z => (X.length - z).toNat, ⟨0, rfl, Nat.zero_le _, rfl⟩, ?_⟩, fun y hy => by rw [hy]; exact h⟩; rintro _ _ ⟨t, rfl, ht, rfl⟩; dsimp only; refine ⟨fun hlt => ⟨fun hlt2 => ⟨fun y => y = cmb p m v x C.toNat X (t + 1), ⟨⟨by omega, by omega⟩, fun hne => ?_, fun he => ?_⟩, ?_⟩, fun hge => by omega⟩, fun hge => by rw [show t = X.length by omega]⟩
 ·have hr := shp_row hs (t := t) (by omega); have hc := cmb_len (p := p) (m := m) (v := v) (X := X) x C.toNat t; refine ⟨⟨by omega, by omega⟩, ⟨by omega, by omega⟩, _, w_rAddTo hF (by show _ ≤ (row X t).length; omega) (by omega) rfl, ?_⟩; rw [cmb_succ]; unfold adx; have hne' : vo x t ≠ 0 := hne; rw [if_neg hne']; rfl
 ·rw [cmb_succ]; unfold adx; have he' : vo x t = 0 := Classical.not_not.1 he; rw [if_pos he']
 ·rintro _ rfl; exact ⟨small (by omega) (by omega), ⟨t + 1, by push_cast; rfl, by omega, rfl⟩, by omega⟩
theorem w_rVec {x : List Int} {Q : List Int × Int → Prop} (hb : mck P M mf C X ≠ 0 → Q ([], mck P M mf C X))
  (h : ∀ p m v, FV P M mf p m v → shp C X → Els p m X → mck P M mf C X = 0 → (vce p m x X.length ≠ 0 → Q ([], vce p m x X.length)) ∧ (vce p m x X.length = 0 → Q (cmb p m v x C.toNat X X.length, 0))) : V_rVec P M mf x C X Q := by
 refine w_rmCheck ?_; by_cases h0 : mck P M mf C X = 0
 ·obtain ⟨⟨p, m, v, hF⟩, h2, h3⟩ := mck_zero h0; have hfin := h p m v hF h2 ((elsV_iff hF).1 h3) h0; refine ⟨fun z => z = vce p m x X.length, ⟨fun _ => w_rVector hF (by have := shp_len h2; omega) rfl, fun h1 => absurd h0 h1⟩, ?_⟩; rintro _ rfl; exact ⟨hfin.1, fun hv => w_rCombine hF h2 (vce_zero (Classical.not_not.1 hv)).1 (hfin.2 (Classical.not_not.1 hv))⟩
 ·refine ⟨fun z => z = mck P M mf C X, ⟨fun h1 => absurd h1 h0, fun _ => rfl⟩, ?_⟩; rintro _ rfl; exact ⟨fun _ => hb h0, fun h1 => absurd (Classical.not_not.1 h1) h0⟩
end
theorem law_MatrixPicks (P M : Int) (mf : List Int) (C : Int) (X : List (List Int)) (l : List Int) : V_LPicks P M mf C X l (fun b => b = true) := by
 refine w_awake ⟨fun h => absurd h (by decide), fun _ => w_rFew ⟨by omega, by omega⟩ (fun h1 h2 h3 => ⟨fun h => absurd h (by decide), fun _ => ⟨fun _ => w_awake rfl, fun hl => ?_⟩⟩) ⟨fun _ => w_awake rfl, fun h => absurd h (by decide)⟩⟩; refine w_Columns fun c Z e hc => w_rColumns hc ?_; obtain ⟨hZ, hZr⟩ := col_len hc; have fin : ∀ (y : List Int) (e2 : Int), y.length ≤ 1000000 → ∀ n : Int, True := fun _ _ _ _ => trivial; refine w_Vec (fun h0 => w_rVec (fun _ => ?_) fun p m v hF _ _ h4 => absurd h4 h0) fun p m v hF hs he h0 => ⟨fun hv => w_rVec (fun h4 => absurd h0 h4) fun p' m' v' hF' _ _ _ => ⟨fun _ => ?_, fun hv' => ?_⟩, fun hv => w_rVec (fun h4 => absurd h0 h4) fun p' m' v' hF' _ _ _ => ⟨fun hv' => ?_, fun _ => ?_⟩⟩
 all_goals try obtain ⟨rfl, rfl, rfl⟩ := hF.uniq3 hF'
 all_goals first | exact absurd hv' hv | exact absurd hv hv' | skip
 all_goals
  refine ⟨fun h => absurd rfl h, fun _ => w_rSame hZ hZr ⟨fun h => absurd h (by decide), fun _ => ⟨fun h => absurd rfl h, fun _ => w_rSameInts ?_ ⟨fun h => absurd h (by decide), fun _ => ⟨fun _ => rfl, fun hl0 => ⟨⟨by omega, by omega⟩, w_Identity fun c2 Z2 e2 hI => ⟨⟨by omega, by omega⟩, w_rIdentity hI ⟨fun _ => w_rSame (idR_len hI).1 (idR_len hI).2 rfl, fun h => absurd rfl h⟩⟩⟩⟩⟩⟩⟩⟩
  first | (show ([] : List Int).length ≤ _; decide) | (rw [cmb_len]; have := shp_le hs; omega)
end Go.Proofs.Ytiboieijhehjnaa
