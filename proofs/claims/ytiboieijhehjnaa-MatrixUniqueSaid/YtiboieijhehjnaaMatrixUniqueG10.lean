/- Contracts of functions of the program, and what they lean on: M6, M7, M8, M9, M10, M11, M12, M13, M14, M15, M16, M17, M18, M19, M20, M21, M22, M23, M24. -/
import Derived.Test.YtiboieijhehjnaaMatrixUniqueG9
set_option linter.unusedVariables false
set_option linter.unusedSimpArgs false
namespace Go.Proofs.Ytiboieijhehjnaa
section
variable {F : GFv} {p m v g : Nat} {P M : Int} {mf : List Int} {X Y : List (List Int)} {C : Int}
open Classical in
noncomputable def sqe (P M : Int) (mf : List Int) (C : Int) (X : List (List Int)) : Int := if mck P M mf C X ≠ 0 then mck P M mf C X else if (X.length : Int) ≠ C then 3 else 0
theorem Jk3 (h : mck P M mf C X ≠ 0) : sqe P M mf C X = mck P M mf C X := if_pos h
theorem Joi (h : mck P M mf C X = 0) (h2 : (X.length : Int) ≠ C) : sqe P M mf C X = 3 := by unfold sqe; rw [if_neg (fun hh => hh h), if_pos h2]
theorem Joh (h : mck P M mf C X = 0) (h2 : (X.length : Int) = C) : sqe P M mf C X = 0 := by unfold sqe; rw [if_neg (fun hh => hh h), if_neg (fun hh => hh h2)]
theorem Jaz {Q : Option GFv × Int -> Prop} (hb : sqe P M mf C X ≠ 0 -> Q (none, sqe P M mf C X))
  (h : ∀ (F : GFv) (p m v g : Nat), GFk F p m v g -> FV P M mf p m v -> shp C X -> Els p m X -> (X.length : Int) = C -> sqe P M mf C X = 0 -> Q (some F, 0)) : Yf P M mf C X Q := by
 refine ZU (fun h0 _ => ⟨h0, ?_⟩) fun F p m v g K hF hs he h0 => ⟨fun h1 => ⟨by decide, ?_⟩, fun h1 => ?_⟩
 .have := hb (by rw [Jk3 h0]; exact h0); rwa [Jk3 h0] at this
 .have := hb (by rw [Joi h0 h1]; decide); rwa [Joi h0 h1] at this
 .have h2 : (X.length : Int) = C := Classical.not_not.1 h1; exact h F p m v g K hF hs he h2 (Joh h0 h2)
theorem w_Det {Q : Int × Int -> Prop} (hb : sqe P M mf C X ≠ 0 -> Q (0, sqe P M mf C X))
  (h : ∀ p m v, FV P M mf p m v -> shp C X -> Els p m X -> (X.length : Int) = C -> sqe P M mf C X = 0 -> Q ((if ((J5 p m v C X).length : Int) < C then 0 else (ec p m v C X).d), 0)) : Jl6 P M mf C X Q := by
 refine Jaz (fun h0 _ => hb h0) fun F p m v g K hF hs he hX h0 => ?_; obtain ⟨h1, h2, h3⟩ := Zg hs; refine ⟨X, Ja0 (by omega) (Yo hs) rfl, ⟨by omega, by omega, by omega⟩, ?_⟩; have hfin := h p m v hF hs he hX h0; have e : J7 F C X (List.replicate C.toNat ([] : List Int)) = J7 F ((C.toNat : Nat) : Int) X (List.replicate X.length ([] : List Int)) := by
  rw [h3, show C.toNat = X.length by omega]
 rw [e]; refine YM K (by omega) (by omega) (wy := 0) (by omega) (ZY hs) ?_; refine ⟨fun hlt => ?_, fun hge => ?_⟩
 .rw [if_pos (show ((J5 p m v C X).length : Int) < C from hlt)] at hfin; exact hfin
 .rw [if_neg (show ¬ ((J5 p m v C X).length : Int) < C from hge)] at hfin; exact hfin
def idm (n : Nat) : List (List Int) := (List.range n).map fun i => (List.replicate n (0 : Int)).set i 1
theorem Jll (n : Nat) : (idm n).length = n := by simp [idm]
theorem Jk6 {n t : Nat} (h : t < n) : row (idm n) t = (List.replicate n (0 : Int)).set t 1 := Jft h
theorem Jiz {n : Int} {Q : Int × List (List Int) -> Prop} (hn : 0 <= n /\ n <= 256) (h : Q (n, idm n.toNat)) : ZA n Q := by
 refine ⟨⟨by omega, by omega, by omega⟩, fun x z => ∃ t : Nat, z = t /\ t <= n.toNat /\ x.length = n.toNat /\ ∀ k, k < t -> row x k = row (idm n.toNat) k, fun _ z => (n - z).toNat, ⟨0, rfl, Nat.zero_le _, by simp, fun k hk => by omega⟩, ?_⟩; rintro x _ ⟨t, rfl, ht, hx, hk⟩; have hg : ∀ l : List Int, t < n.toNat -> gl (sll x (t : Int) l) (t : Int) = l := fun l hlt => by
  show row (x.set t l) t = l; rw [QM, if_pos ⟨rfl, by omega⟩]
 dsimp only; refine ⟨fun hlt => ?_, fun hge => ?_⟩
 .have htn : t < n.toNat := by omega
  rw [hg _ htn]; refine ⟨⟨by omega, by omega, by omega⟩, ⟨by omega, by omega⟩, ⟨by omega, by omega⟩, ⟨by omega, by rw [List.length_replicate]; omega⟩, Jv (by omega) (by omega), ⟨t + 1, by push_cast; rfl, by omega, by rw [Jc5, Jc5]; exact hx, fun k hk' => ?_⟩, by omega⟩; show row ((x.set t (List.replicate n.toNat 0)).set t ((List.replicate n.toNat (0 : Int)).set t 1)) k = _; rw [QM, List.length_set]; by_cases e : t = k
  .subst e; rw [if_pos ⟨rfl, by omega⟩, Jk6 htn]
  .rw [if_neg (fun h => e h.1), QM, if_neg (fun h => e h.1)]; exact hk k (by omega)
 .rw [show x = idm n.toNat from YN (by rw [Jll]; exact hx) fun i hi => hk i (by omega)]; exact h
theorem Jhy {n t : Nat} (h : t < n) : (row (idm n) t).length = n := by rw [Jk6 h]; simp
def ei (p m v : Nat) (C : Int) (X : List (List Int)) : ES := elim p m v C.toNat ⟨X, idm C.toNat, [], 1⟩
theorem ei_shp (hs : shp C X) (hX : (X.length : Int) = C) : Shp X.length C.toNat C.toNat ⟨X, idm C.toNat, [], 1⟩ := Ji5 hs (by rw [Jll]; omega) fun t ht => Jhy (by omega)
theorem Jl9 {Q : Int × List (List Int) × Int -> Prop} (hb : sqe P M mf C X ≠ 0 -> Q (0, [], sqe P M mf C X))
  (h : ∀ p m v, FV P M mf p m v -> shp C X -> Els p m X -> (X.length : Int) = C -> sqe P M mf C X = 0 -> (((ei p m v C X).pv.length : Int) < C -> Q (0, [], 9)) /\ (¬ ((ei p m v C X).pv.length : Int) < C -> Q (C, (ei p m v C X).Y, 0))) : Jad P M mf C X Q := by
 refine Jaz (fun h0 _ => hb h0) fun F p m v g K hF hs he hX h0 => Jiz ⟨hs.1, hs.2.1⟩ ⟨X, Ja0 (by have := Jc6 hs; omega) (Yo hs) rfl, ?_⟩; obtain ⟨h1, h2, h3⟩ := Zg hs; have hfin := h p m v hF hs he hX h0; have e : J7 F C X (idm C.toNat) = J7 F ((C.toNat : Nat) : Int) X (idm C.toNat) := by rw [h3]
 rw [e]; exact YM K (by omega) (by omega) (wy := C.toNat) (by omega) (ei_shp hs hX) hfin
def cmb (p m v : Nat) (x : List Int) (C : Nat) (X : List (List Int)) (k : Nat) : List Int := (List.range k).foldl (fun s i => adx p m v s (vo x i) (row X i)) (List.replicate C 0)
theorem Jh1 (x : List Int) (C : Nat) (k : Nat) : cmb p m v x C X (k + 1) = adx p m v (cmb p m v x C X k) (vo x k) (row X k) := by
 unfold cmb; rw [List.range_succ, List.foldl_append]; rfl
theorem Jls (x : List Int) (C : Nat) : ∀ k, (cmb p m v x C X k).length = C
 | 0 => by simp [cmb]
 | k + 1 => by rw [Jh1, Jde]; exact Jls x C k
theorem Jl8 {x : List Int} {Q : List Int -> Prop} (K : GFk F p m v g) (hs : shp C X) (hx : x.length = X.length) (h : Q (cmb p m v x C.toNat X X.length)) : Jab F x C X Q := by
 obtain ⟨h1, h2, h3⟩ := Zg hs; refine ⟨⟨by omega, by omega, by omega⟩, fun y z => ∃ t : Nat, z = t /\ t <= X.length /\ y = cmb p m v x C.toNat X t, fun _ z => (X.length - z).toNat, ⟨0, rfl, Nat.zero_le _, rfl⟩, ?_⟩; rintro _ _ ⟨t, rfl, ht, rfl⟩; refine ⟨fun hlt => ?_, fun hge => by rw [show t = X.length by omega]; exact h⟩; have hr := Q3 hs (t := t) (by omega); have hc := Jls (p := p) (m := m) (v := v) (X := X) x C.toNat t; refine ⟨⟨by omega, by omega⟩, ⟨by omega, by omega⟩, YT K (by show (row X t).length <= _; omega) (by omega) ⟨Jv (by omega) (by omega), ⟨t + 1, by push_cast; rfl, by omega, ?_⟩, ?_⟩⟩
 .rw [Jh1]; rfl
 .show ((X.length : Int) - ((t : Int) + 1)).toNat < ((X.length : Int) - (t : Int)).toNat; omega
open Classical in
noncomputable def vce (p m : Nat) (x : List Int) (n : Nat) : Int := if x.length ≠ n then 3 else if ¬ Elr p m x then 2 else 0
theorem Jg6 {x : List Int} {n : Nat} (h : vce p m x n = 0) : x.length = n /\ Elr p m x := by
 unfold vce at h; split at h
 .exact absurd h (by decide)
 .rename_i h1
  split at h
  .exact absurd h (by decide)
  .rename_i h2; exact ⟨Classical.not_not.1 h1, Classical.not_not.1 h2⟩
theorem Jnu {x : List Int} {Q : Int -> Prop} (K : GFk F p m v g) (hX : X.length <= 1000000) (h : Q (vce p m x X.length)) : Jej F x C X Q := by
 refine ⟨fun hne => ?_, fun he => ?_⟩
 .have hne' : x.length ≠ X.length := by omega
  unfold vce at h; rw [if_pos hne'] at h; exact h
 .have he' : x.length = X.length := by have := Classical.not_not.1 he; omega
  unfold vce at h; rw [if_neg (fun hh => hh he')] at h; refine Jai K (by omega) (fun h1 => ?_) (fun h1 => ?_)
  .rw [if_neg (fun hh => hh h1)] at h; exact ⟨fun h0 => absurd h0 (by decide), fun _ => h⟩
  .rw [if_pos h1] at h; exact ⟨fun _ => h, fun h0 => absurd h0 (by decide)⟩
theorem w_Vec {x : List Int} {Q : List Int × Int -> Prop} (hb : mck P M mf C X ≠ 0 -> Q ([], mck P M mf C X))
  (h : ∀ p m v, FV P M mf p m v -> shp C X -> Els p m X -> mck P M mf C X = 0 -> (vce p m x X.length ≠ 0 -> Q ([], vce p m x X.length)) /\ (vce p m x X.length = 0 -> Q (cmb p m v x C.toNat X X.length, 0))) : Jl3 P M mf x C X Q := by
 refine ZU (fun h0 _ => hb h0) fun F p m v g K hF hs he h0 => ?_; have hfin := h p m v hF hs he h0; refine Jnu K (by have := Jc6 hs; omega) ⟨hfin.1, fun h1 => ?_⟩; have h1' : vce p m x X.length = 0 := Classical.not_not.1 h1; exact Jl8 K hs (Jg6 h1').1 (hfin.2 h1')
def rgt (b : List Int) : List (List Int) := b.map fun y => [y]
theorem Jfu (b : List Int) : (rgt b).length = b.length := by simp [rgt]
theorem Jk5 {b : List Int} {t : Nat} (h : t < b.length) : row (rgt b) t = [vo b t] := by
 unfold row rgt vo; rw [List.getD_eq_getElem?_getD, List.getElem?_map, List.getD_eq_getElem?_getD, List.getElem?_eq_getElem h]; rfl
def eb (p m v : Nat) (C : Int) (X : List (List Int)) (b : List Int) : ES := elim p m v C.toNat ⟨X, rgt b, [], 1⟩
def slv (C : Nat) (pv : List Int) (Z : List (List Int)) (k : Nat) : List Int := (List.range k).foldl (fun x i => if i < pv.length then x.set (vo pv i).toNat (vo (row Z i) 0) else x) (List.replicate C 0)
theorem Jhe (C : Nat) (pv : List Int) (Z : List (List Int)) (k : Nat) : slv C pv Z (k + 1) = if k < pv.length then (slv C pv Z k).set (vo pv k).toNat (vo (row Z k) 0) else slv C pv Z k := by
 unfold slv; rw [List.range_succ, List.foldl_append]; rfl
theorem eb_shp (hs : shp C X) {b : List Int} (hb : b.length = X.length) : Shp X.length C.toNat 1 ⟨X, rgt b, [], 1⟩ := Ji5 hs (by rw [Jfu]; exact hb) fun t ht => by rw [Jk5 (by omega)]; rfl
theorem Jq0 {b : List Int} {Q : List Int × Int -> Prop} (hb : mck P M mf C X ≠ 0 -> Q ([], mck P M mf C X))
  (h : ∀ p m v, FV P M mf p m v -> shp C X -> Els p m X -> mck P M mf C X = 0 -> (vce p m b X.length ≠ 0 -> Q ([], vce p m b X.length)) /\ (vce p m b X.length = 0 ->
   ((∃ i, (eb p m v C X b).pv.length <= i /\ i < b.length /\ vo (row (eb p m v C X b).Y i) 0 ≠ 0) -> Q ([], 11)) /\ ((∀ i, (eb p m v C X b).pv.length <= i -> i < b.length -> vo (row (eb p m v C X b).Y i) 0 = 0) -> Q (slv C.toNat (eb p m v C X b).pv (eb p m v C X b).Y b.length, 0)))) : Jdk P M mf C X b Q := by
 refine ZU (fun h0 _ => hb h0) fun F p m v g K hF hs he h0 => ?_; have hfin := h p m v hF hs he h0; obtain ⟨h1, h2, h3⟩ := Zg hs; refine Jnu K (by omega) ⟨hfin.1, fun hv => ?_⟩; have hv' : vce p m b X.length = 0 := Classical.not_not.1 hv; have hbl := (Jg6 hv').1; have hfin := hfin.2 hv'; refine ⟨⟨by omega, by omega, by omega⟩, fun x z => ∃ t : Nat, z = t /\ t <= b.length /\ x.length = b.length /\ ∀ k, k < t -> row x k = row (rgt b) k, fun _ z => (b.length - z).toNat, ⟨0, rfl, Nat.zero_le _, by simp, fun k hk => by omega⟩, ?_⟩; rintro x _ ⟨t, rfl, ht, hx, hk⟩; dsimp only; refine ⟨fun hlt => ⟨⟨by omega, by omega⟩, ⟨by omega, by omega⟩, Jv (by omega) (by omega), ⟨t + 1, by push_cast; rfl, by omega, by rw [Jc5]; exact hx, fun k hk' => ?_⟩, by omega⟩, fun hge => ?_⟩
 .show row (x.set t [vo b t]) k = _; rw [QM]; by_cases e : t = k
  .subst e; rw [if_pos ⟨rfl, by omega⟩, Jk5 (by omega)]
  .rw [if_neg (fun h => e h.1)]; exact hk k (by omega)
 .have ex : x = rgt b := YN (by rw [Jfu]; exact hx) fun i hi => hk i (by omega); subst ex; refine ⟨X, Ja0 (by omega) (Yo hs) rfl, ?_⟩; have e : J7 F C X (rgt b) = J7 F ((C.toNat : Nat) : Int) X (rgt b) := by rw [h3]
  rw [e]; have hS := eb_shp hs hbl; refine YM K (by omega) (by omega) (wy := 1) (by omega) hS ?_; have hs2 := YG (p := p) (m := m) (v := v) hS C.toNat; have hasc := Jbh (p := p) (m := m) (v := v) (S := ⟨X, rgt b, [], 1⟩) rfl C.toNat; unfold eb at hfin; generalize elim p m v C.toNat ⟨X, rgt b, [], 1⟩ = E at *
  have hyl := hs2.yl; have hyr := hs2.yr; have hpl := hs2.pl; dsimp only; refine ⟨⟨by omega, by omega, by omega⟩, fun x z => ∃ t : Nat, z = t /\ t <= b.length /\ x = slv C.toNat E.pv E.Y t /\ ∀ i, E.pv.length <= i -> i < t -> vo (row E.Y i) 0 = 0, fun _ z => (b.length - z).toNat, ⟨0, rfl, Nat.zero_le _, rfl, fun i _ hi => by omega⟩, ?_⟩; rintro _ _ ⟨t, rfl, ht, rfl, hz⟩; have hrl := Jfu b; refine ⟨fun hlt => ?_, fun hge => ?_⟩
  .have htb : t < b.length := by omega
   have hy := hyr t (by omega); refine ⟨fun x => x = slv C.toNat E.pv E.Y (t + 1) /\ ∀ i, E.pv.length <= i -> i < t + 1 -> vo (row E.Y i) 0 = 0, ⟨⟨by omega, by omega⟩, fun hlt2 => ?_, fun hge2 => ?_⟩, ?_⟩
   .have hv2 : 0 <= gi E.pv (t : Int) /\ gi E.pv (t : Int) < ((C.toNat : Nat) : Int) := hasc.1 t (by omega); refine ⟨⟨by omega, by omega⟩, ⟨by omega, by show (0 : Int) < ((row E.Y t).length : Nat); omega⟩, hv2, ?_, fun i h4 h5 => ?_⟩
    .rw [Jhe, if_pos (by omega)]; rfl
    .exact hz i h4 (by omega)
   .refine ⟨⟨by omega, by show (0 : Int) < ((row E.Y t).length : Nat); omega⟩, fun hne => hfin.1 ⟨t, by omega, htb, hne⟩, fun he0 => ⟨?_, fun i h4 h5 => ?_⟩⟩
    .rw [Jhe, if_neg (by omega)]
    .rcases Nat.lt_or_ge i t with h6 | h6
     .exact hz i h4 h6
     .rw [show i = t by omega]; exact Classical.not_not.1 he0
   .rintro _ ⟨rfl, hz2⟩; refine ⟨Jv (by omega) (by omega), ⟨t + 1, by push_cast; rfl, by omega, rfl, hz2⟩, ?_⟩; show ((b.length : Int) - ((t : Int) + 1)).toNat < ((b.length : Int) - (t : Int)).toNat; omega
  .have htb : t = b.length := by omega
   rw [htb] at hz ⊢; exact hfin.2 hz
end
theorem islf2 : IsLf 2 2 := ⟨by decide, by decide, fun e h _ => h⟩
theorem islf5 : IsLf 5 5 := ⟨by decide, by decide, fun e h1 h2 => by
 rcases Nat.lt_or_ge e 5 with h | h
 .rcases (show e = 2 ∨ e = 3 ∨ e = 4 by omega) with rfl | rfl | rfl <;> simp at h2
 .exact h⟩
theorem fv2 : FV 2 1 [] 2 1 0 := ZW islf2 (by decide)
theorem fv5 : FV 5 1 [] 5 1 0 := ZW islf5 (by decide)
def A3 : List (List Int) := [[1, 1, 0], [0, 1, 1], [1, 0, 1]]
def A2 : List (List Int) := [[1, 2], [3, 4]]
theorem shp_A3 : shp 3 A3 := ⟨by decide, by decide, by decide, by decide⟩
theorem Jol : shp 2 A2 := ⟨by decide, by decide, by decide, by decide⟩
instance (p m : Nat) (x : Int) : Decidable (El p m x) := inferInstanceAs (Decidable (_ /\ _))
theorem els_A3 : Els 2 1 A3 := by unfold Els Elr; decide
theorem els_A2 : Els 5 1 A2 := by unfold Els Elr; decide
theorem Jrj : ¬ Els 2 1 A2 := by unfold Els Elr; decide
theorem Jjq : mck 2 1 [] 3 A3 = 0 := Jd1 ⟨_, _, _, fv2⟩ shp_A3 ⟨_, _, _, fv2, els_A3⟩
theorem Jf6 : mck 5 1 [] 2 A2 = 0 := Jd1 ⟨_, _, _, fv5⟩ Jol ⟨_, _, _, fv5, els_A2⟩
theorem Jrl : mck 2 1 [] 2 A2 = 2 := Jda ⟨_, _, _, fv2⟩ Jol fun h => Jrj ((YF fv2).1 h)
theorem Joj : sqe 5 1 [] 2 A2 = 0 := Joh Jf6 rfl
theorem ev1 : Qj 2 1 0 3 A3 = [[1, 0, 1], [0, 1, 1]] := by decide +kernel
theorem ev2 : J5 2 1 0 3 A3 = [0, 1] := by decide +kernel
theorem ev3 : Qj 2 1 0 3 (basC 2 1 0 3 A3) = [[1, 1, 1]] := by decide +kernel
theorem ev4 : (if ((J5 5 1 0 2 A2).length : Int) < 2 then 0 else (ec 5 1 0 2 A2).d) = 3 := by decide +kernel
theorem ev5 : ¬ ((ei 5 1 0 2 A2).pv.length : Int) < 2 := by decide +kernel
theorem ev6 : (ei 5 1 0 2 A2).Y = [[3, 1], [4, 2]] := by decide +kernel
theorem ev7 : cmb 5 1 0 [1, 1] (2 : Int).toNat A2 A2.length = [4, 1] := by decide +kernel
theorem ev8 : slv (2 : Int).toNat (eb 5 1 0 2 A2 [3, 2]).pv (eb 5 1 0 2 A2 [3, 2]).Y 2 = [1, 1] := by decide +kernel
theorem ev9 : (eb 5 1 0 2 A2 [3, 2]).pv.length = 2 := by decide +kernel
theorem Jn3 {p m : Nat} {x : List Int} {n : Nat} (h : x.length = n) (he : Elr p m x) : vce p m x n = 0 := by
 unfold vce; rw [if_neg (fun hh => hh h), if_neg (fun hh => hh he)]
theorem Jks {Q : Bool -> Prop} (h : Q true) : Jac Q := by
 refine QW (X := A3) (fun h0 => absurd Jjq h0) fun p m v hF _ _ _ => ?_; obtain ⟨rfl, rfl, rfl⟩ := fv2.uniq3 hF; rw [ev1, ev2]; refine w_Rank (X := A3) (fun h0 => absurd Jjq h0) fun p m v hF _ _ _ => ?_; obtain ⟨rfl, rfl, rfl⟩ := fv2.uniq3 hF; rw [ev2]; refine Jnv (X := A3) (fun h0 => absurd Jjq h0) fun p m v hF _ _ _ => ?_; obtain ⟨rfl, rfl, rfl⟩ := fv2.uniq3 hF; rw [ev3]; refine w_Det (X := A2) (fun h0 => absurd Joj h0) fun p m v hF _ _ _ _ => ?_; obtain ⟨rfl, rfl, rfl⟩ := fv5.uniq3 hF; rw [ev4]; refine Jl9 (X := A2) (fun h0 => absurd Joj h0) fun p m v hF _ _ _ _ => ?_; obtain ⟨rfl, rfl, rfl⟩ := fv5.uniq3 hF; refine ⟨fun h0 => absurd h0 ev5, fun _ => ?_⟩; rw [ev6]; refine w_Vec (X := A2) (fun h0 => absurd Jf6 h0) fun p m v hF _ _ _ => ?_; obtain ⟨rfl, rfl, rfl⟩ := fv5.uniq3 hF; refine ⟨fun h0 => absurd (Jn3 rfl (by unfold Elr; decide)) h0, fun _ => ?_⟩; rw [ev7]; refine Jq0 (X := A2) (fun h0 => absurd Jf6 h0) fun p m v hF _ _ _ => ?_; obtain ⟨rfl, rfl, rfl⟩ := fv5.uniq3 hF; refine ⟨fun h0 => absurd (Jn3 rfl (by unfold Elr; decide)) h0, fun _ => ⟨fun ⟨i, h1, h2, _⟩ => by rw [ev9] at h1; simp at h2; omega, fun _ => ?_⟩⟩; rw [show slv (2 : Int).toNat (eb 5 1 0 2 A2 [3, 2]).pv (eb 5 1 0 2 A2 [3, 2]).Y ([3, 2] : List Int).length = [1, 1] from ev8]; refine ⟨fun _ => ⟨fun _ => ⟨fun _ => ⟨fun _ => ⟨fun _ => ⟨fun _ => ⟨fun _ => ?_, fun h => absurd rfl h⟩, fun h => absurd rfl h⟩, fun h => absurd rfl h⟩, fun h => absurd rfl h⟩, fun h => absurd rfl h⟩, fun h => absurd rfl h⟩, fun h => absurd rfl h⟩; refine ZT (by decide) (by decide) ⟨fun _ => YL (by decide) ⟨fun _ => ⟨fun _ => ZT (by decide) (by decide) ⟨fun _ => ⟨fun _ => ZT (by decide) (by decide) ⟨fun _ => YL (by decide) ⟨fun _ => YL (by decide) ⟨fun _ => Jg4 (X := A2) ⟨fun _ => Jg4 (X := A2) ?_, fun h => absurd Jf6 h⟩, fun h => absurd h (by decide)⟩, fun h => absurd h (by decide)⟩, fun h => absurd h (by decide)⟩, fun h => absurd rfl h⟩, fun h => absurd h (by decide)⟩, fun h => absurd rfl h⟩, fun h => absurd h (by decide)⟩, fun h => absurd h (by decide)⟩; rw [Jrl]; exact h
end Go.Proofs.Ytiboieijhehjnaa
set_option linter.unusedVariables false
set_option linter.unusedSimpArgs false
namespace Go.Proofs.Ytiboieijhehjnaa
end Go.Proofs.Ytiboieijhehjnaa
set_option linter.unusedVariables false
set_option linter.unusedSimpArgs false
namespace Go.Proofs.Ytiboieijhehjnaa
section
variable {F : GFv} {p m v g : Nat} {P M : Int} {mf : List Int} {X : List (List Int)} {C : Int} {set y : List Int}
end
end Go.Proofs.Ytiboieijhehjnaa
set_option linter.unusedVariables false
set_option linter.unusedSimpArgs false
namespace Go.Proofs.Ytiboieijhehjnaa
section
variable {p m v : Nat} {P M : Int} {mf : List Int} {X Y : List (List Int)} {C : Int} {w : Nat}
def en (p m : Nat) (l : List Int) : Nat -> Nat := fun c => inE (p ^ m) (vo l c)
structure Lin (p m v w : Nat) (f : (Nat -> Nat) -> Nat) : Prop where
  lt : ∀ a, f a < p ^ m
  cg : ∀ {a b : Nat -> Nat}, (∀ c, c < w -> a c = b c) -> f a = f b
  ad : ∀ {a b : Nat -> Nat} {x : Nat}, (∀ c, a c < p ^ m) -> (∀ c, b c < p ^ m) -> x < p ^ m -> f (fun c => J2 p m (a c) (Jw p m (dv p v) x (b c))) = J2 p m (f a) (Jw p m (dv p v) x (f b))
  ml : ∀ {a : Nat -> Nat} {x : Nat}, (∀ c, a c < p ^ m) -> x < p ^ m -> f (fun c => Jw p m (dv p v) x (a c)) = Jw p m (dv p v) x (f a)
def Ann (p m : Nat) (f : (Nat -> Nat) -> Nat) (X : List (List Int)) : Prop := ∀ t, t < X.length -> f (en p m (row X t)) = 0
theorem Yr (hF : FV P M mf p m v) (l : List Int) (c : Nat) : en p m l c < p ^ m := Qe (by have := hF.ring.q2; omega) _
theorem Jpl (hF : FV P M mf p m v) {a o : List Int} {x : Int} {c : Nat} (hc : c < a.length) : en p m (adx p m v a x o) c = J2 p m (en p m a c) (Jw p m (dv p v) (inE (p ^ m) x) (en p m o c)) := by
 have R := hF.ring; have hq : 0 < p ^ m := by have := R.q2; omega
 have e0 : inE (p ^ m) 0 = 0 := Q7 (x := 0) hq; have hz : ∀ y, y < p ^ m -> Jw p m (dv p v) 0 y = 0 := fun y hy => by rw [R.Mc hq hy]; exact R.M0 hy
 unfold en adx; split
 .rename_i h; subst h
  rw [e0, hz _ (Qe hq _), R.Az (Qe hq _)]
 .rw [ZF hc]; split
  .rename_i h; rw [h, e0, R.M0 (Qe hq _), R.Az (Qe hq _)]
  .unfold Ad Ml; rw [Q7 (R.Al _ _), Q7 (R.Ml _ _)]
theorem en_sc (hF : FV P M mf p m v) {l : List Int} {x : Int} {c : Nat} (hc : c < l.length) : en p m (sc p m v x l) c = Jw p m (dv p v) (inE (p ^ m) x) (en p m l c) := by
 unfold en; rw [Jg5 hc]; unfold Ml; rw [Q7 (hF.ring.Ml _ _)]
theorem Lin.adx {f : (Nat -> Nat) -> Nat} (L : Lin p m v w f) (hF : FV P M mf p m v) {a o : List Int} {x : Int} (ha : a.length = w) : f (en p m (adx p m v a x o)) = J2 p m (f (en p m a)) (Jw p m (dv p v) (inE (p ^ m) x) (f (en p m o))) := by
 rw [<- L.ad (Yr hF a) (Yr hF o) (Qe (by have := hF.ring.q2; omega) x)]; exact L.cg fun c hc => Jpl hF (by omega)
theorem Lin.sc {f : (Nat -> Nat) -> Nat} (L : Lin p m v w f) (hF : FV P M mf p m v) {l : List Int} {x : Int} (hl : l.length = w) : f (en p m (sc p m v x l)) = Jw p m (dv p v) (inE (p ^ m) x) (f (en p m l)) := by
 rw [<- L.ml (Yr hF l) (Qe (by have := hF.ring.q2; omega) x)]; exact L.cg fun c hc => en_sc hF (by omega)
theorem Zh {r cur t : Nat} (hr : r < X.length) (hc : cur < X.length) : row (swq X r cur) t = if t = cur then row X r else if t = r then row X cur else row X t := by
  unfold swq
  split
  . rename_i h; subst h
    split
    . rename_i h; rw [h]
    . rfl
  . exact Jfr hr hc
theorem Jfs {cur t : Nat} {e : Int} (hc : cur < X.length) : row (scq p m v X cur e) t = if t = cur then sc p m v (Iv p m v e) (row X cur) else row X t := by
 unfold scq; rw [QM]; by_cases h : cur = t
 .rw [if_pos ⟨h, hc⟩, if_pos h.symm]
 .rw [if_neg (fun hh => h hh.1), if_neg (fun hh => h hh.symm)]
theorem Jlt {f : (Nat -> Nat) -> Nat} {r cur : Nat} (hr : r < X.length) (hc : cur < X.length) (h : Ann p m f (swq X r cur)) : Ann p m f X := fun t ht => by
 rw [Ann, JW] at h; by_cases h1 : t = r
 .have := h cur hc; rw [Zh hr hc, if_pos rfl] at this; rw [h1]; exact this
 .by_cases h2 : t = cur
  .have := h r hr; rw [Zh hr hc] at this; rw [if_neg (fun e => h1 (h2.trans e.symm)), if_pos rfl] at this; rw [h2]; exact this
  .have := h t ht; rw [Zh hr hc, if_neg h2, if_neg h1] at this; exact this
theorem Jr3 {f : (Nat -> Nat) -> Nat} (L : Lin p m v w f) (hF : FV P M mf p m v) {cur : Nat} {e : Int} {z : Nat} (hz : z < p ^ m) (he : Jw p m (dv p v) z (inE (p ^ m) (Iv p m v e)) = 1) (hc : cur < X.length) (hw : (row X cur).length = w) (h : Ann p m f (scq p m v X cur e)) : Ann p m f X := fun t ht => by
 have R := hF.ring; have q1 : 1 < p ^ m := R.q2; rw [Ann, Qt] at h; have h3 := h t ht; rw [Jfs hc] at h3; split at h3
 .rename_i h1; subst h1
  rw [L.sc hF hw] at h3; have hi := Qe (q := p ^ m) (by omega) (Iv p m v e); have h4 := R.Ma hz hi (L.lt (en p m (row X t))); rw [he, h3, R.M0 hz, R.Mc q1 (L.lt _), R.M1 (L.lt _)] at h4; exact h4
 .exact h3
theorem Jr5 {f : (Nat -> Nat) -> Nat} (L : Lin p m v w f) (hF : FV P M mf p m v) {cur : Nat} {g : Nat -> Int} (hc : cur < X.length) (hw : ∀ t, t < X.length -> (row X t).length = w) (h : Ann p m f (clr p m v g cur X)) : Ann p m f X := fun t ht => by
 have R := hF.ring; have hq : 0 < p ^ m := by have := R.q2; omega
 rw [Ann, Zr] at h; have hcur := h cur hc; rw [Zj hc, if_pos rfl] at hcur; have h3 := h t ht; rw [Zj ht] at h3; split at h3
 .exact h3
 .rw [L.adx hF (hw t ht), hcur, R.M0 (Qe hq _), R.Az (L.lt _)] at h3; exact h3
theorem Jo9 {g : Nat} (K : Gn (p ^ m) (Jw p m (dv p v)) g) (hF : FV P M mf p m v) {x : Int} (h0 : x ≠ 0) (hx : El p m x) : inE (p ^ m) x < p ^ m /\ Jw p m (dv p v) (inE (p ^ m) x) (inE (p ^ m) (Iv p m v x)) = 1 := by
 have R := hF.ring; have q1 : 1 < p ^ m := R.q2; have hx1 := Qe (q := p ^ m) (by omega) x; have hne : 0 < inE (p ^ m) x := by
  have := Jga hx; omega
 have h1 := K.xone R hne hx1; refine ⟨hx1, ?_⟩; have hz : pw (Jw p m (dv p v)) (inE (p ^ m) x) (p ^ m - 1 - 1) < p ^ m := by
  cases p ^ m - 1 - 1 with
  | zero => exact q1
  | succ n => exact R.Ml _ _
 have h2 : Jw p m (dv p v) (pw (Jw p m (dv p v)) (inE (p ^ m) x) (p ^ m - 1 - 1)) (inE (p ^ m) x) = 1 := by
  rw [show p ^ m - 1 = (p ^ m - 1 - 1) + 1 by omega] at h1; exact h1
 rw [Iv_eq R hx1 hz h2, Q7 hz, R.Mc hx1 hz]; exact h2
theorem Jp2 {g : Nat} (K : Gn (p ^ m) (Jw p m (dv p v)) g) (hF : FV P M mf p m v) {f : (Nat -> Nat) -> Nat} (L : Lin p m v w f) {S : ES} {c : Nat} (he : Els p m S.X) (hw : ∀ t, t < S.X.length -> (row S.X t).length = w) (h : Ann p m f (Yq p m v S c).X) : Ann p m f S.X := by
  unfold Yq at h
  split at h
  . rename_i h1
    obtain ⟨hc, hr⟩ := h1
    rw [Jcs] at h
    have hw1 : ∀ t, t < (swq S.X (nz S.X c S.pv.length) S.pv.length).length -> (row (swq S.X (nz S.X c S.pv.length) S.pv.length) t).length = w := fun t ht => by
      rw [JW] at ht; exact QX hr hc hw ht
    have hrow : row (swq S.X (nz S.X c S.pv.length) S.pv.length) S.pv.length = row S.X (nz S.X c S.pv.length) := by rw [Zh hr hc, if_pos rfl]
    have hne := (Ja8 S.X c S.pv.length (by omega)).2.2 hr
    have hcl : c < (row S.X (nz S.X c S.pv.length)).length := by
      rcases Nat.lt_or_ge c (row S.X (nz S.X c S.pv.length)).length with h | h
      . exact h
      . exact absurd (Jcj h) hne
    have hel : El p m (vo (row S.X (nz S.X c S.pv.length)) c) := Qu he _ _ (Jbx hcl)
    obtain ⟨h4, h5⟩ := Jo9 K hF hne hel
    have h2 := Jr5 L hF (by rw [Qt, JW]; exact hc) (fun t ht => by rw [Qt] at ht; exact QY (by rw [JW]; exact hc) hw1 ht) h
    rw [hrow] at h2
    have h3 := Jr3 L hF h4 h5 (by rw [JW]; exact hc) (hw1 _ (by rw [JW]; exact hc)) h2
    exact Jlt hr hc h3
  . exact h
theorem Jim {g : Nat} (K : Gn (p ^ m) (Jw p m (dv p v)) g) (hF : FV P M mf p m v) {f : (Nat -> Nat) -> Nat} (L : Lin p m v w f) {n wy : Nat} {S : ES} (hS : Shp n w wy S) (he : Els p m S.X) : ∀ k, Ann p m f (elim p m v k S).X -> Ann p m f S.X
 | 0, h => h
 | k + 1, h => by
  rw [QZ] at h; have hk := YG (p := p) (m := m) (v := v) hS k; refine Jim K hF L hS he k (Jp2 K hF L (Jbg (by have := hF.p2; omega) he k) (fun t ht => hk.xr t (by have := hk.xl; omega)) h)
end
end Go.Proofs.Ytiboieijhehjnaa
set_option linter.unusedVariables false
set_option linter.unusedSimpArgs false
namespace Go.Proofs.Ytiboieijhehjnaa
section
variable {p m v g : Nat} {P M : Int} {mf : List Int} {X Y : List (List Int)} {C : Int} {w : Nat}
structure Red (k : Nat) (S : ES) : Prop where
  one : ∀ i, i < S.pv.length -> ∀ t, t < S.X.length -> vo (row S.X t) (vo S.pv i).toNat = if t = i then 1 else 0
  lo : ∀ t, S.pv.length <= t -> t < S.X.length -> ∀ c, c < k -> vo (row S.X t) c = 0
  lf : ∀ i, i < S.pv.length -> ∀ c : Nat, (c : Int) < vo S.pv i -> vo (row S.X i) c = 0
theorem Jq1 {a o : List Int} {x : Int} {c : Nat} (h : vo o c = 0) : vo (adx p m v a x o) c = vo a c := by
 unfold adx; split
 .rfl
 .rcases Nat.lt_or_ge c a.length with hc | hc
  .rw [ZF hc, if_pos h]
  .rw [Jcj hc, Jcj (by rw [Zs]; exact hc)]
theorem Jnx (hF : FV P M mf p m v) {l : List Int} {x : Int} {c : Nat} (h : vo l c = 0) : vo (sc p m v x l) c = 0 := by
 have hq : 0 < p ^ m := by have := hF.ring.q2; omega
 rcases Nat.lt_or_ge c l.length with hc | hc
 .rw [Jg5 hc, h]; unfold Ml; rw [show inE (p ^ m) 0 = 0 from Q7 (x := 0) hq, hF.ring.M0 (Qe hq _)]; rfl
 .exact Jcj (by unfold sc; rw [List.length_map]; exact hc)
theorem Jot (K : Gn (p ^ m) (Jw p m (dv p v)) g) (hF : FV P M mf p m v) {S : ES} {k : Nat} (hA : Asc k S.pv) (hl : S.pv.length <= S.X.length) (he : Els p m S.X) (h : Red k S) : Red (k + 1) (Yq p m v S k) := by
 have R := hF.ring; have q1 : 1 < p ^ m := R.q2; have hp : 0 < p := by have := hF.p2; omega
 unfold Yq; split
 case isFalse h1 =>
  refine ⟨h.one, fun t ht1 ht2 c hc => ?_, h.lf⟩; rcases Nat.lt_or_ge c k with hck | hck
  .exact h.lo t ht1 ht2 c hck
  .have e : c = k := by omega
   subst e; have hs := Ja8 S.X c S.pv.length hl; exact hs.2.1 t ht1 (by
    rcases Nat.lt_or_ge t (nz S.X c S.pv.length) with h | h
    .exact h
    .exact absurd ⟨by omega, by omega⟩ h1)
 case isTrue h1 =>
  obtain ⟨hc, hr⟩ := h1; have hrs := nz_ge S.X k S.pv.length; have hne := (Ja8 S.X k S.pv.length hl).2.2 hr; have hkl : k < (row S.X (nz S.X k S.pv.length)).length := by
   rcases Nat.lt_or_ge k (row S.X (nz S.X k S.pv.length)).length with h | h
   .exact h
   .exact absurd (Jcj h) hne
  have hel : El p m (vo (row S.X (nz S.X k S.pv.length)) k) := Qu he _ _ (Jbx hkl); obtain ⟨h4, h5⟩ := Jo9 K hF hne hel; have hE3 : Els p m (es1 p m v k (nz S.X k S.pv.length) S.pv.length S).X := Jlo hp he hr hc; have hn : (es1 p m v k (nz S.X k S.pv.length) S.pv.length S).X.length = S.X.length := by rw [Jcs, Zr, Qt, JW]
  generalize hrr : nz S.X k S.pv.length = r at *
  have hx2 : ∀ t, row (scq p m v (swq S.X r S.pv.length) S.pv.length (vo (row (swq S.X r S.pv.length) S.pv.length) k)) t = if t = S.pv.length then sc p m v (Iv p m v (vo (row S.X r) k)) (row S.X r) else if t = r then row S.X S.pv.length else row S.X t := fun t => by
   rw [Jfs (by rw [JW]; exact hc), Zh hr hc, Zh hr hc, if_pos rfl]; split <;> rfl
  have hx3 : ∀ t, t < S.X.length -> row (es1 p m v k r S.pv.length S).X t = if t = S.pv.length then sc p m v (Iv p m v (vo (row S.X r) k)) (row S.X r) else adx p m v (if t = r then row S.X S.pv.length else row S.X t) (Ng p m (vo (if t = r then row S.X S.pv.length else row S.X t) k)) (sc p m v (Iv p m v (vo (row S.X r) k)) (row S.X r)) := fun t ht => by
   rw [Jcs, Zj (by rw [Qt, JW]; exact ht), hx2, hx2, if_pos rfl]; split
   .rfl
   .rfl
  -- the columns before stay
  have hold : ∀ t, t < S.X.length -> ∀ c, c < k -> vo (row (es1 p m v k r S.pv.length S).X t) c = vo (row S.X t) c := fun t ht c hck => by
   have z1 : vo (row S.X r) c = 0 := h.lo r hrs hr c hck; have z2 : vo (row S.X S.pv.length) c = 0 := h.lo _ (Nat.le_refl _) hc c hck; rw [hx3 t ht]; split
   .rename_i e; rw [Jnx hF z1, e, z2]
   .rw [Jq1 (Jnx hF z1)]; split
    .rename_i e; rw [z2, e, z1]
    .rfl
  have hone : vo (sc p m v (Iv p m v (vo (row S.X r) k)) (row S.X r)) k = 1 := by
   rw [Jg5 hkl]; unfold Ml; rw [R.Mc (Qe (by omega) _) h4, h5]; rfl
  have hnew : ∀ t, t < S.X.length -> vo (row (es1 p m v k r S.pv.length S).X t) k = if t = S.pv.length then 1 else 0 := fun t ht => by
   have hEt := Qu hE3 t; have hx := hx3 t ht; by_cases e : t = S.pv.length
   .rw [if_pos e] at hx ⊢; rw [hx]; exact hone
   .rw [if_neg e] at hx ⊢; rcases Nat.lt_or_ge k (if t = r then row S.X S.pv.length else row S.X t).length with hkt | hkt
    .have h6 := Jpl hF (x := Ng p m (vo (if t = r then row S.X S.pv.length else row S.X t) k)) (o := sc p m v (Iv p m v (vo (row S.X r) k)) (row S.X r)) hkt; rw [<- hx] at h6; have h7 : en p m (sc p m v (Iv p m v (vo (row S.X r) k)) (row S.X r)) k = 1 := by unfold en; rw [hone]; exact Q7 (x := 1) q1
     rw [h7] at h6; unfold Ng at h6; have h8 : Zp p m (inE (p ^ m) (vo (if t = r then row S.X S.pv.length else row S.X t) k)) < p ^ m := Jgd hp _; rw [Q7 h8, R.M1 h8] at h6; have h9 : en p m (row (es1 p m v k r S.pv.length S).X t) k = 0 := by rw [h6]; exact Jbe hp (Qe (by omega) _)
     have h10 : El p m (vo (row (es1 p m v k r S.pv.length S).X t) k) := hEt _ (Jbx (by rw [hx, Jde]; exact hkt)); rw [<- Jga h10]; show ((en p m (row (es1 p m v k r S.pv.length S).X t) k : Nat) : Int) = 0; rw [h9]; rfl
    .rw [hx]; exact Jcj (by rw [Jde]; exact hkt)
  have hpv : (es1 p m v k r S.pv.length S).pv = S.pv ++ [(k : Int)] := rfl; refine ⟨fun i hi t ht => ?_, fun t ht1 ht2 c hck => ?_, fun i hi c hci => ?_⟩
  .rw [hn] at ht; rw [hpv, List.length_append, List.length_singleton] at hi; rw [hpv, Ja1]; by_cases e : i < S.pv.length
   .rw [if_pos e, hold t ht _ (by have := hA.1 i e; omega)]; exact h.one i e t ht
   .have e2 : i = S.pv.length := by omega
    rw [if_neg e, if_pos e2, e2]; exact hnew t ht
  .rw [hn] at ht2; rw [hpv, List.length_append, List.length_singleton] at ht1; rcases Nat.lt_or_ge c k with h6 | h6
   .rw [hold t ht2 c h6]; exact h.lo t (by omega) ht2 c h6
   .rw [show c = k by omega, hnew t ht2, if_neg (by omega)]
  .rw [hpv, List.length_append, List.length_singleton] at hi; rw [hpv, Ja1] at hci; by_cases e : i < S.pv.length
   .rw [if_pos e] at hci; rw [hold i (by omega) c (by have := hA.1 i e; omega)]; exact h.lf i e c hci
   .have e2 : i = S.pv.length := by omega
    rw [if_neg e, if_pos e2] at hci; rw [hold i (by omega) c (by omega), e2]; exact h.lo _ (Nat.le_refl _) hc c (by omega)
theorem Jhh (K : Gn (p ^ m) (Jw p m (dv p v)) g) (hF : FV P M mf p m v) {n wy : Nat} {S : ES} (hS : Shp n w wy S) (he : Els p m S.X) (h0 : S.pv = []) : ∀ k, Red k (elim p m v k S)
 | 0 => ⟨fun i hi => by
   have : (elim p m v 0 S).pv = [] := h0; rw [this] at hi; exact absurd hi (Nat.not_lt_zero _), fun t _ _ c hc => absurd hc (Nat.not_lt_zero _), fun i hi => by
   have : (elim p m v 0 S).pv = [] := h0; rw [this] at hi; exact absurd hi (Nat.not_lt_zero _)⟩
 | k + 1 => by
  rw [QZ]; have hk := YG (p := p) (m := m) (v := v) hS k; exact Jot K hF (Jbh h0 k) (by have := hk.pl; have := hk.xl; omega) (Jbg (by have := hF.p2; omega) he k) (Jhh K hF hS he h0 k)
end
end Go.Proofs.Ytiboieijhehjnaa
set_option linter.unusedVariables false
set_option linter.unusedSimpArgs false
namespace Go.Proofs.Ytiboieijhehjnaa
section
variable {p m v g : Nat} {P M : Int} {mf : List Int} {X Y : List (List Int)} {C : Int} {w : Nat}
def fs (p m : Nat) (f : Nat -> Nat) : Nat -> Nat
  | 0 => 0
  | n + 1 => J2 p m (fs p m f n) (f n)
theorem Jcq (hF : FV P M mf p m v) (f : Nat -> Nat) : ∀ n, fs p m f n < p ^ m
 | 0 => by have := hF.ring.q2; show 0 < _; omega
 | n + 1 => hF.ring.Al _ _
theorem fs_cg {f h : Nat -> Nat} : ∀ n, (∀ i, i < n -> f i = h i) -> fs p m f n = fs p m h n
 | 0, _ => rfl
 | n + 1, e => by show J2 p m _ _ = J2 p m _ _; rw [fs_cg n fun i hi => e i (by omega), e n (by omega)]
theorem mix (hF : FV P M mf p m v) {a b c d : Nat} (ha : a < p ^ m) (hb : b < p ^ m) (hc : c < p ^ m) (hd : d < p ^ m) : J2 p m (J2 p m a b) (J2 p m c d) = J2 p m (J2 p m a c) (J2 p m b d) := by
 have R := hF.ring; rw [R.Aa ha hb (R.Al _ _), <- R.Aa hb hc hd, R.Ac b c, R.Aa hc hb hd, <- R.Aa ha hc (R.Al _ _)]
theorem Jj0 (hF : FV P M mf p m v) {f h : Nat -> Nat} {x : Nat} (hf : ∀ i, f i < p ^ m) (hh : ∀ i, h i < p ^ m) (hx : x < p ^ m) : ∀ n, fs p m (fun i => J2 p m (f i) (Jw p m (dv p v) x (h i))) n = J2 p m (fs p m f n) (Jw p m (dv p v) x (fs p m h n))
 | 0 => by
  have R := hF.ring; show 0 = J2 p m 0 (Jw p m (dv p v) x 0); rw [R.M0 hx, R.Az (by have := R.q2; omega)]
 | n + 1 => by
  have R := hF.ring; show J2 p m (fs p m _ n) _ = J2 p m (J2 p m _ _) (Jw p m (dv p v) x (J2 p m _ _)); rw [Jj0 hF hf hh hx n, R.Md hx (Jcq hF h n) (hh n), mix hF (Jcq hF f n) (R.Ml _ _) (hf n) (R.Ml _ _)]
theorem fs_ml (hF : FV P M mf p m v) {f : Nat -> Nat} {x : Nat} (hf : ∀ i, f i < p ^ m) (hx : x < p ^ m) : ∀ n, fs p m (fun i => Jw p m (dv p v) x (f i)) n = Jw p m (dv p v) x (fs p m f n)
 | 0 => by show 0 = Jw p m (dv p v) x 0; rw [hF.ring.M0 hx]
 | n + 1 => by
  show J2 p m (fs p m _ n) _ = Jw p m (dv p v) x (J2 p m _ _); rw [fs_ml hF hf hx n, hF.ring.Md hx (Jcq hF f n) (hf n)]
theorem Jdc (hF : FV P M mf p m v) {f : Nat -> Nat} : ∀ n, (∀ i, i < n -> f i = 0) -> fs p m f n = 0
 | 0, _ => rfl
 | n + 1, h => by
  show J2 p m (fs p m f n) (f n) = 0; rw [Jdc hF n fun i hi => h i (by omega), h n (by omega), hF.ring.Az (by have := hF.ring.q2; omega)]
theorem Jjz (hF : FV P M mf p m v) {f : Nat -> Nat} {j : Nat} (hj : f j < p ^ m) : ∀ n, j < n -> (∀ i, i < n -> i ≠ j -> f i = 0) -> fs p m f n = f j
 | 0, h, _ => absurd h (Nat.not_lt_zero _)
 | n + 1, h, e => by
  have R := hF.ring; show J2 p m (fs p m f n) (f n) = f j; by_cases en : n = j
  .subst en; rw [Jdc hF n fun i hi => e i (by omega) (by omega), R.Ac, R.Az hj]
  .rw [Jjz hF hj n (by omega) fun i hi => e i (by omega), e n (by omega) en, R.Az hj]
def cof (p m v c r : Nat) (pv : Nat -> Nat) (nR : Nat -> Nat) (a : Nat -> Nat) : Nat := J2 p m (a c) (fs p m (fun i => Jw p m (dv p v) (nR i) (a (pv i))) r)
theorem Jr0 (hF : FV P M mf p m v) {c r : Nat} {pv nR : Nat -> Nat} (hc : c < w) (hpv : ∀ i, i < r -> pv i < w) (hn : ∀ i, nR i < p ^ m) : Lin p m v w (cof p m v c r pv nR) where
 lt a := hF.ring.Al _ _
 cg h := by
  unfold cof; rw [h c hc, fs_cg r fun i hi => by rw [h _ (hpv i hi)]]
 ad {a b x} ha hb hx := by
  have R := hF.ring; unfold cof; have e : (fun i => Jw p m (dv p v) (nR i) (J2 p m (a (pv i)) (Jw p m (dv p v) x (b (pv i))))) = fun i => J2 p m (Jw p m (dv p v) (nR i) (a (pv i))) (Jw p m (dv p v) x (Jw p m (dv p v) (nR i) (b (pv i)))) := funext fun i => by
   rw [R.Md (hn i) (ha _) (R.Ml _ _), <- R.Ma (hn i) hx (hb _), R.Mc (hn i) hx, R.Ma hx (hn i) (hb _)]
  rw [e, Jj0 hF (fun i => R.Ml _ _) (fun i => R.Ml _ _) hx, mix hF (ha c) (R.Ml _ _) (Jcq hF _ _) (R.Ml _ _), <- R.Md hx (hb c) (Jcq hF _ _)]
 ml {a x} ha hx := by
  have R := hF.ring; unfold cof; have e : (fun i => Jw p m (dv p v) (nR i) (Jw p m (dv p v) x (a (pv i)))) = fun i => Jw p m (dv p v) x (Jw p m (dv p v) (nR i) (a (pv i))) := funext fun i => by
   rw [<- R.Ma (hn i) hx (ha _), R.Mc (hn i) hx, R.Ma hx (hn i) (ha _)]
  rw [e, fs_ml hF (fun i => R.Ml _ _) hx, <- R.Md hx (ha c) (Jcq hF _ _)]
theorem Jjy (hF : FV P M mf p m v) : ∃ g, Gn (p ^ m) (Jw p m (dv p v)) g := hF.gen
end
end Go.Proofs.Ytiboieijhehjnaa
set_option linter.unusedVariables false
set_option linter.unusedSimpArgs false
namespace Go.Proofs.Ytiboieijhehjnaa
section
variable {p m v g : Nat} {P M : Int} {mf : List Int} {X Y : List (List Int)} {C : Int} {w : Nat}
theorem Jbf (hF : FV P M mf p m v) {l : List Int} {c : Nat} {z : Nat} (hz : z < p ^ m) (h : vo l c = (z : Int)) : en p m l c = z := by unfold en; rw [h]; exact Q7 hz
theorem Jgk (hF : FV P M mf p m v) (hs : shp C X) (he : Els p m X) : Red C.toNat (ec p m v C X) := by
 obtain ⟨g, G⟩ := Jjy hF; exact Jhh G hF (ZY hs) he rfl _
theorem Jij (hF : FV P M mf p m v) (he : Els p m X) : Els p m (Qj p m v C X) := fun r hr => Jbg (S := ⟨X, List.replicate X.length [], [], 1⟩) (by have := hF.p2; omega) he C.toNat r (List.mem_of_mem_take hr)
theorem Jea (hF : FV P M mf p m v) (hs : shp C X) (he : Els p m X) {i t : Nat} (hi : i < (J5 p m v C X).length) (ht : t < (J5 p m v C X).length) : vo (row (Qj p m v C X) t) (vo (J5 p m v C X) i).toNat = if t = i then 1 else 0 := by
 have hS := Jaq (p := p) (m := m) (v := v) hs; have := Jed (p := p) (m := m) (v := v) hs; rw [show row (Qj p m v C X) t = row (ec p m v C X).X t from ZG ht]; exact (Jgk hF hs he).one i hi t (by have := hS.xl; omega)
theorem Jih (hF : FV P M mf p m v) (hs : shp C X) (he : Els p m X) {i c : Nat} (hi : i < (J5 p m v C X).length) (hc : (c : Int) < vo (J5 p m v C X) i) : vo (row (Qj p m v C X) i) c = 0 := by
 rw [show row (Qj p m v C X) i = row (ec p m v C X).X i from ZG hi]; exact (Jgk hF hs he).lf i hi c hc
end
end Go.Proofs.Ytiboieijhehjnaa
set_option linter.unusedVariables false
set_option linter.unusedSimpArgs false
namespace Go.Proofs.Ytiboieijhehjnaa
end Go.Proofs.Ytiboieijhehjnaa
set_option linter.unusedVariables false
set_option linter.unusedSimpArgs false
namespace Go.Proofs.Ytiboieijhehjnaa
section
variable {p m v : Nat} {P M : Int} {mf : List Int} {X Y : List (List Int)} {C : Int} {w : Nat}
theorem Jil {f : (Nat -> Nat) -> Nat} {r cur : Nat} (hr : r < X.length) (hc : cur < X.length) (h : Ann p m f X) : Ann p m f (swq X r cur) := fun t ht => by
  rw [JW] at ht
  rw [Zh hr hc]
  split
  . exact h r hr
  . split
    . exact h cur hc
    . exact h t ht
theorem Jp3 {f : (Nat -> Nat) -> Nat} (L : Lin p m v w f) (hF : FV P M mf p m v) {cur : Nat} {e : Int} (hc : cur < X.length) (hw : (row X cur).length = w) (h : Ann p m f X) : Ann p m f (scq p m v X cur e) := fun t ht => by
 rw [Qt] at ht; rw [Jfs hc]; split
 .rw [L.sc hF hw, h cur hc, hF.ring.M0 (Qe (by have := hF.ring.q2; omega) _)]
 .exact h t ht
theorem Jp4 {f : (Nat -> Nat) -> Nat} (L : Lin p m v w f) (hF : FV P M mf p m v) {cur : Nat} {g : Nat -> Int} (hc : cur < X.length) (hw : ∀ t, t < X.length -> (row X t).length = w) (h : Ann p m f X) : Ann p m f (clr p m v g cur X) := fun t ht => by
 have R := hF.ring; have hq : 0 < p ^ m := by have := R.q2; omega
 rw [Zr] at ht; rw [Zj ht]; split
 .exact h t ht
 .rw [L.adx hF (hw t ht), h cur hc, h t ht, R.M0 (Qe hq _), R.Az hq]
theorem Jne (hF : FV P M mf p m v) {f : (Nat -> Nat) -> Nat} (L : Lin p m v w f) {S : ES} {c : Nat} (hw : ∀ t, t < S.X.length -> (row S.X t).length = w) (h : Ann p m f S.X) : Ann p m f (Yq p m v S c).X := by
 unfold Yq; split
 .rename_i h1
  obtain ⟨hc, hr⟩ := h1; rw [Jcs]; have hw1 : ∀ t, t < (swq S.X (nz S.X c S.pv.length) S.pv.length).length -> (row (swq S.X (nz S.X c S.pv.length) S.pv.length) t).length = w := fun t ht => by
   rw [JW] at ht; exact QX hr hc hw ht
  exact Jp4 L hF (by rw [Qt, JW]; exact hc) (fun t ht => by rw [Qt] at ht; exact QY (by rw [JW]; exact hc) hw1 ht) (Jp3 L hF (by rw [JW]; exact hc) (hw1 _ (by rw [JW]; exact hc)) (Jil hr hc h))
 .exact h
theorem Jff (hF : FV P M mf p m v) {f : (Nat -> Nat) -> Nat} (L : Lin p m v w f) {n wy : Nat} {S : ES} (hS : Shp n w wy S) (h : Ann p m f S.X) : ∀ k, Ann p m f (elim p m v k S).X
 | 0 => h
 | k + 1 => by
  rw [QZ]; have hk := YG (p := p) (m := m) (v := v) hS k; exact Jne hF L (fun t ht => hk.xr t (by have := hk.xl; omega)) (Jff hF L hS h k)
theorem Jdd (hF : FV P M mf p m v) (hs : shp C X) (he : Els p m X) {f : (Nat -> Nat) -> Nat} (L : Lin p m v C.toNat f) : Ann p m f (Qj p m v C X) ↔ Ann p m f X := by
  have R := hF.ring
  have hq : 0 < p ^ m := by have := R.q2; omega
  obtain ⟨g, G⟩ := Jjy hF
  have hS := Jaq (p := p) (m := m) (v := v) hs
  have red := Jgk hF hs he
  have hl := Yt (p := p) (m := m) (v := v) hs
  have hpl := Jed (p := p) (m := m) (v := v) hs
  have f0 : ∀ a : Nat -> Nat, (∀ c, c < C.toNat -> a c = 0) -> f a = 0 := fun a ha => by
    have h1 := L.ml (a := fun _ => 0) (x := 0) (fun _ => hq) hq
    rw [R.Mc hq (L.lt _), R.M0 (L.lt _)] at h1
    rw [<- h1]
    exact L.cg fun c hc => by rw [ha c hc, R.M0 hq]
  refine ⟨fun h => Jim G hF L (ZY hs) he C.toNat fun t ht => ?_, fun h t ht => ?_⟩
  . by_cases hr : t < (J5 p m v C X).length
    . have := h t (by omega)
      rwa [show row (Qj p m v C X) t = row (ec p m v C X).X t from ZG hr] at this
    . exact f0 _ fun c hc => Jbf hF hq (red.lo t (by show (J5 p m v C X).length <= t; omega) ht c hc)
  . rw [show row (Qj p m v C X) t = row (ec p m v C X).X t from ZG (by show t < (J5 p m v C X).length; omega)]
    exact Jff hF L (ZY hs) h C.toNat t (by have := hS.xl; show t < (ec p m v C X).X.length; omega)
end
end Go.Proofs.Ytiboieijhehjnaa
set_option linter.unusedVariables false
set_option linter.unusedSimpArgs false
namespace Go.Proofs.Ytiboieijhehjnaa
section
variable {p m v : Nat} {P M : Int} {mf : List Int} {X Y : List (List Int)} {C : Int} {w : Nat}
end
end Go.Proofs.Ytiboieijhehjnaa
set_option linter.unusedVariables false
set_option linter.unusedSimpArgs false
namespace Go.Proofs.Ytiboieijhehjnaa
section
variable {p m v : Nat} {P M : Int} {mf : List Int} {X Y : List (List Int)} {C : Int} {w : Nat}
end
end Go.Proofs.Ytiboieijhehjnaa
set_option linter.unusedVariables false
set_option linter.unusedSimpArgs false
namespace Go.Proofs.Ytiboieijhehjnaa
section
variable {p m v : Nat} {P M : Int} {mf : List Int} {X Y : List (List Int)} {C : Int} {w : Nat}
end
end Go.Proofs.Ytiboieijhehjnaa
set_option linter.unusedVariables false
set_option linter.unusedSimpArgs false
namespace Go.Proofs.Ytiboieijhehjnaa
section
variable {p m v : Nat} {P M : Int} {mf : List Int} {X Y : List (List Int)} {C : Int} {w wy : Nat}
def e2 (p m w : Nat) (a b : List Int) : Nat -> Nat := fun c => if c < w then en p m a c else en p m b (c - w)
end
end Go.Proofs.Ytiboieijhehjnaa
set_option linter.unusedVariables false
set_option linter.unusedSimpArgs false
namespace Go.Proofs.Ytiboieijhehjnaa
section
variable {p m v : Nat} {P M : Int} {mf : List Int} {X Y : List (List Int)} {C : Int} {w wy : Nat}
def u1 (p m w : Nat) (u : Nat -> Nat) : Nat -> Nat := fun c => if c < w then u c else Zp p m 1
end
end Go.Proofs.Ytiboieijhehjnaa
set_option linter.unusedVariables false
set_option linter.unusedSimpArgs false
namespace Go.Proofs.Ytiboieijhehjnaa
end Go.Proofs.Ytiboieijhehjnaa
set_option linter.unusedVariables false
set_option linter.unusedSimpArgs false
namespace Go.Proofs.Ytiboieijhehjnaa
section
variable {p m v : Nat} {P M : Int} {mf : List Int} {X Y : List (List Int)} {C D : Int} {w wy : Nat}
theorem Jo8 (hF : FV P M mf p m v) {f : (Nat -> Nat) -> Nat} (L : Lin p m v w f) {a : Nat -> Nat} (ha : ∀ c, c < w -> a c = 0) : f a = 0 := by
  have hq : 0 < p ^ m := by have := hF.ring.q2; omega
  have h := L.ml (a := fun _ => 0) (x := 0) (fun _ => hq) hq
  have e : f (fun _ => Jw p m (dv p v) 0 0) = f a := L.cg fun c hc => by rw [ha c hc, hF.ring.M0 hq]
  rw [<- e, h, hF.ring.Mc hq (L.lt _), hF.ring.M0 (L.lt _)]
def mm (p m v w : Nat) (A B : List (List Int)) : List (List Int) := (List.range A.length).map fun t => cmb p m v (row A t) w B B.length
theorem Jrm {A B : List (List Int)} (hl : A.length = B.length) (ha : Els p m A) (hb : Els p m B) (hw : ∀ t, t < A.length -> (row A t).length = w /\ (row B t).length = w) (h : ∀ t c, t < A.length -> c < w -> en p m (row A t) c = en p m (row B t) c) : A = B :=
  YN hl fun t ht => YU (by rw [(hw t ht).1, (hw t ht).2]) fun c hc => by
    rw [(hw t ht).1] at hc
    have e := h t c ht hc
    have e1 := Jga (Jj3 (Qu ha t) (t := c) (by rw [(hw t ht).1]; exact hc))
    have e2 := Jga (Jj3 (Qu hb t) (t := c) (by rw [(hw t ht).2]; exact hc))
    unfold en at e
    rw [<- e1, <- e2, e]
end
end Go.Proofs.Ytiboieijhehjnaa
set_option linter.unusedVariables false
set_option linter.unusedSimpArgs false
namespace Go.Proofs.Ytiboieijhehjnaa
section
variable {P M : Int} {mf : List Int} {X : List (List Int)} {C : Int}
end
end Go.Proofs.Ytiboieijhehjnaa
set_option linter.unusedVariables false
set_option linter.unusedSimpArgs false
namespace Go.Proofs.Ytiboieijhehjnaa
section
variable {p m v : Nat} {P M : Int} {mf : List Int} {X Y : List (List Int)} {C D : Int} {w wy : Nat}
theorem Jp1 {n k : Nat} {a b : List Int} (ha : Asc n a) (hb : Asc n b) (h1 : ∀ i, i < a.length -> ∃ j, j < b.length /\ vo b j = vo a i) (h2 : ∀ j, j < b.length -> ∃ i, i < a.length /\ vo a i = vo b j) : ∀ k, k < a.length -> k < b.length /\ vo a k = vo b k := by
  intro k
  induction k using Nat.strongRecOn with
  | ind k ih =>
    intro hk
    obtain ⟨j, hj, e⟩ := h1 k hk
    have hjk : k <= j := by
      rcases Nat.lt_or_ge j k with h | h
      . have h3 := (ih j h (by omega)).2
        have h4 := ha.2 j k h hk
        omega
      . exact h
    have hkb : k < b.length := by omega
    refine ⟨hkb, ?_⟩
    obtain ⟨i, hi, e2⟩ := h2 k hkb
    rcases Nat.lt_trichotomy i k with h | h | h
    . have h3 := (ih i h hi).2
      have h4 := hb.2 i k h hkb
      omega
    . rw [<- e2, h]
    . have h3 := ha.2 k i h hi
      rcases Nat.lt_or_ge k j with h5 | h5
      . have := hb.2 k j h5 hj; omega
      . rw [show k = j by omega] at e2 ⊢; omega
theorem Jp0 {n : Nat} {a b : List Int} (ha : Asc n a) (hb : Asc n b) (h1 : ∀ i, i < a.length -> ∃ j, j < b.length /\ vo b j = vo a i) (h2 : ∀ j, j < b.length -> ∃ i, i < a.length /\ vo a i = vo b j) : a = b := by
 have k1 := Jp1 (k := 0) ha hb h1 h2; have k2 := Jp1 (k := 0) hb ha h2 h1; refine YU ?_ fun i hi => (k1 i hi).2; rcases Nat.lt_trichotomy a.length b.length with h | h | h
 .have := (k2 a.length h).1; omega
 .exact h
 .have := (k1 b.length h).1; omega
theorem Jlq (hF : FV P M mf p m v) (hs : shp C X) (he : Els p m X) {a : Nat -> Nat} (ha : ∀ c, a c < p ^ m) (hA : ∀ f, Lin p m v C.toNat f -> Ann p m f (Qj p m v C X) -> f a = 0) {c : Nat} (hc : c < C.toNat) :
    a c = fs p m (fun i => Jw p m (dv p v) (a (vo (J5 p m v C X) i).toNat) (en p m (row (Qj p m v C X) i) c)) (J5 p m v C X).length := by
  have R := hF.ring
  have q1 : 1 < p ^ m := R.q2
  have hp : 0 < p := by have := hF.p2; omega
  have hasc := Y5 (p := p) (m := m) (v := v) C X
  have hcl := Yt (p := p) (m := m) (v := v) hs
  have hneg : ∀ y, y < p ^ m -> Zp p m y < p ^ m := fun y _ => Jgd hp y
  have L := Jr0 (w := C.toNat) hF (c := c) (r := (J5 p m v C X).length) (pv := fun i => (vo (J5 p m v C X) i).toNat) (nR := fun i => Zp p m (en p m (row (Qj p m v C X) i) c)) hc (fun i hi => by have := hasc.1 i hi; show (vo (J5 p m v C X) i).toNat < _; omega) (fun i => hneg _ (Yr hF _ _))
  have hann := hA _ L (fun s hsl => by
    show cof _ _ _ _ _ _ _ (en p m (row (Qj p m v C X) s)) = 0
    unfold cof
    have hsr : s < (J5 p m v C X).length := by omega
    have hd : ∀ i, i < (J5 p m v C X).length -> en p m (row (Qj p m v C X) s) (vo (J5 p m v C X) i).toNat = if s = i then 1 else 0 := fun i hi => by
      have := Jea hF hs he hi hsr
      by_cases e : s = i
      . rw [if_pos e] at this ⊢; exact Jbf hF q1 this
      . rw [if_neg e] at this ⊢; exact Jbf hF (by omega) this
    have h9 := Jjz hF (f := fun i => Jw p m (dv p v) (Zp p m (en p m (row (Qj p m v C X) i) c)) (en p m (row (Qj p m v C X) s) (vo (J5 p m v C X) i).toNat)) (j := s) (R.Ml _ _) _ hsr fun i hi hne => by
      show Jw p m (dv p v) _ _ = 0
      rw [hd i hi, if_neg (fun e => hne e.symm), R.M0 (hneg _ (Yr hF _ _))]
    show J2 p m _ (fs p m (fun i => Jw p m (dv p v) (Zp p m (en p m (row (Qj p m v C X) i) c)) (en p m (row (Qj p m v C X) s) (vo (J5 p m v C X) i).toNat)) (J5 p m v C X).length) = 0
    rw [h9]
    show J2 p m _ (Jw p m (dv p v) _ _) = 0
    rw [hd s hsr, if_pos rfl, R.M1 (hneg _ (Yr hF _ _))]
    exact Jbe hp (Yr hF _ _))
  unfold cof at hann
  have hG := Jcq hF (fun i => Jw p m (dv p v) (a (vo (J5 p m v C X) i).toNat) (en p m (row (Qj p m v C X) i) c)) (J5 p m v C X).length
  have hN := Jcq hF (fun i => Jw p m (dv p v) (Zp p m (en p m (row (Qj p m v C X) i) c)) (a (vo (J5 p m v C X) i).toNat)) (J5 p m v C X).length
  have hGN : J2 p m (fs p m (fun i => Jw p m (dv p v) (a (vo (J5 p m v C X) i).toNat) (en p m (row (Qj p m v C X) i) c)) (J5 p m v C X).length) (fs p m (fun i => Jw p m (dv p v) (Zp p m (en p m (row (Qj p m v C X) i) c)) (a (vo (J5 p m v C X) i).toNat)) (J5 p m v C X).length) = 0 := by
    have h1 := Jj0 hF (f := fun i => Jw p m (dv p v) (a (vo (J5 p m v C X) i).toNat) (en p m (row (Qj p m v C X) i) c)) (h := fun i => Jw p m (dv p v) (Zp p m (en p m (row (Qj p m v C X) i) c)) (a (vo (J5 p m v C X) i).toNat)) (x := 1) (fun i => R.Ml _ _) (fun i => R.Ml _ _) q1 (J5 p m v C X).length
    rw [R.Mc q1 hN, R.M1 hN] at h1
    rw [<- h1]
    refine Jdc hF _ fun i hi => ?_
    show J2 p m (Jw p m (dv p v) _ _) (Jw p m (dv p v) 1 (Jw p m (dv p v) _ _)) = 0
    have ha' := ha (vo (J5 p m v C X) i).toNat
    have hb := Yr hF (row (Qj p m v C X) i) c
    rw [R.Mc q1 (R.Ml _ _), R.M1 (R.Ml _ _), R.Mc (hneg _ hb) ha', <- R.Md ha' hb (hneg _ hb), Jbe hp hb, R.M0 ha']
  have hx := ha c
  generalize fs p m (fun i => Jw p m (dv p v) (a (vo (J5 p m v C X) i).toNat) (en p m (row (Qj p m v C X) i) c)) (J5 p m v C X).length = G1 at *
  generalize fs p m (fun i => Jw p m (dv p v) (Zp p m (en p m (row (Qj p m v C X) i) c)) (a (vo (J5 p m v C X) i).toNat)) (J5 p m v C X).length = N1 at *
  generalize a c = b at *
  calc b = J2 p m b (J2 p m G1 N1) := by rw [hGN, R.Az hx]
    _ = J2 p m G1 (J2 p m b N1) := by rw [<- R.Aa hx hG hN, R.Ac b G1, R.Aa hG hx hN]
    _ = G1 := by rw [hann, R.Az hG]
theorem Jow (hF : FV P M mf p m v) (hX : shp C X) (eX : Els p m X) (hY : shp C Y) (eY : Els p m Y) (h : ∀ f, Lin p m v C.toNat f -> Ann p m f Y -> Ann p m f X) : ∀ t, t < (J5 p m v C X).length -> ∃ j, j < (J5 p m v C Y).length /\ vo (J5 p m v C Y) j = vo (J5 p m v C X) t := by
  intro t ht
  have R := hF.ring
  have q1 : 1 < p ^ m := R.q2
  have hq : 0 < p ^ m := by omega
  have pX := Y5 (p := p) (m := m) (v := v) C X
  have pY := Y5 (p := p) (m := m) (v := v) C Y
  have lX := Yt (p := p) (m := m) (v := v) hX
  have hk := fun f (L : Lin p m v C.toNat f) (h1 : Ann p m f (Qj p m v C Y)) => (Jdd hF hX eX L).2 (h f L ((Jdd hF hY eY L).1 h1)) t (by omega)
  have ht' := pX.1 t ht
  have hc := Jlq hF hY eY (a := en p m (row (Qj p m v C X) t)) (fun c => Yr hF _ c) hk (c := (vo (J5 p m v C X) t).toNat) (by omega)
  have hu := Jea hF hX eX (i := t) (t := t) ht ht
  rw [if_pos rfl] at hu
  rw [Jbf hF (z := 1) q1 hu] at hc
  refine Classical.byContradiction fun hno => ?_
  rw [Jdc hF _ fun i hi => ?_] at hc
  . omega
  show Jw p m (dv p v) (en p m (row (Qj p m v C X) t) (vo (J5 p m v C Y) i).toNat) (en p m (row (Qj p m v C Y) i) (vo (J5 p m v C X) t).toNat) = 0
  have hi' := pY.1 i hi
  rcases Int.lt_trichotomy (vo (J5 p m v C Y) i) (vo (J5 p m v C X) t) with h1 | h1 | h1
  . rw [Jbf hF (z := 0) hq (Jih hF hX eX ht (c := (vo (J5 p m v C Y) i).toNat) (by omega)), R.Mc hq (Yr hF _ _), R.M0 (Yr hF _ _)]
  . exact absurd ⟨i, hi, h1⟩ hno
  . rw [Jbf hF (z := 0) hq (Jih hF hY eY hi (c := (vo (J5 p m v C X) t).toNat) (by omega)), R.M0 (Yr hF _ _)]
theorem Jeb (hF : FV P M mf p m v) (hX : shp C X) (eX : Els p m X) (hY : shp C Y) (eY : Els p m Y) (h : ∀ f, Lin p m v C.toNat f -> (Ann p m f X ↔ Ann p m f Y)) : J5 p m v C X = J5 p m v C Y /\ Qj p m v C X = Qj p m v C Y := by
 have R := hF.ring; have q1 : 1 < p ^ m := R.q2; have hq : 0 < p ^ m := by omega
 have pX := Y5 (p := p) (m := m) (v := v) C X; have pY := Y5 (p := p) (m := m) (v := v) C Y; have lX := Yt (p := p) (m := m) (v := v) hX; have lY := Yt (p := p) (m := m) (v := v) hY; have sX := Jec (p := p) (m := m) (v := v) hX; have sY := Jec (p := p) (m := m) (v := v) hY; have e : J5 p m v C X = J5 p m v C Y := Jp0 pX pY (Jow hF hX eX hY eY fun f L => (h f L).2) (Jow hF hY eY hX eX fun f L => (h f L).1); refine ⟨e, Jrm (w := C.toNat) (by rw [lX, lY, e]) (Jij hF eX) (Jij hF eY) (fun t ht => ⟨Q3 sX ht, Q3 sY (by rw [lY, <- e, <- lX]; exact ht)⟩) fun t c ht hc => ?_⟩; have ht' : t < (J5 p m v C Y).length := by rw [<- e, <- lX]; exact ht
 have hk := fun f (L : Lin p m v C.toNat f) (h1 : Ann p m f (Qj p m v C Y)) => (Jdd hF hX eX L).2 ((h f L).2 ((Jdd hF hY eY L).1 h1)) t ht; have hc' := Jlq hF hY eY (a := en p m (row (Qj p m v C X) t)) (fun c => Yr hF _ c) hk (c := c) hc; rw [hc']; have hd : ∀ i, i < (J5 p m v C Y).length -> en p m (row (Qj p m v C X) t) (vo (J5 p m v C Y) i).toNat = if t = i then 1 else 0 := fun i hi => by
  have := Jea hF hX eX (i := i) (t := t) (by rw [e]; exact hi) (by rw [e]; exact ht'); rw [e] at this; by_cases e' : t = i
  .rw [if_pos e'] at this ⊢; exact Jbf hF q1 this
  .rw [if_neg e'] at this ⊢; exact Jbf hF hq this
 rw [Jjz hF (f := fun i => Jw p m (dv p v) (en p m (row (Qj p m v C X) t) (vo (J5 p m v C Y) i).toNat) (en p m (row (Qj p m v C Y) i) c)) (j := t) (R.Ml _ _) _ ht' fun i hi hne => by
  show Jw p m (dv p v) _ _ = 0; rw [hd i hi, if_neg (fun q => hne q.symm), R.Mc hq (Yr hF _ _), R.M0 (Yr hF _ _)]]
 show Jw p m (dv p v) _ _ = _; rw [hd t ht', if_pos rfl, R.Mc q1 (Yr hF _ _), R.M1 (Yr hF _ _)]
end
end Go.Proofs.Ytiboieijhehjnaa
set_option linter.unusedVariables false
set_option linter.unusedSimpArgs false
namespace Go.Proofs.Ytiboieijhehjnaa
section
variable {p m v : Nat} {P M : Int} {mf : List Int} {X Y : List (List Int)} {C D : Int} {w wy : Nat}
theorem Jc7 (hs : shp C X) {i : Nat} {l : List Int} (hl : l.length = C.toNat) : shp C (X.set i l) := by
 refine ⟨hs.1, hs.2.1, by rw [List.length_set]; exact hs.2.2.1, fun r hr => ?_⟩; rcases List.mem_or_eq_of_mem_set hr with h | h
 .exact hs.2.2.2 r h
 .rw [h, hl]; have := hs.1; omega
theorem Jc8 (he : Els p m X) {i : Nat} {l : List Int} (hl : Elr p m l) : Els p m (X.set i l) := fun r hr => by
 rcases List.mem_or_eq_of_mem_set hr with h | h
 .exact he r h
 .rw [h]; exact hl
theorem Jlu {a o : List Int} {x : Int} (h : x ≠ 0) : adm p m v a x o = adx p m v a x o := by unfold adx; rw [if_neg h]
theorem Jr6 (hF : FV P M mf p m v) {f : (Nat -> Nat) -> Nat} (L : Lin p m v w f) {i j : Nat} {x : Int} (hx : x ≠ 0) (hi : i < X.length) (hj : j < X.length) (hne : i ≠ j) (hw : (row X i).length = w) : Ann p m f (X.set i (adm p m v (row X i) x (row X j))) ↔ Ann p m f X := by
  have R := hF.ring
  have hq : 0 < p ^ m := by have := R.q2; omega
  have hr : ∀ t, t < X.length -> row (X.set i (adm p m v (row X i) x (row X j))) t = if i = t then adx p m v (row X i) x (row X j) else row X t := fun t ht => by
    rw [QM, Jlu hx]
    by_cases e : i = t
    . rw [if_pos ⟨e, hi⟩, if_pos e]
    . rw [if_neg (fun q => e q.1), if_neg e]
  constructor
  . intro h t ht
    have h' := fun s (hs : s < X.length) => h s (by rw [List.length_set]; exact hs)
    have hJ := h' j hj
    rw [hr j hj, if_neg hne] at hJ
    by_cases e : i = t
    . have h1 := h' i hi
      rw [hr i hi, if_pos rfl, L.adx hF hw, hJ, R.M0 (Qe hq _), R.Az (L.lt _)] at h1
      rw [<- e]; exact h1
    . have h1 := h' t ht
      rwa [hr t ht, if_neg e] at h1
  . intro h t ht
    rw [List.length_set] at ht
    rw [hr t ht]
    split
    . rw [L.adx hF hw, h j hj, h i hi, R.M0 (Qe hq _), R.Az hq]
    . exact h t ht
theorem Jr4 (hF : FV P M mf p m v) {f : (Nat -> Nat) -> Nat} (L : Lin p m v w f) {j : Nat} {x : Int} (hx : x ≠ 0) (hel : El p m x) (hj : j < X.length) : Ann p m f (X.set j (adm p m v (List.replicate w 0) x (row X j))) ↔ Ann p m f X := by
  have R := hF.ring
  have q1 : 1 < p ^ m := R.q2
  have hq : 0 < p ^ m := by omega
  obtain ⟨g, G⟩ := Jjy hF
  obtain ⟨hx1, hx2⟩ := Jo9 G hF hx hel
  have hi2 := Qe (q := p ^ m) hq (Iv p m v x)
  have hz : f (en p m (List.replicate w 0)) = 0 := Jo8 hF L fun c _ => Jbf hF (z := 0) hq (Jfm w c)
  have hr : ∀ t, t < X.length -> row (X.set j (adm p m v (List.replicate w 0) x (row X j))) t = if j = t then adx p m v (List.replicate w 0) x (row X j) else row X t := fun t ht => by
    rw [QM, Jlu hx]
    by_cases e : j = t
    . rw [if_pos ⟨e, hj⟩, if_pos e]
    . rw [if_neg (fun q => e q.1), if_neg e]
  have hf : f (en p m (adx p m v (List.replicate w 0) x (row X j))) = Jw p m (dv p v) (inE (p ^ m) x) (f (en p m (row X j))) := by
    rw [L.adx hF (List.length_replicate ..), hz, R.Ac, R.Az (R.Ml _ _)]
  constructor
  . intro h t ht
    have h' := fun s (hs : s < X.length) => h s (by rw [List.length_set]; exact hs)
    by_cases e : j = t
    . have h1 := h' j hj
      rw [hr j hj, if_pos rfl, hf] at h1
      have h8 := R.Ma hi2 hx1 (L.lt (en p m (row X j)))
      rw [R.Mc hi2 hx1, hx2, h1, R.M0 hi2, R.Mc q1 (L.lt _), R.M1 (L.lt _)] at h8
      rw [<- e]; exact h8
    . have h1 := h' t ht
      rwa [hr t ht, if_neg e] at h1
  . intro h t ht
    rw [List.length_set] at ht
    rw [hr t ht]
    split
    . rw [hf, h j hj, R.M0 hx1]
    . exact h t ht
end
theorem Jb8 (P M : Int) (mf : List Int) (C : Int) (X : List (List Int)) {a b c : Int} (ha : 0 <= a /\ a <= 255) (hb : 0 <= b /\ b <= 255) (hc : 0 <= c /\ c <= 255) : Jcf P M mf C X a b c (fun r => r = true) := by
 refine Jks ⟨fun h => absurd h (by decide), fun _ => w_rFew ⟨by omega, by omega⟩ (fun h1 h2 h3 => ⟨fun h => absurd h (by decide), fun _ => ?_⟩) ⟨fun _ => Jks rfl, fun h => absurd h (by decide)⟩⟩; refine QW (fun h0 => Jes ⟨fun _ => rfl, fun h => absurd h0 h⟩) fun p m v hF hs he hk => Jes ⟨fun h => absurd hk h, fun _ => ⟨fun _ => rfl, fun hlen => ⟨fun h => absurd rfl h, fun _ => ⟨fun _ => rfl, fun hC => ?_⟩⟩⟩⟩; obtain ⟨l1, l2, l3⟩ := Zg hs; have hq : 1 < p ^ m := hF.ring.q2; have hq2 := hF.q; have hI : ∃ i : Nat, i < X.length /\ a.tmod ((X.length : Nat) : Int) = (i : Int) := ⟨(a.tmod ((X.length : Nat) : Int)).toNat, by
  have h4 := Int.tmod_nonneg ((X.length : Nat) : Int) ha.1; have h5 := Int.tmod_lt_of_pos a (show (0 : Int) < ((X.length : Nat) : Int) by omega); omega, by
  have h4 := Int.tmod_nonneg ((X.length : Nat) : Int) ha.1; omega⟩
 obtain ⟨i, hi, hI⟩ := hI; have hK : ∃ k : Nat, k + 1 < X.length /\ b.tmod (((X.length : Nat) : Int) - (1 : Int)) = (k : Int) := ⟨(b.tmod (((X.length : Nat) : Int) - (1 : Int))).toNat, by
  have h4 := Int.tmod_nonneg (((X.length : Nat) : Int) - (1 : Int)) hb.1; have h5 := Int.tmod_lt_of_pos b (show (0 : Int) < (((X.length : Nat) : Int) - (1 : Int)) by omega); omega, by
  have h4 := Int.tmod_nonneg (((X.length : Nat) : Int) - (1 : Int)) hb.1; omega⟩
 obtain ⟨k, hk1, hK⟩ := hK; rw [hI, hK]; have hJ : ∃ j : Nat, j < X.length /\ j ≠ i /\ (((i : Int) + 1) + (k : Int)).tmod ((X.length : Nat) : Int) = (j : Int) := by
  rcases Nat.lt_or_ge (i + 1 + k) X.length with h | h
  .refine ⟨i + 1 + k, h, by omega, ?_⟩; rw [Int.tmod_eq_of_lt (by omega) (by omega)]; push_cast; rfl
  .refine ⟨i + 1 + k - X.length, by omega, by omega, ?_⟩; have e : ((i : Int) + 1) + (k : Int) = ((i + 1 + k - X.length : Nat) : Int) + ((X.length : Nat) : Int) := by omega
   rw [e, Int.tmod_eq_emod_of_nonneg (by omega), Int.add_emod_right, Int.emod_eq_of_lt (by omega) (by omega)]
 obtain ⟨j, hj, hji, hJ⟩ := hJ; rw [hJ]; have hA : ∃ z : Nat, 1 <= z /\ z < p ^ m /\ (1 : Int) + c.tmod (((p ^ m : Nat) : Int) - (1 : Int)) = (z : Int) := ⟨((1 : Int) + c.tmod (((p ^ m : Nat) : Int) - (1 : Int))).toNat, by
  have h4 := Int.tmod_nonneg (((p ^ m : Nat) : Int) - (1 : Int)) hc.1; omega, by
  have h4 := Int.tmod_nonneg (((p ^ m : Nat) : Int) - (1 : Int)) hc.1; have h5 := Int.tmod_lt_of_pos c (show (0 : Int) < (((p ^ m : Nat) : Int) - (1 : Int)) by omega); omega, by
  have h4 := Int.tmod_nonneg (((p ^ m : Nat) : Int) - (1 : Int)) hc.1; omega⟩
 obtain ⟨z, hz1, hz2, hA⟩ := hA; have ok : ∀ {Z : List (List Int)}, shp C Z -> Els p m Z -> mck P M mf C Z = 0 := fun s e => Jd1 ⟨p, m, v, hF⟩ s ((YF hF).2 e); have hp : 0 < p := by have := hF.p2; omega
 refine ⟨Jv (by omega) (by omega), by omega, Jv (by omega) (by omega), Jv (by omega) (by omega), Jv (by omega) (by omega), by omega, Jv (by omega) (by omega), by omega, Jv (by omega) (by omega), Jdw P M, Jdn rfl, ?_⟩; rw [hF.ord, hA]; refine ⟨Jv (by omega) (by omega), by omega, Jv (by omega) (by omega), Jqy (by omega) (Yo hs) ⟨True, ⟨⟨by omega, by omega⟩, ⟨by omega, by omega⟩, ⟨by omega, by omega⟩, ⟨by omega, by omega⟩, trivial⟩, fun _ => ?_⟩⟩; have d1 : sll (sll X (i : Int) (gl X (j : Int))) (j : Int) (gl X (i : Int)) = swp X i j := rfl; rw [d1]; have s1 : shp C (swp X i j) := Jc7 (Jc7 hs (Q3 hs hj)) (Q3 hs hi); have e1 : Els p m (swp X i j) := Jc8 (Jc8 he (Qu he j)) (Qu he i); have n1 : (swp X i j).length = X.length := Jk1 X i j; have a1 : ∀ f, Lin p m v C.toNat f -> (Ann p m f (swp X i j) ↔ Ann p m f X) := fun f L => by
  have e : swq X i j = swp X i j := by unfold swq; rw [if_neg (fun h => hji h.symm)]
  rw [<- e]; exact ⟨Jlt hi hj, Jil hi hj⟩
 obtain ⟨u1, u2⟩ := Jeb hF s1 e1 hs he a1; generalize swp X i j = X1 at *
 refine QW (fun h0 => absurd (ok s1 e1) h0) fun p' m' v' hF' _ _ _ => ?_; obtain ⟨rfl, rfl, rfl⟩ := hF.uniq3 hF'; have hz0 : (z : Int) ≠ 0 := by omega
 have r1 := Q3 s1 (t := i) (by omega); have r1j := Q3 s1 (t := j) (by omega); refine ⟨⟨by omega, by omega⟩, ⟨by omega, by omega⟩, adm p m v (row X1 i) (z : Int) (row X1 j), Jg3 hF (by show (row X1 i).length <= (row X1 j).length; omega) (by show (row X1 i).length <= _; omega) rfl, ⟨by omega, by omega⟩, ?_⟩; have s2 : shp C (X1.set i (adm p m v (row X1 i) (z : Int) (row X1 j))) := Jc7 s1 (by rw [Zs]; exact r1); have e2 : Els p m (X1.set i (adm p m v (row X1 i) (z : Int) (row X1 j))) := Jc8 e1 (Jgp hp (Qu e1 i)); have n2 : (X1.set i (adm p m v (row X1 i) (z : Int) (row X1 j))).length = X.length := by rw [List.length_set]; exact n1
 have a2 : ∀ f, Lin p m v C.toNat f -> (Ann p m f (X1.set i (adm p m v (row X1 i) (z : Int) (row X1 j))) ↔ Ann p m f X) := fun f L => (Jr6 hF L hz0 (by omega) (by omega) (fun e => hji e.symm) r1).trans (a1 f L); obtain ⟨u3, u4⟩ := Jeb hF s2 e2 hs he a2; have d2 : sll X1 (i : Int) (adm p m v (row X1 i) (z : Int) (row X1 j)) = X1.set i (adm p m v (row X1 i) (z : Int) (row X1 j)) := rfl; rw [d2]; generalize X1.set i (adm p m v (row X1 i) (z : Int) (row X1 j)) = X2 at *
 refine QW (fun h0 => absurd (ok s2 e2) h0) fun p' m' v' hF' _ _ _ => ?_; obtain ⟨rfl, rfl, rfl⟩ := hF.uniq3 hF'; have r2 := Q3 s2 (t := j) (by omega); refine ⟨⟨by omega, by omega, by omega⟩, ⟨by omega, by omega⟩, adm p m v (List.replicate C.toNat 0) (z : Int) (row X2 j), Jg3 hF (by rw [List.length_replicate]; show _ <= (row X2 j).length; omega) (by rw [List.length_replicate]; omega) rfl, ⟨by omega, by omega⟩, ?_⟩; have s3 : shp C (X2.set j (adm p m v (List.replicate C.toNat 0) (z : Int) (row X2 j))) := Jc7 s2 (by rw [Zs, List.length_replicate]); have e3 : Els p m (X2.set j (adm p m v (List.replicate C.toNat 0) (z : Int) (row X2 j))) := Jc8 e2 (Jgp hp fun x hx => by
  obtain ⟨_, rfl⟩ := List.mem_replicate.1 hx; exact ⟨by omega, by omega⟩)
 have a3 : ∀ f, Lin p m v C.toNat f -> (Ann p m f (X2.set j (adm p m v (List.replicate C.toNat 0) (z : Int) (row X2 j))) ↔ Ann p m f X) := fun f L => (Jr4 hF L hz0 ⟨by omega, by omega⟩ (by omega)).trans (a2 f L); obtain ⟨u5, u6⟩ := Jeb hF s3 e3 hs he a3; have d3 : sll X2 (j : Int) (adm p m v (List.replicate C.toNat 0) (z : Int) (row X2 j)) = X2.set j (adm p m v (List.replicate C.toNat 0) (z : Int) (row X2 j)) := rfl; rw [d3]; generalize X2.set j (adm p m v (List.replicate C.toNat 0) (z : Int) (row X2 j)) = X3 at *
 refine QW (fun h0 => absurd (ok s3 e3) h0) fun p' m' v' hF' _ _ _ => ?_; obtain ⟨rfl, rfl, rfl⟩ := hF.uniq3 hF'; have sc := Jec (p := p) (m := m) (v := v) hs; have scl := Jc6 sc; refine ⟨fun _ => ⟨fun _ => ⟨fun _ => ?_, fun h => absurd rfl h⟩, fun h => absurd rfl h⟩, fun h => absurd rfl h⟩; rw [u2, u4, u6]; exact ZT (by omega) (Yo sc) ⟨fun _ => ZT (by omega) (Yo sc) ⟨fun _ => ZT (by omega) (Yo sc) rfl, fun h => absurd h (by decide)⟩, fun h => absurd h (by decide)⟩
end Go.Proofs.Ytiboieijhehjnaa
