/- Contracts of functions of the program, and what they lean on: M4, M5, M6, M7, M8, M9, M10, M11, M12, M13, M14, M15, M16, M17, M18, M19, M20, M21, M22, M23, M24, S1, S2, S3, S4, S5, S6, S7, S9, S10, C1, C2, C3, C4, C5, C6, C7, C13, C16, C17. -/
import Derived.Test.YtjgpkljepgcekaaClassicSimplexG7
set_option linter.unusedVariables false
set_option linter.unusedSimpArgs false
namespace Go.Proofs.Ytjgpkljepgcekaa
section
variable {F : GFv} {p m v g : Nat} {P M : Int} {mf : LI} {X Y : LL} {C : Int}
def Joc (P M : Int) (mf : LI) (X : LL) : Prop := ∃ p m v, FV P M mf p m v /\ Els p m X
open Classical in
noncomputable def mck (P M : Int) (mf : LI) (C : Int) (X : LL) : Int := if ¬ Qw P M mf then 1 else if ¬ shp C X then 3 else if ¬ Joc P M mf X then 2 else 0
theorem FV.uniq {p' m' v' : Nat} (h : FV P M mf p m v) (h' : FV P M mf p' m' v') : p = p' /\ m = m' := ⟨by have := h.eP; have := h'.eP; omega, by have := h.eM; have := h'.eM; omega⟩
theorem Ya (h : FV P M mf p m v) : Joc P M mf X ↔ Els p m X := ⟨fun ⟨p', m', v', h1, h2⟩ => by obtain ⟨rfl, rfl⟩ := h.uniq h1; exact h2, fun h2 => ⟨p, m, v, h, h2⟩⟩
theorem Jjm (h : ¬ Qw P M mf) : mck P M mf C X = 1 := if_pos h
theorem Jlr (h : Qw P M mf) (hs : ¬ shp C X) : mck P M mf C X = 3 := by unfold mck; rw [if_neg (fun hh => hh h), if_pos hs]
theorem Jls (h : Qw P M mf) (hs : shp C X) (he : ¬ Joc P M mf X) : mck P M mf C X = 2 := by unfold mck; rw [if_neg (fun hh => hh h), if_neg (fun hh => hh hs), if_pos he]
theorem Jdf (h : Qw P M mf) (hs : shp C X) (he : Joc P M mf X) : mck P M mf C X = 0 := by unfold mck; rw [if_neg (fun hh => hh h), if_neg (fun hh => hh hs), if_neg (fun hh => hh he)]
theorem Jhh (h : mck P M mf C X = 0) : Qw P M mf /\ shp C X /\ Joc P M mf X := by
 by_cases h1 : Qw P M mf
 .by_cases h2 : shp C X
  .by_cases h3 : Joc P M mf X
   .exact ⟨h1, h2, h3⟩
   .rw [Jls h1 h2 h3] at h; exact absurd h (by decide)
  .rw [Jlr h1 h2] at h; exact absurd h (by decide)
 .rw [Jjm h1] at h; exact absurd h (by decide)
theorem Je6 (h : shp C X) : X.length <= 256 := h.2.2.1
theorem Y6 (h : shp C X) {t : Nat} (ht : t < X.length) : (row X t).length = C.toNat := by
 have := h.2.2.2 _ (Jar ht); have := h.1; omega
noncomputable def Jfd (P M : Int) (mf : LI) : List Mt -> Int
  | [] => 0
  | (C, X) :: ms => if mck P M mf C X = 0 then Jfd P M mf ms else mck P M mf C X
theorem w_open {ms : List Mt} {Q : Option GFv × Int -> Prop} (hl : ms.length <= 1000) (hno : ¬ Qw P M mf -> Q (none, 1))
  (h : ∀ (F : GFv) (p m v g : Nat), GFk F p m v g -> FV P M mf p m v -> Jfd P M mf ms = 0 -> Q (some F, 0)) (hb : Qw P M mf -> Jfd P M mf ms ≠ 0 -> Q (none, Jfd P M mf ms)) : Jae P M mf ms Q := by
 refine v_New (fun hn => ⟨fun h0 => ⟨h0, hno hn⟩, fun h0 => absurd (show (1 : Int) ≠ 0 by decide) h0⟩) fun F p m v g K eP eM emf => ⟨fun h0 => absurd rfl h0, fun _ => ?_⟩
 have hF : FV P M mf p m v := by rw [<- eP, <- eM, <- emf]; exact K.fv
 have hV : Qw P M mf := ⟨p, m, v, hF⟩
 refine ⟨fun z => ∃ t : Nat, z = t /\ t <= ms.length /\ Jfd P M mf (ms.drop t) = Jfd P M mf ms, fun z => (ms.length - z).toNat, ⟨0, rfl, Nat.zero_le _, rfl⟩, ?_⟩; rintro _ ⟨t, rfl, ht, he⟩; refine ⟨fun hlt => ?_, fun hge => ?_⟩
 .have htl : t < ms.length := by omega
  have hd : ms.drop t = gm ms t :: ms.drop (t + 1) := by
   rw [List.drop_eq_getElem_cons htl]
   congr 1
   unfold gm; show _ = ms.getD t (0, []); rw [List.getD_eq_getElem?_getD, List.getElem?_eq_getElem htl]; rfl
  rw [hd] at he; generalize gm ms t = mt at *
  obtain ⟨C, X⟩ := mt; simp only [Jfd] at he; dsimp only; refine ⟨⟨by omega, by omega⟩, Jio (fun hs => ⟨fun h => absurd h (by decide), fun _ => ?_⟩) (fun hs => ⟨fun _ => ⟨by decide, ?_⟩, fun h => absurd h (by decide)⟩)⟩
  .refine ⟨fun z => ∃ s : Nat, z = s /\ s <= X.length /\ ∀ k, k < s -> Elr p m (row X k), fun z => (X.length - z).toNat, ⟨0, rfl, Nat.zero_le _, fun k hk => by omega⟩, ?_⟩; rintro _ ⟨s, rfl, hs1, hs2⟩; have hX : X.length <= 256 := Je6 hs; dsimp only; refine ⟨fun hlt2 => ⟨⟨by omega, by omega⟩, ZX K (by show (row X s).length <= _; rw [Y6 hs (by omega)]; have := hs.2.1; omega) (fun hel => ⟨fun h => absurd h (by decide), fun _ => ⟨Ju (by omega) (by omega), ⟨s + 1, by push_cast; rfl, by omega, fun k hk => ?_⟩, by omega⟩⟩) (fun hel => ⟨fun _ => ⟨by decide, ?_⟩, fun h => absurd h (by decide)⟩)⟩, fun hge2 => ?_⟩
   .rcases Nat.lt_or_ge k s with h | h
    .exact hs2 k h
    .rw [show k = s by omega]; exact hel
   .have e : mck P M mf C X = 2 := Jls hV hs fun hv => hel (Qx ((Ya hF).1 hv) s); rw [e, if_neg (by decide)] at he; have := hb hV (by rw [<- he]; decide)
    rwa [<- he] at this
   .have e : mck P M mf C X = 0 := Jdf hV hs ((Ya hF).2 (Jdn fun k hk => hs2 k (by omega))); rw [e, if_pos rfl] at he; exact ⟨Ju (by omega) (by omega), ⟨t + 1, by push_cast; rfl, by omega, he⟩, by omega⟩
  .have e : mck P M mf C X = 3 := Jlr hV hs; rw [e, if_neg (by decide)] at he; have := hb hV (by rw [<- he]; decide)
   rwa [<- he] at this
 .rw [show t = ms.length by omega, List.drop_length] at he; exact h F p m v g K hF he.symm
theorem Jg3 : Jfd P M mf [(C, X)] = mck P M mf C X := by
 simp only [Jfd]; split
 .rename_i h; exact h.symm
 .rfl
theorem Je0 {Q : Option GFv × Int -> Prop} (hb : mck P M mf C X ≠ 0 -> Q (none, mck P M mf C X))
    (h : ∀ (F : GFv) (p m v g : Nat), GFk F p m v g -> FV P M mf p m v -> shp C X -> Els p m X -> mck P M mf C X = 0 -> Q (some F, 0)) : Jae P M mf [(C, X)] Q := by
  refine w_open (by simp) (fun hn => ?_) (fun F p m v g K hF he => ?_) (fun hV he => ?_)
  . have := hb (by rw [Jjm hn]; decide); rwa [Jjm hn] at this
  . rw [Jg3] at he
    obtain ⟨_, h2, h3⟩ := Jhh he
    exact h F p m v g K hF h2 ((Ya hF).1 h3) he
  . rw [Jg3] at he ⊢; exact hb he
theorem Jgh {Q : Int -> Prop} (h : Q (mck P M mf C X)) : ZB P M mf C X Q := Je0 (fun _ _ => h) (fun F p m v g K hF h1 h2 h3 => by show Q 0; rw [<- h3]; exact h)
def ec (p m v : Nat) (C : Int) (X : LL) : ES := elim p m v C.toNat ⟨X, List.replicate X.length [], [], 1⟩
def J8 (p m v : Nat) (C : Int) (X : LL) : LL := (ec p m v C X).X.take (ec p m v C X).pv.length
def JS (p m v : Nat) (C : Int) (X : LL) : LI := (ec p m v C X).pv
theorem Jsc {n t : Nat} {l : LI} (h : t < n) : row (List.replicate n l) t = l := by
 unfold row; rw [List.getD_eq_getElem?_getD, List.getElem?_replicate, if_pos h]; rfl
theorem shp_S0 (hs : shp C X) {Z : LL} {wz : Nat} {d : Int} (hZ : Z.length = X.length) (hz : ∀ t, t < X.length -> (row Z t).length = wz) : Shp X.length C.toNat wz ⟨X, Z, [], d⟩ := ⟨rfl, fun t ht => Y6 hs ht, hZ, hz, Nat.zero_le _⟩
theorem Jao (hs : shp C X) : Shp X.length C.toNat 0 ⟨X, List.replicate X.length [], [], 1⟩ := shp_S0 hs (by simp) fun t ht => by rw [Jsc ht]; rfl
theorem Je7 (hs : shp C X) : X.length <= 256 /\ C.toNat <= 256 /\ ((C.toNat : Nat) : Int) = C := ⟨hs.2.2.1, by have := hs.2.1; omega, by have := hs.1; omega⟩
theorem Jo2 (hs : shp C X) : ∀ r ∈ X, r.length <= 1000000 := fun r hr => by have := hs.2.2.2 r hr; have := hs.2.1; omega
theorem Z6 (hs : shp C X) : Shp X.length C.toNat 0 (ec p m v C X) := YW (Jao hs) _
theorem Jgk {Q : Int × LL × LI -> Prop} (K : GFk F p m v g) (hs : shp C X) (h : Q (C, J8 p m v C X, JS p m v C X)) : YO F C X Q := by
 obtain ⟨h1, h2, h3⟩ := Je7 hs; refine Joh (by omega) (Jo2 hs) ⟨⟨by omega, by omega, by omega⟩, ?_⟩; show Yh F C X (List.replicate X.length ([] : LI)) _; rw [<- h3]; refine Jgj K (by omega) (by omega) (wy := 0) (by omega) (Jao hs) ?_; rw [h3]; have := (Z6 (p := p) (m := m) (v := v) hs).pl; exact ⟨⟨by omega, by show ((ec p m v C X).pv.length : Int) <= _; omega⟩, h⟩
theorem Jgl {Q : Int × LL × LI × Int -> Prop} (hb : mck P M mf C X ≠ 0 -> Q (0, [], [], mck P M mf C X))
  (h : ∀ p m v, FV P M mf p m v -> shp C X -> Els p m X -> mck P M mf C X = 0 -> Q (C, J8 p m v C X, JS p m v C X, 0)) : YP P M mf C X Q :=
 Je0 (fun h0 _ => hb h0) fun F p m v g K hF hs he h0 => Jgk K hs (h p m v hF hs he h0)
theorem FV.uniq3 {p' m' v' : Nat} (h : FV P M mf p m v) (h' : FV P M mf p' m' v') : p = p' /\ m = m' /\ v = v' := by
 obtain ⟨e1, e2⟩ := h.uniq h'; subst e1; subst e2; refine ⟨rfl, rfl, ?_⟩; by_cases hm : m = 1
 .rw [(h.m1 hm).2, (h'.m1 hm).2]
 .have e1 := h.m2 hm; have e2 := h'.m2 hm; have hp := h.p2; have h3 : dv p v = dv p v' := by rw [<- h.vo, <- h'.vo]
  have h4 := Z1 (p := p) (m := m) (x := v) (by omega) h.vlt; have h5 := Z1 (p := p) (m := m) (x := v') (by omega) h'.vlt; rw [<- h4, <- h5, h3]
end
end Go.Proofs.Ytjgpkljepgcekaa
namespace Go.Proofs.Ytjgpkljepgcekaa
section
variable {p m v : Nat}
def Asc (k : Nat) (l : LI) : Prop := (∀ i, i < l.length -> 0 <= vo l i /\ vo l i < (k : Int)) /\ ∀ i j, i < j -> j < l.length -> vo l i < vo l j
theorem Jal {l : LI} {x : Int} {i : Nat} : vo (l ++ [x]) i = if i < l.length then vo l i else if i = l.length then x else 0 := by
 unfold vo; rw [List.getD_eq_getElem?_getD, List.getD_eq_getElem?_getD, List.getElem?_append]; by_cases h : i < l.length
 .rw [if_pos h, if_pos h]
 .rw [if_neg h, if_neg h]; by_cases h2 : i = l.length
  .subst h2; simp
  .rw [if_neg h2]; have : i - l.length ≠ 0 := by omega
   cases hh : i - l.length with
   | zero => omega
   | succ n => simp
theorem Asc.snoc {k : Nat} {l : LI} (h : Asc k l) : Asc (k + 1) (l ++ [(k : Int)]) := by
 refine ⟨fun i hi => ?_, fun i j hij hj => ?_⟩
 .rw [List.length_append] at hi; rw [Jal]; split
  .rename_i h1; have := h.1 i h1; omega
  .split
   .omega
   .simp at hi; omega
 .rw [List.length_append] at hj; have hj' : j < l.length + 1 := by simpa using hj
  rw [Jal, Jal, if_pos (show i < l.length by omega)]; split
  .rename_i h1; exact h.2 i j hij h1
  .rw [if_pos (show j = l.length by omega)]; exact (h.1 i (by omega)).2
theorem Asc.up {k : Nat} {l : LI} (h : Asc k l) : Asc (k + 1) l := ⟨fun i hi => by have := h.1 i hi; omega, h.2⟩
theorem Jdo {S : ES} (h : S.pv = []) : ∀ k, Asc k (elim p m v k S).pv
 | 0 => by
  show Asc 0 S.pv; rw [h]; exact ⟨fun i hi => absurd hi (Nat.not_lt_zero i), fun i j _ hj => absurd hj (Nat.not_lt_zero j)⟩
 | k + 1 => by
  have ih := Jdo h k; rw [Qy]; unfold Q0; split
  .exact ih.snoc
  .exact ih.up
theorem Yy (C : Int) (X : LL) : Asc C.toNat (JS p m v C X) := Jdo rfl _
end
section
variable {F : GFv} {p m v g : Nat} {P M : Int} {mf : LI} {X Y : LL} {C : Int}
theorem Yc (hs : shp C X) : (J8 p m v C X).length = (JS p m v C X).length := by
 have h0 := Z6 (p := p) (m := m) (v := v) hs; unfold J8 JS; rw [List.length_take]; have h1 := h0.pl; have h2 := h0.xl; omega
theorem Zo {Z : LL} {n t : Nat} (h : t < n) : row (Z.take n) t = row Z t := by
 unfold row; rw [List.getD_eq_getElem?_getD, List.getD_eq_getElem?_getD, List.getElem?_take, if_pos h]
theorem Jqk (hs : shp C X) {t : Nat} (ht : t < (J8 p m v C X).length) : (row (J8 p m v C X) t).length = C.toNat := by
 have h1 := Z6 (p := p) (m := m) (v := v) hs; rw [Yc hs] at ht; unfold J8; rw [Zo (n := (ec p m v C X).pv.length) ht]; exact h1.xr t (Nat.lt_of_lt_of_le ht h1.pl)
theorem Jdu (hs : shp C X) : shp C (J8 p m v C X) := by
 obtain ⟨h1, h2, h3⟩ := Je7 hs; have h4 := Z6 (p := p) (m := m) (v := v) hs; refine ⟨hs.1, hs.2.1, by rw [Yc hs]; have := h4.pl; show (ec p m v C X).pv.length <= 256; omega, fun r hr => ?_⟩; obtain ⟨t, ht, rfl⟩ := Jci hr; rw [Jqk hs ht]; exact h3
theorem Jh6 (hs : shp C X) : (JS p m v C X).length <= X.length := (Z6 (p := p) (m := m) (v := v) hs).pl
end
end Go.Proofs.Ytjgpkljepgcekaa
namespace Go.Proofs.Ytjgpkljepgcekaa
section
variable {F : GFv} {p m v g : Nat} {P M : Int} {mf : LI} {X Y : LL} {C : Int}
open Classical in
noncomputable def sqe (P M : Int) (mf : LI) (C : Int) (X : LL) : Int := if mck P M mf C X ≠ 0 then mck P M mf C X else if (X.length : Int) ≠ C then 3 else 0
def cmb (p m v : Nat) (x : LI) (C : Nat) (X : LL) (k : Nat) : LI := (List.range k).foldl (fun s i => adx p m v s (vo x i) (row X i)) (List.replicate C 0)
theorem Ja1 (x : LI) (C : Nat) (k : Nat) : cmb p m v x C X (k + 1) = adx p m v (cmb p m v x C X k) (vo x k) (row X k) := by
 unfold cmb; rw [List.range_succ, List.foldl_append]; rfl
theorem Ja2 (x : LI) (C : Nat) : ∀ k, (cmb p m v x C X k).length = C
 | 0 => by simp [cmb]
 | k + 1 => by rw [Ja1, Jcm]; exact Ja2 x C k
theorem Jmn {x : LI} {Q : LI -> Prop} (K : GFk F p m v g) (hs : shp C X) (hx : x.length = X.length) (h : Q (cmb p m v x C.toNat X X.length)) : ZQ F x C X Q := by
 obtain ⟨h1, h2, h3⟩ := Je7 hs; refine ⟨⟨by omega, by omega, by omega⟩, fun y z => ∃ t : Nat, z = t /\ t <= X.length /\ y = cmb p m v x C.toNat X t, fun _ z => (X.length - z).toNat, ⟨0, rfl, Nat.zero_le _, rfl⟩, ?_⟩; rintro _ _ ⟨t, rfl, ht, rfl⟩; refine ⟨fun hlt => ?_, fun hge => by rw [show t = X.length by omega]; exact h⟩; have hr := Y6 hs (t := t) (by omega); have hc := Ja2 (p := p) (m := m) (v := v) (X := X) x C.toNat t; refine ⟨⟨by omega, by omega⟩, ⟨by omega, by omega⟩, YQ K (by show (row X t).length <= _; omega) (by omega) ⟨Ju (by omega) (by omega), ⟨t + 1, by push_cast; rfl, by omega, ?_⟩, ?_⟩⟩
 .rw [Ja1]; rfl
 .show ((X.length : Int) - ((t : Int) + 1)).toNat < ((X.length : Int) - (t : Int)).toNat; omega
open Classical in
noncomputable def vce (p m : Nat) (x : LI) (n : Nat) : Int := if x.length ≠ n then 3 else if ¬ Elr p m x then 2 else 0
theorem Joq {x : LI} {n : Nat} (h : vce p m x n = 0) : x.length = n /\ Elr p m x := by
 unfold vce at h; split at h
 .exact absurd h (by decide)
 .rename_i h1
  split at h
  .exact absurd h (by decide)
  .rename_i h2; exact ⟨Classical.not_not.1 h1, Classical.not_not.1 h2⟩
def rgt (b : LI) : LL := b.map fun y => [y]
def eb (p m v : Nat) (C : Int) (X : LL) (b : LI) : ES := elim p m v C.toNat ⟨X, rgt b, [], 1⟩
end
def A3 : LL := [[1, 1, 0], [0, 1, 1], [1, 0, 1]]
def A2 : LL := [[1, 2], [3, 4]]
instance (p m : Nat) (x : Int) : Decidable (El p m x) := inferInstanceAs (Decidable (_ /\ _))
end Go.Proofs.Ytjgpkljepgcekaa
namespace Go.Proofs.Ytjgpkljepgcekaa
end Go.Proofs.Ytjgpkljepgcekaa
namespace Go.Proofs.Ytjgpkljepgcekaa
section
variable {F : GFv} {p m v g : Nat} {P M : Int} {mf : LI} {X : LL} {C : Int} {set y : LI}
end
end Go.Proofs.Ytjgpkljepgcekaa
namespace Go.Proofs.Ytjgpkljepgcekaa
section
variable {p m v : Nat} {P M : Int} {mf : LI} {X Y : LL} {C : Int} {w : Nat}
def en (p m : Nat) (l : LI) : Nat -> Nat := fun c => inE (p ^ m) (vo l c)
structure Lin (p m v w : Nat) (f : (Nat -> Nat) -> Nat) : Prop where
  lt : ∀ a, f a < p ^ m
  cg : ∀ {a b : Nat -> Nat}, (∀ c, c < w -> a c = b c) -> f a = f b
  ad : ∀ {a b : Nat -> Nat} {x : Nat}, (∀ c, a c < p ^ m) -> (∀ c, b c < p ^ m) -> x < p ^ m -> f (fun c => JN p m (a c) (Jr p m (dv p v) x (b c))) = JN p m (f a) (Jr p m (dv p v) x (f b))
  ml : ∀ {a : Nat -> Nat} {x : Nat}, (∀ c, a c < p ^ m) -> x < p ^ m -> f (fun c => Jr p m (dv p v) x (a c)) = Jr p m (dv p v) x (f a)
def Ann (p m : Nat) (f : (Nat -> Nat) -> Nat) (X : LL) : Prop := ∀ t, t < X.length -> f (en p m (row X t)) = 0
theorem Q1 (hF : FV P M mf p m v) (l : LI) (c : Nat) : en p m l c < p ^ m := J7 (by have := hF.ring.q2; omega) _
theorem Jj1 (hF : FV P M mf p m v) {a o : LI} {x : Int} {c : Nat} (hc : c < a.length) : en p m (adx p m v a x o) c = JN p m (en p m a c) (Jr p m (dv p v) (inE (p ^ m) x) (en p m o c)) := by
 have R := hF.ring; have hq : 0 < p ^ m := by have := R.q2; omega
 have e0 : inE (p ^ m) 0 = 0 := Qk (x := 0) hq; have hz : ∀ y, y < p ^ m -> Jr p m (dv p v) 0 y = 0 := fun y hy => by rw [R.Mc hq hy]; exact R.M0 hy
 unfold en adx; split
 .rename_i h; subst h
  rw [e0, hz _ (J7 hq _), R.Az (J7 hq _)]
 .rw [Jbi hc]; split
  .rename_i h; rw [h, e0, R.M0 (J7 hq _), R.Az (J7 hq _)]
  .unfold Ad Ml; rw [Qk (R.Al _ _), Qk (R.Ml _ _)]
theorem en_sc (hF : FV P M mf p m v) {l : LI} {x : Int} {c : Nat} (hc : c < l.length) : en p m (sc p m v x l) c = Jr p m (dv p v) (inE (p ^ m) x) (en p m l c) := by
 unfold en; rw [Jed hc]; unfold Ml; rw [Qk (hF.ring.Ml _ _)]
theorem Lin.adx {f : (Nat -> Nat) -> Nat} (L : Lin p m v w f) (hF : FV P M mf p m v) {a o : LI} {x : Int} (ha : a.length = w) : f (en p m (adx p m v a x o)) = JN p m (f (en p m a)) (Jr p m (dv p v) (inE (p ^ m) x) (f (en p m o))) := by
 rw [<- L.ad (Q1 hF a) (Q1 hF o) (J7 (by have := hF.ring.q2; omega) x)]; exact L.cg fun c hc => Jj1 hF (by omega)
theorem Lin.sc {f : (Nat -> Nat) -> Nat} (L : Lin p m v w f) (hF : FV P M mf p m v) {l : LI} {x : Int} (hl : l.length = w) : f (en p m (sc p m v x l)) = Jr p m (dv p v) (inE (p ^ m) x) (f (en p m l)) := by
 rw [<- L.ml (Q1 hF l) (J7 (by have := hF.ring.q2; omega) x)]; exact L.cg fun c hc => en_sc hF (by omega)
theorem Y7 {r cur t : Nat} (hr : r < X.length) (hc : cur < X.length) : row (swq X r cur) t = if t = cur then row X r else if t = r then row X cur else row X t := by
  unfold swq
  split
  . rename_i h; subst h
    split
    . rename_i h; rw [h]
    . rfl
  . exact Je8 hr hc
theorem Jfa {cur t : Nat} {e : Int} (hc : cur < X.length) : row (scq p m v X cur e) t = if t = cur then sc p m v (Iv p m v e) (row X cur) else row X t := by
 unfold scq; rw [Yn]; by_cases h : cur = t
 .rw [if_pos ⟨h, hc⟩, if_pos h.symm]
 .rw [if_neg (fun hh => h hh.1), if_neg (fun hh => h hh.symm)]
theorem Jtj {f : (Nat -> Nat) -> Nat} {r cur : Nat} (hr : r < X.length) (hc : cur < X.length) (h : Ann p m f (swq X r cur)) : Ann p m f X := fun t ht => by
 rw [Ann, JO] at h; by_cases h1 : t = r
 .have := h cur hc; rw [Y7 hr hc, if_pos rfl] at this; rw [h1]; exact this
 .by_cases h2 : t = cur
  .have := h r hr; rw [Y7 hr hc] at this; rw [if_neg (fun e => h1 (h2.trans e.symm)), if_pos rfl] at this; rw [h2]; exact this
  .have := h t ht; rw [Y7 hr hc, if_neg h2, if_neg h1] at this; exact this
theorem Jtk {f : (Nat -> Nat) -> Nat} (L : Lin p m v w f) (hF : FV P M mf p m v) {cur : Nat} {e : Int} {z : Nat} (hz : z < p ^ m) (he : Jr p m (dv p v) z (inE (p ^ m) (Iv p m v e)) = 1) (hc : cur < X.length) (hw : (row X cur).length = w) (h : Ann p m f (scq p m v X cur e)) : Ann p m f X := fun t ht => by
 have R := hF.ring; have q1 : 1 < p ^ m := R.q2; rw [Ann, Qg] at h; have h3 := h t ht; rw [Jfa hc] at h3; split at h3
 .rename_i h1; subst h1
  rw [L.sc hF hw] at h3; have hi := J7 (q := p ^ m) (by omega) (Iv p m v e); have h4 := R.Ma hz hi (L.lt (en p m (row X t))); rw [he, h3, R.M0 hz, R.Mc q1 (L.lt _), R.M1 (L.lt _)] at h4; exact h4
 .exact h3
theorem Jtl {f : (Nat -> Nat) -> Nat} (L : Lin p m v w f) (hF : FV P M mf p m v) {cur : Nat} {g : Nat -> Int} (hc : cur < X.length) (hw : ∀ t, t < X.length -> (row X t).length = w) (h : Ann p m f (clr p m v g cur X)) : Ann p m f X := fun t ht => by
 have R := hF.ring; have hq : 0 < p ^ m := by have := R.q2; omega
 rw [Ann, Yr] at h; have hcur := h cur hc; rw [YE hc, if_pos rfl] at hcur; have h3 := h t ht; rw [YE ht] at h3; split at h3
 .exact h3
 .rw [L.adx hF (hw t ht), hcur, R.M0 (J7 hq _), R.Az (L.lt _)] at h3; exact h3
theorem Jpx {g : Nat} (K : Gn (p ^ m) (Jr p m (dv p v)) g) (hF : FV P M mf p m v) {x : Int} (h0 : x ≠ 0) (hx : El p m x) : inE (p ^ m) x < p ^ m /\ Jr p m (dv p v) (inE (p ^ m) x) (inE (p ^ m) (Iv p m v x)) = 1 := by
 have R := hF.ring; have q1 : 1 < p ^ m := R.q2; have hx1 := J7 (q := p ^ m) (by omega) x; have hne : 0 < inE (p ^ m) x := by
  have := Zu hx; omega
 have h1 := K.xone R hne hx1; refine ⟨hx1, ?_⟩; have hz : pw (Jr p m (dv p v)) (inE (p ^ m) x) (p ^ m - 1 - 1) < p ^ m := by
  cases p ^ m - 1 - 1 with
  | zero => exact q1
  | succ n => exact R.Ml _ _
 have h2 : Jr p m (dv p v) (pw (Jr p m (dv p v)) (inE (p ^ m) x) (p ^ m - 1 - 1)) (inE (p ^ m) x) = 1 := by
  rw [show p ^ m - 1 = (p ^ m - 1 - 1) + 1 by omega] at h1; exact h1
 rw [Jrw R hx1 hz h2, Qk hz, R.Mc hx1 hz]; exact h2
theorem Jqu {g : Nat} (K : Gn (p ^ m) (Jr p m (dv p v)) g) (hF : FV P M mf p m v) {f : (Nat -> Nat) -> Nat} (L : Lin p m v w f) {S : ES} {c : Nat} (he : Els p m S.X) (hw : ∀ t, t < S.X.length -> (row S.X t).length = w) (h : Ann p m f (Q0 p m v S c).X) : Ann p m f S.X := by
  unfold Q0 at h
  split at h
  . rename_i h1
    obtain ⟨hc, hr⟩ := h1
    rw [Jaw] at h
    have hw1 : ∀ t, t < (swq S.X (nz S.X c S.pv.length) S.pv.length).length -> (row (swq S.X (nz S.X c S.pv.length) S.pv.length) t).length = w := fun t ht => by
      rw [JO] at ht; exact QK hr hc hw ht
    have hrow : row (swq S.X (nz S.X c S.pv.length) S.pv.length) S.pv.length = row S.X (nz S.X c S.pv.length) := by rw [Y7 hr hc, if_pos rfl]
    have hne := (ZF S.X c S.pv.length (by omega)).2.2 hr
    have hcl : c < (row S.X (nz S.X c S.pv.length)).length := by
      rcases Nat.lt_or_ge c (row S.X (nz S.X c S.pv.length)).length with h | h
      . exact h
      . exact absurd (Jak h) hne
    have hel : El p m (vo (row S.X (nz S.X c S.pv.length)) c) := Qx he _ _ (Jbh hcl)
    obtain ⟨h4, h5⟩ := Jpx K hF hne hel
    have h2 := Jtl L hF (by rw [Qg, JO]; exact hc) (fun t ht => by rw [Qg] at ht; exact QL (by rw [JO]; exact hc) hw1 ht) h
    rw [hrow] at h2
    have h3 := Jtk L hF h4 h5 (by rw [JO]; exact hc) (hw1 _ (by rw [JO]; exact hc)) h2
    exact Jtj hr hc h3
  . exact h
theorem Jh8 {g : Nat} (K : Gn (p ^ m) (Jr p m (dv p v)) g) (hF : FV P M mf p m v) {f : (Nat -> Nat) -> Nat} (L : Lin p m v w f) {n wy : Nat} {S : ES} (hS : Shp n w wy S) (he : Els p m S.X) : ∀ k, Ann p m f (elim p m v k S).X -> Ann p m f S.X
 | 0, h => h
 | k + 1, h => by
  rw [Qy] at h; have hk := YW (p := p) (m := m) (v := v) hS k; refine Jh8 K hF L hS he k (Jqu K hF L (Jay (by have := hF.p2; omega) he k) (fun t ht => hk.xr t (by have := hk.xl; omega)) h)
end
end Go.Proofs.Ytjgpkljepgcekaa
namespace Go.Proofs.Ytjgpkljepgcekaa
section
variable {p m v g : Nat} {P M : Int} {mf : LI} {X Y : LL} {C : Int} {w : Nat}
structure Red (k : Nat) (S : ES) : Prop where
  one : ∀ i, i < S.pv.length -> ∀ t, t < S.X.length -> vo (row S.X t) (vo S.pv i).toNat = if t = i then 1 else 0
  lo : ∀ t, S.pv.length <= t -> t < S.X.length -> ∀ c, c < k -> vo (row S.X t) c = 0
  lf : ∀ i, i < S.pv.length -> ∀ c : Nat, (c : Int) < vo S.pv i -> vo (row S.X i) c = 0
theorem Jr1 {a o : LI} {x : Int} {c : Nat} (h : vo o c = 0) : vo (adx p m v a x o) c = vo a c := by
 unfold adx; split
 .rfl
 .rcases Nat.lt_or_ge c a.length with hc | hc
  .rw [Jbi hc, if_pos h]
  .rw [Jak hc, Jak (by rw [Jcn]; exact hc)]
theorem Jol (hF : FV P M mf p m v) {l : LI} {x : Int} {c : Nat} (h : vo l c = 0) : vo (sc p m v x l) c = 0 := by
 have hq : 0 < p ^ m := by have := hF.ring.q2; omega
 rcases Nat.lt_or_ge c l.length with hc | hc
 .rw [Jed hc, h]; unfold Ml; rw [show inE (p ^ m) 0 = 0 from Qk (x := 0) hq, hF.ring.M0 (J7 hq _)]; rfl
 .exact Jak (by unfold sc; rw [List.length_map]; exact hc)
theorem Jpc (K : Gn (p ^ m) (Jr p m (dv p v)) g) (hF : FV P M mf p m v) {S : ES} {k : Nat} (hA : Asc k S.pv) (hl : S.pv.length <= S.X.length) (he : Els p m S.X) (h : Red k S) : Red (k + 1) (Q0 p m v S k) := by
 have R := hF.ring; have q1 : 1 < p ^ m := R.q2; have hp : 0 < p := by have := hF.p2; omega
 unfold Q0; split
 case isFalse h1 =>
  refine ⟨h.one, fun t ht1 ht2 c hc => ?_, h.lf⟩; rcases Nat.lt_or_ge c k with hck | hck
  .exact h.lo t ht1 ht2 c hck
  .have e : c = k := by omega
   subst e; have hs := ZF S.X c S.pv.length hl; exact hs.2.1 t ht1 (by
    rcases Nat.lt_or_ge t (nz S.X c S.pv.length) with h | h
    .exact h
    .exact absurd ⟨by omega, by omega⟩ h1)
 case isTrue h1 =>
  obtain ⟨hc, hr⟩ := h1; have hrs := Jpr S.X k S.pv.length; have hne := (ZF S.X k S.pv.length hl).2.2 hr; have hkl : k < (row S.X (nz S.X k S.pv.length)).length := by
   rcases Nat.lt_or_ge k (row S.X (nz S.X k S.pv.length)).length with h | h
   .exact h
   .exact absurd (Jak h) hne
  have hel : El p m (vo (row S.X (nz S.X k S.pv.length)) k) := Qx he _ _ (Jbh hkl); obtain ⟨h4, h5⟩ := Jpx K hF hne hel; have hE3 : Els p m (es1 p m v k (nz S.X k S.pv.length) S.pv.length S).X := Jlw hp he hr hc; have hn : (es1 p m v k (nz S.X k S.pv.length) S.pv.length S).X.length = S.X.length := by rw [Jaw, Yr, Qg, JO]
  generalize hrr : nz S.X k S.pv.length = r at *
  have hx2 : ∀ t, row (scq p m v (swq S.X r S.pv.length) S.pv.length (vo (row (swq S.X r S.pv.length) S.pv.length) k)) t = if t = S.pv.length then sc p m v (Iv p m v (vo (row S.X r) k)) (row S.X r) else if t = r then row S.X S.pv.length else row S.X t := fun t => by
   rw [Jfa (by rw [JO]; exact hc), Y7 hr hc, Y7 hr hc, if_pos rfl]; split <;> rfl
  have hx3 : ∀ t, t < S.X.length -> row (es1 p m v k r S.pv.length S).X t = if t = S.pv.length then sc p m v (Iv p m v (vo (row S.X r) k)) (row S.X r) else adx p m v (if t = r then row S.X S.pv.length else row S.X t) (Ng p m (vo (if t = r then row S.X S.pv.length else row S.X t) k)) (sc p m v (Iv p m v (vo (row S.X r) k)) (row S.X r)) := fun t ht => by
   rw [Jaw, YE (by rw [Qg, JO]; exact ht), hx2, hx2, if_pos rfl]; split
   .rfl
   .rfl
  -- the columns before stay
  have hold : ∀ t, t < S.X.length -> ∀ c, c < k -> vo (row (es1 p m v k r S.pv.length S).X t) c = vo (row S.X t) c := fun t ht c hck => by
   have z1 : vo (row S.X r) c = 0 := h.lo r hrs hr c hck; have z2 : vo (row S.X S.pv.length) c = 0 := h.lo _ (Nat.le_refl _) hc c hck; rw [hx3 t ht]; split
   .rename_i e; rw [Jol hF z1, e, z2]
   .rw [Jr1 (Jol hF z1)]; split
    .rename_i e; rw [z2, e, z1]
    .rfl
  have hone : vo (sc p m v (Iv p m v (vo (row S.X r) k)) (row S.X r)) k = 1 := by
   rw [Jed hkl]; unfold Ml; rw [R.Mc (J7 (by omega) _) h4, h5]; rfl
  have hnew : ∀ t, t < S.X.length -> vo (row (es1 p m v k r S.pv.length S).X t) k = if t = S.pv.length then 1 else 0 := fun t ht => by
   have hEt := Qx hE3 t; have hx := hx3 t ht; by_cases e : t = S.pv.length
   .rw [if_pos e] at hx ⊢; rw [hx]; exact hone
   .rw [if_neg e] at hx ⊢; rcases Nat.lt_or_ge k (if t = r then row S.X S.pv.length else row S.X t).length with hkt | hkt
    .have h6 := Jj1 hF (x := Ng p m (vo (if t = r then row S.X S.pv.length else row S.X t) k)) (o := sc p m v (Iv p m v (vo (row S.X r) k)) (row S.X r)) hkt; rw [<- hx] at h6; have h7 : en p m (sc p m v (Iv p m v (vo (row S.X r) k)) (row S.X r)) k = 1 := by unfold en; rw [hone]; exact Qk (x := 1) q1
     rw [h7] at h6; unfold Ng at h6; have h8 : Yp p m (inE (p ^ m) (vo (if t = r then row S.X S.pv.length else row S.X t) k)) < p ^ m := Jck hp _; rw [Qk h8, R.M1 h8] at h6; have h9 : en p m (row (es1 p m v k r S.pv.length S).X t) k = 0 := by rw [h6]; exact Zx hp (J7 (by omega) _)
     have h10 : El p m (vo (row (es1 p m v k r S.pv.length S).X t) k) := hEt _ (Jbh (by rw [hx, Jcm]; exact hkt)); rw [<- Zu h10]; show ((en p m (row (es1 p m v k r S.pv.length S).X t) k : Nat) : Int) = 0; rw [h9]; rfl
    .rw [hx]; exact Jak (by rw [Jcm]; exact hkt)
  have hpv : (es1 p m v k r S.pv.length S).pv = S.pv ++ [(k : Int)] := rfl; refine ⟨fun i hi t ht => ?_, fun t ht1 ht2 c hck => ?_, fun i hi c hci => ?_⟩
  .rw [hn] at ht; rw [hpv, List.length_append, List.length_singleton] at hi; rw [hpv, Jal]; by_cases e : i < S.pv.length
   .rw [if_pos e, hold t ht _ (by have := hA.1 i e; omega)]; exact h.one i e t ht
   .have e2 : i = S.pv.length := by omega
    rw [if_neg e, if_pos e2, e2]; exact hnew t ht
  .rw [hn] at ht2; rw [hpv, List.length_append, List.length_singleton] at ht1; rcases Nat.lt_or_ge c k with h6 | h6
   .rw [hold t ht2 c h6]; exact h.lo t (by omega) ht2 c h6
   .rw [show c = k by omega, hnew t ht2, if_neg (by omega)]
  .rw [hpv, List.length_append, List.length_singleton] at hi; rw [hpv, Jal] at hci; by_cases e : i < S.pv.length
   .rw [if_pos e] at hci; rw [hold i (by omega) c (by have := hA.1 i e; omega)]; exact h.lf i e c hci
   .have e2 : i = S.pv.length := by omega
    rw [if_neg e, if_pos e2] at hci; rw [hold i (by omega) c (by omega), e2]; exact h.lo _ (Nat.le_refl _) hc c (by omega)
theorem Jgw (K : Gn (p ^ m) (Jr p m (dv p v)) g) (hF : FV P M mf p m v) {n wy : Nat} {S : ES} (hS : Shp n w wy S) (he : Els p m S.X) (h0 : S.pv = []) : ∀ k, Red k (elim p m v k S)
 | 0 => ⟨fun i hi => by
   have : (elim p m v 0 S).pv = [] := h0; rw [this] at hi; exact absurd hi (Nat.not_lt_zero _), fun t _ _ c hc => absurd hc (Nat.not_lt_zero _), fun i hi => by
   have : (elim p m v 0 S).pv = [] := h0; rw [this] at hi; exact absurd hi (Nat.not_lt_zero _)⟩
 | k + 1 => by
  rw [Qy]; have hk := YW (p := p) (m := m) (v := v) hS k; exact Jpc K hF (Jdo h0 k) (by have := hk.pl; have := hk.xl; omega) (Jay (by have := hF.p2; omega) he k) (Jgw K hF hS he h0 k)
end
end Go.Proofs.Ytjgpkljepgcekaa
namespace Go.Proofs.Ytjgpkljepgcekaa
section
variable {p m v g : Nat} {P M : Int} {mf : LI} {X Y : LL} {C : Int} {w : Nat}
def fs (p m : Nat) (f : Nat -> Nat) : Nat -> Nat
  | 0 => 0
  | n + 1 => JN p m (fs p m f n) (f n)
theorem Jb4 (hF : FV P M mf p m v) (f : Nat -> Nat) : ∀ n, fs p m f n < p ^ m
 | 0 => by have := hF.ring.q2; show 0 < _; omega
 | n + 1 => hF.ring.Al _ _
theorem fs_cg {f h : Nat -> Nat} : ∀ n, (∀ i, i < n -> f i = h i) -> fs p m f n = fs p m h n
 | 0, _ => rfl
 | n + 1, e => by show JN p m _ _ = JN p m _ _; rw [fs_cg n fun i hi => e i (by omega), e n (by omega)]
theorem mix (hF : FV P M mf p m v) {a b c d : Nat} (ha : a < p ^ m) (hb : b < p ^ m) (hc : c < p ^ m) (hd : d < p ^ m) : JN p m (JN p m a b) (JN p m c d) = JN p m (JN p m a c) (JN p m b d) := by
 have R := hF.ring; rw [R.Aa ha hb (R.Al _ _), <- R.Aa hb hc hd, R.Ac b c, R.Aa hc hb hd, <- R.Aa ha hc (R.Al _ _)]
theorem Jjx (hF : FV P M mf p m v) {f h : Nat -> Nat} {x : Nat} (hf : ∀ i, f i < p ^ m) (hh : ∀ i, h i < p ^ m) (hx : x < p ^ m) : ∀ n, fs p m (fun i => JN p m (f i) (Jr p m (dv p v) x (h i))) n = JN p m (fs p m f n) (Jr p m (dv p v) x (fs p m h n))
 | 0 => by
  have R := hF.ring; show 0 = JN p m 0 (Jr p m (dv p v) x 0); rw [R.M0 hx, R.Az (by have := R.q2; omega)]
 | n + 1 => by
  have R := hF.ring; show JN p m (fs p m _ n) _ = JN p m (JN p m _ _) (Jr p m (dv p v) x (JN p m _ _)); rw [Jjx hF hf hh hx n, R.Md hx (Jb4 hF h n) (hh n), mix hF (Jb4 hF f n) (R.Ml _ _) (hf n) (R.Ml _ _)]
theorem fs_ml (hF : FV P M mf p m v) {f : Nat -> Nat} {x : Nat} (hf : ∀ i, f i < p ^ m) (hx : x < p ^ m) : ∀ n, fs p m (fun i => Jr p m (dv p v) x (f i)) n = Jr p m (dv p v) x (fs p m f n)
 | 0 => by show 0 = Jr p m (dv p v) x 0; rw [hF.ring.M0 hx]
 | n + 1 => by
  show JN p m (fs p m _ n) _ = Jr p m (dv p v) x (JN p m _ _); rw [fs_ml hF hf hx n, hF.ring.Md hx (Jb4 hF f n) (hf n)]
theorem Jcj (hF : FV P M mf p m v) {f : Nat -> Nat} : ∀ n, (∀ i, i < n -> f i = 0) -> fs p m f n = 0
 | 0, _ => rfl
 | n + 1, h => by
  show JN p m (fs p m f n) (f n) = 0; rw [Jcj hF n fun i hi => h i (by omega), h n (by omega), hF.ring.Az (by have := hF.ring.q2; omega)]
theorem Jjw (hF : FV P M mf p m v) {f : Nat -> Nat} {j : Nat} (hj : f j < p ^ m) : ∀ n, j < n -> (∀ i, i < n -> i ≠ j -> f i = 0) -> fs p m f n = f j
 | 0, h, _ => absurd h (Nat.not_lt_zero _)
 | n + 1, h, e => by
  have R := hF.ring; show JN p m (fs p m f n) (f n) = f j; by_cases en : n = j
  .subst en; rw [Jcj hF n fun i hi => e i (by omega) (by omega), R.Ac, R.Az hj]
  .rw [Jjw hF hj n (by omega) fun i hi => e i (by omega), e n (by omega) en, R.Az hj]
def cof (p m v c r : Nat) (pv : Nat -> Nat) (nR : Nat -> Nat) (a : Nat -> Nat) : Nat := JN p m (a c) (fs p m (fun i => Jr p m (dv p v) (nR i) (a (pv i))) r)
theorem Jtb (hF : FV P M mf p m v) {c r : Nat} {pv nR : Nat -> Nat} (hc : c < w) (hpv : ∀ i, i < r -> pv i < w) (hn : ∀ i, nR i < p ^ m) : Lin p m v w (cof p m v c r pv nR) where
 lt a := hF.ring.Al _ _
 cg h := by
  unfold cof; rw [h c hc, fs_cg r fun i hi => by rw [h _ (hpv i hi)]]
 ad {a b x} ha hb hx := by
  have R := hF.ring; unfold cof; have e : (fun i => Jr p m (dv p v) (nR i) (JN p m (a (pv i)) (Jr p m (dv p v) x (b (pv i))))) = fun i => JN p m (Jr p m (dv p v) (nR i) (a (pv i))) (Jr p m (dv p v) x (Jr p m (dv p v) (nR i) (b (pv i)))) := funext fun i => by
   rw [R.Md (hn i) (ha _) (R.Ml _ _), <- R.Ma (hn i) hx (hb _), R.Mc (hn i) hx, R.Ma hx (hn i) (hb _)]
  rw [e, Jjx hF (fun i => R.Ml _ _) (fun i => R.Ml _ _) hx, mix hF (ha c) (R.Ml _ _) (Jb4 hF _ _) (R.Ml _ _), <- R.Md hx (hb c) (Jb4 hF _ _)]
 ml {a x} ha hx := by
  have R := hF.ring; unfold cof; have e : (fun i => Jr p m (dv p v) (nR i) (Jr p m (dv p v) x (a (pv i)))) = fun i => Jr p m (dv p v) x (Jr p m (dv p v) (nR i) (a (pv i))) := funext fun i => by
   rw [<- R.Ma (hn i) hx (ha _), R.Mc (hn i) hx, R.Ma hx (hn i) (ha _)]
  rw [e, fs_ml hF (fun i => R.Ml _ _) hx, <- R.Md hx (ha c) (Jb4 hF _ _)]
theorem Jp6 (hF : FV P M mf p m v) : ∃ g, Gn (p ^ m) (Jr p m (dv p v)) g := hF.gen
end
end Go.Proofs.Ytjgpkljepgcekaa
namespace Go.Proofs.Ytjgpkljepgcekaa
section
variable {p m v g : Nat} {P M : Int} {mf : LI} {X Y : LL} {C : Int} {w : Nat}
theorem Jax (hF : FV P M mf p m v) {l : LI} {c : Nat} {z : Nat} (hz : z < p ^ m) (h : vo l c = (z : Int)) : en p m l c = z := by unfold en; rw [h]; exact Qk hz
theorem Jf5 (hF : FV P M mf p m v) (hs : shp C X) (he : Els p m X) : Red C.toNat (ec p m v C X) := by
 obtain ⟨g, G⟩ := Jp6 hF; exact Jgw G hF (Jao hs) he rfl _
theorem Jqh (hF : FV P M mf p m v) {x : LI} {n c : Nat} {Z : LL} (hc : c < n) : ∀ k, en p m (cmb p m v x n Z k) c = fs p m (fun i => Jr p m (dv p v) (inE (p ^ m) (vo x i)) (en p m (row Z i) c)) k
 | 0 => by
  show en p m (List.replicate n 0) c = 0; exact Jax hF (by have := hF.ring.q2; omega) (Jir n c)
 | k + 1 => by
  rw [Ja1, Jj1 hF (by rw [Ja2]; exact hc), Jqh hF hc k]; rfl
theorem Jf3 (hF : FV P M mf p m v) {x : LI} {n : Nat} {Z : LL} : ∀ k, Elr p m (cmb p m v x n Z k)
 | 0 => Jj2 fun t ht => by
  have : vo (cmb p m v x n Z 0) t = 0 := Jir n t; rw [this]; exact Jj3 (q := 0) (by have := hF.ring.q2; omega)
 | k + 1 => by rw [Ja1]; exact Jl4 (by have := hF.p2; omega) (Jf3 hF k)
theorem Jdv (hF : FV P M mf p m v) (he : Els p m X) : Els p m (J8 p m v C X) := fun r hr => Jay (S := ⟨X, List.replicate X.length [], [], 1⟩) (by have := hF.p2; omega) he C.toNat r (List.mem_of_mem_take hr)
theorem Ja3 (hF : FV P M mf p m v) (hs : shp C X) (he : Els p m X) {i t : Nat} (hi : i < (JS p m v C X).length) (ht : t < (JS p m v C X).length) : vo (row (J8 p m v C X) t) (vo (JS p m v C X) i).toNat = if t = i then 1 else 0 := by
 have hS := Z6 (p := p) (m := m) (v := v) hs; have := Jh6 (p := p) (m := m) (v := v) hs; rw [show row (J8 p m v C X) t = row (ec p m v C X).X t from Zo ht]; exact (Jf5 hF hs he).one i hi t (by have := hS.xl; omega)
theorem Jdt (hF : FV P M mf p m v) (hs : shp C X) (he : Els p m X) {i c : Nat} (hi : i < (JS p m v C X).length) (hc : (c : Int) < vo (JS p m v C X) i) : vo (row (J8 p m v C X) i) c = 0 := by
 rw [show row (J8 p m v C X) i = row (ec p m v C X).X i from Zo hi]; exact (Jf5 hF hs he).lf i hi c hc
end
end Go.Proofs.Ytjgpkljepgcekaa
namespace Go.Proofs.Ytjgpkljepgcekaa
end Go.Proofs.Ytjgpkljepgcekaa
namespace Go.Proofs.Ytjgpkljepgcekaa
section
variable {p m v : Nat} {P M : Int} {mf : LI} {X Y : LL} {C : Int} {w : Nat}
theorem Jqt {f : (Nat -> Nat) -> Nat} {r cur : Nat} (hr : r < X.length) (hc : cur < X.length) (h : Ann p m f X) : Ann p m f (swq X r cur) := fun t ht => by
  rw [JO] at ht
  rw [Y7 hr hc]
  split
  . exact h r hr
  . split
    . exact h cur hc
    . exact h t ht
theorem Jqv {f : (Nat -> Nat) -> Nat} (L : Lin p m v w f) (hF : FV P M mf p m v) {cur : Nat} {e : Int} (hc : cur < X.length) (hw : (row X cur).length = w) (h : Ann p m f X) : Ann p m f (scq p m v X cur e) := fun t ht => by
 rw [Qg] at ht; rw [Jfa hc]; split
 .rw [L.sc hF hw, h cur hc, hF.ring.M0 (J7 (by have := hF.ring.q2; omega) _)]
 .exact h t ht
theorem Jqw {f : (Nat -> Nat) -> Nat} (L : Lin p m v w f) (hF : FV P M mf p m v) {cur : Nat} {g : Nat -> Int} (hc : cur < X.length) (hw : ∀ t, t < X.length -> (row X t).length = w) (h : Ann p m f X) : Ann p m f (clr p m v g cur X) := fun t ht => by
 have R := hF.ring; have hq : 0 < p ^ m := by have := R.q2; omega
 rw [Yr] at ht; rw [YE ht]; split
 .exact h t ht
 .rw [L.adx hF (hw t ht), h cur hc, h t ht, R.M0 (J7 hq _), R.Az hq]
theorem Jn2 (hF : FV P M mf p m v) {f : (Nat -> Nat) -> Nat} (L : Lin p m v w f) {S : ES} {c : Nat} (hw : ∀ t, t < S.X.length -> (row S.X t).length = w) (h : Ann p m f S.X) : Ann p m f (Q0 p m v S c).X := by
 unfold Q0; split
 .rename_i h1
  obtain ⟨hc, hr⟩ := h1; rw [Jaw]; have hw1 : ∀ t, t < (swq S.X (nz S.X c S.pv.length) S.pv.length).length -> (row (swq S.X (nz S.X c S.pv.length) S.pv.length) t).length = w := fun t ht => by
   rw [JO] at ht; exact QK hr hc hw ht
  exact Jqw L hF (by rw [Qg, JO]; exact hc) (fun t ht => by rw [Qg] at ht; exact QL (by rw [JO]; exact hc) hw1 ht) (Jqv L hF (by rw [JO]; exact hc) (hw1 _ (by rw [JO]; exact hc)) (Jqt hr hc h))
 .exact h
theorem Jet (hF : FV P M mf p m v) {f : (Nat -> Nat) -> Nat} (L : Lin p m v w f) {n wy : Nat} {S : ES} (hS : Shp n w wy S) (h : Ann p m f S.X) : ∀ k, Ann p m f (elim p m v k S).X
 | 0 => h
 | k + 1 => by
  rw [Qy]; have hk := YW (p := p) (m := m) (v := v) hS k; exact Jn2 hF L (fun t ht => hk.xr t (by have := hk.xl; omega)) (Jet hF L hS h k)
theorem Jcl (hF : FV P M mf p m v) (hs : shp C X) (he : Els p m X) {f : (Nat -> Nat) -> Nat} (L : Lin p m v C.toNat f) : Ann p m f (J8 p m v C X) ↔ Ann p m f X := by
  have R := hF.ring
  have hq : 0 < p ^ m := by have := R.q2; omega
  obtain ⟨g, G⟩ := Jp6 hF
  have hS := Z6 (p := p) (m := m) (v := v) hs
  have red := Jf5 hF hs he
  have hl := Yc (p := p) (m := m) (v := v) hs
  have hpl := Jh6 (p := p) (m := m) (v := v) hs
  have f0 : ∀ a : Nat -> Nat, (∀ c, c < C.toNat -> a c = 0) -> f a = 0 := fun a ha => by
    have h1 := L.ml (a := fun _ => 0) (x := 0) (fun _ => hq) hq
    rw [R.Mc hq (L.lt _), R.M0 (L.lt _)] at h1
    rw [<- h1]
    exact L.cg fun c hc => by rw [ha c hc, R.M0 hq]
  refine ⟨fun h => Jh8 G hF L (Jao hs) he C.toNat fun t ht => ?_, fun h t ht => ?_⟩
  . by_cases hr : t < (JS p m v C X).length
    . have := h t (by omega)
      rwa [show row (J8 p m v C X) t = row (ec p m v C X).X t from Zo hr] at this
    . exact f0 _ fun c hc => Jax hF hq (red.lo t (by show (JS p m v C X).length <= t; omega) ht c hc)
  . rw [show row (J8 p m v C X) t = row (ec p m v C X).X t from Zo (by show t < (JS p m v C X).length; omega)]
    exact Jet hF L (Jao hs) h C.toNat t (by have := hS.xl; show t < (ec p m v C X).X.length; omega)
end
end Go.Proofs.Ytjgpkljepgcekaa
namespace Go.Proofs.Ytjgpkljepgcekaa
section
variable {p m v : Nat} {P M : Int} {mf : LI} {X Y : LL} {C : Int} {w : Nat}
end
end Go.Proofs.Ytjgpkljepgcekaa
namespace Go.Proofs.Ytjgpkljepgcekaa
section
variable {p m v : Nat} {P M : Int} {mf : LI} {X Y : LL} {C : Int} {w : Nat}
end
end Go.Proofs.Ytjgpkljepgcekaa
namespace Go.Proofs.Ytjgpkljepgcekaa
section
variable {p m v : Nat} {P M : Int} {mf : LI} {X Y : LL} {C : Int} {w : Nat}
end
end Go.Proofs.Ytjgpkljepgcekaa
namespace Go.Proofs.Ytjgpkljepgcekaa
section
variable {p m v : Nat} {P M : Int} {mf : LI} {X Y : LL} {C : Int} {w wy : Nat}
def e2 (p m w : Nat) (a b : LI) : Nat -> Nat := fun c => if c < w then en p m a c else en p m b (c - w)
end
end Go.Proofs.Ytjgpkljepgcekaa
namespace Go.Proofs.Ytjgpkljepgcekaa
section
variable {p m v : Nat} {P M : Int} {mf : LI} {X Y : LL} {C : Int} {w wy : Nat}
def u1 (p m w : Nat) (u : Nat -> Nat) : Nat -> Nat := fun c => if c < w then u c else Yp p m 1
end
end Go.Proofs.Ytjgpkljepgcekaa
namespace Go.Proofs.Ytjgpkljepgcekaa
end Go.Proofs.Ytjgpkljepgcekaa
namespace Go.Proofs.Ytjgpkljepgcekaa
section
variable {p m v : Nat} {P M : Int} {mf : LI} {X Y : LL} {C D : Int} {w wy : Nat}
def mm (p m v w : Nat) (A B : LL) : LL := (List.range A.length).map fun t => cmb p m v (row A t) w B B.length
theorem Jst {A B : LL} (hl : A.length = B.length) (ha : Els p m A) (hb : Els p m B) (hw : ∀ t, t < A.length -> (row A t).length = w /\ (row B t).length = w) (h : ∀ t c, t < A.length -> c < w -> en p m (row A t) c = en p m (row B t) c) : A = B :=
  Yo hl fun t ht => Yu (by rw [(hw t ht).1, (hw t ht).2]) fun c hc => by
    rw [(hw t ht).1] at hc
    have e := h t c ht hc
    have e1 := Zu (Z5 (Qx ha t) (t := c) (by rw [(hw t ht).1]; exact hc))
    have e2 := Zu (Z5 (Qx hb t) (t := c) (by rw [(hw t ht).2]; exact hc))
    unfold en at e
    rw [<- e1, <- e2, e]
def tr (n : Nat) (A : LL) : LL := (List.range n).map fun c => (List.range A.length).map fun t => vo (row A t) c
theorem tr_len (n : Nat) (A : LL) : (tr n A).length = n := by simp [tr]
theorem Ji1 {n c : Nat} {A : LL} (h : c < n) : row (tr n A) c = (List.range A.length).map fun t => vo (row A t) c := Jcf h
theorem Jiu {n c : Nat} {A : LL} (h : c < n) : (row (tr n A) c).length = A.length := by rw [Ji1 h]; simp
end
end Go.Proofs.Ytjgpkljepgcekaa
namespace Go.Proofs.Ytjgpkljepgcekaa
section
variable {P M : Int} {mf : LI} {X : LL} {C : Int}
end
end Go.Proofs.Ytjgpkljepgcekaa
namespace Go.Proofs.Ytjgpkljepgcekaa
section
variable {p m v : Nat} {P M : Int} {mf : LI} {X Y : LL} {C D : Int} {w wy : Nat}
theorem Jqs {n k : Nat} {a b : LI} (ha : Asc n a) (hb : Asc n b) (h1 : ∀ i, i < a.length -> ∃ j, j < b.length /\ vo b j = vo a i) (h2 : ∀ j, j < b.length -> ∃ i, i < a.length /\ vo a i = vo b j) : ∀ k, k < a.length -> k < b.length /\ vo a k = vo b k := by
  intro k
  induction k using Nat.strongRecOn with
  | ind k ih =>
    intro hk
    obtain ⟨j, hj, e⟩ := h1 k hk
    have hjk : k <= j := by
      rcases Nat.lt_or_ge j k with h | h
      . have h3 := (ih j h (by omega)).2
        have h4 := ha.2 j k h hk
        omega
      . exact h
    have hkb : k < b.length := by omega
    refine ⟨hkb, ?_⟩
    obtain ⟨i, hi, e2⟩ := h2 k hkb
    rcases Nat.lt_trichotomy i k with h | h | h
    . have h3 := (ih i h hi).2
      have h4 := hb.2 i k h hkb
      omega
    . rw [<- e2, h]
    . have h3 := ha.2 k i h hi
      rcases Nat.lt_or_ge k j with h5 | h5
      . have := hb.2 k j h5 hj; omega
      . rw [show k = j by omega] at e2 ⊢; omega
theorem Jqr {n : Nat} {a b : LI} (ha : Asc n a) (hb : Asc n b) (h1 : ∀ i, i < a.length -> ∃ j, j < b.length /\ vo b j = vo a i) (h2 : ∀ j, j < b.length -> ∃ i, i < a.length /\ vo a i = vo b j) : a = b := by
 have k1 := Jqs (k := 0) ha hb h1 h2; have k2 := Jqs (k := 0) hb ha h2 h1; refine Yu ?_ fun i hi => (k1 i hi).2; rcases Nat.lt_trichotomy a.length b.length with h | h | h
 .have := (k2 a.length h).1; omega
 .exact h
 .have := (k1 b.length h).1; omega
theorem Jlz (hF : FV P M mf p m v) (hs : shp C X) (he : Els p m X) {a : Nat -> Nat} (ha : ∀ c, a c < p ^ m) (hA : ∀ f, Lin p m v C.toNat f -> Ann p m f (J8 p m v C X) -> f a = 0) {c : Nat} (hc : c < C.toNat) :
    a c = fs p m (fun i => Jr p m (dv p v) (a (vo (JS p m v C X) i).toNat) (en p m (row (J8 p m v C X) i) c)) (JS p m v C X).length := by
  have R := hF.ring
  have q1 : 1 < p ^ m := R.q2
  have hp : 0 < p := by have := hF.p2; omega
  have hasc := Yy (p := p) (m := m) (v := v) C X
  have hcl := Yc (p := p) (m := m) (v := v) hs
  have hneg : ∀ y, y < p ^ m -> Yp p m y < p ^ m := fun y _ => Jck hp y
  have L := Jtb (w := C.toNat) hF (c := c) (r := (JS p m v C X).length) (pv := fun i => (vo (JS p m v C X) i).toNat) (nR := fun i => Yp p m (en p m (row (J8 p m v C X) i) c)) hc (fun i hi => by have := hasc.1 i hi; show (vo (JS p m v C X) i).toNat < _; omega) (fun i => hneg _ (Q1 hF _ _))
  have hann := hA _ L (fun s hsl => by
    show cof _ _ _ _ _ _ _ (en p m (row (J8 p m v C X) s)) = 0
    unfold cof
    have hsr : s < (JS p m v C X).length := by omega
    have hd : ∀ i, i < (JS p m v C X).length -> en p m (row (J8 p m v C X) s) (vo (JS p m v C X) i).toNat = if s = i then 1 else 0 := fun i hi => by
      have := Ja3 hF hs he hi hsr
      by_cases e : s = i
      . rw [if_pos e] at this ⊢; exact Jax hF q1 this
      . rw [if_neg e] at this ⊢; exact Jax hF (by omega) this
    have h9 := Jjw hF (f := fun i => Jr p m (dv p v) (Yp p m (en p m (row (J8 p m v C X) i) c)) (en p m (row (J8 p m v C X) s) (vo (JS p m v C X) i).toNat)) (j := s) (R.Ml _ _) _ hsr fun i hi hne => by
      show Jr p m (dv p v) _ _ = 0
      rw [hd i hi, if_neg (fun e => hne e.symm), R.M0 (hneg _ (Q1 hF _ _))]
    show JN p m _ (fs p m (fun i => Jr p m (dv p v) (Yp p m (en p m (row (J8 p m v C X) i) c)) (en p m (row (J8 p m v C X) s) (vo (JS p m v C X) i).toNat)) (JS p m v C X).length) = 0
    rw [h9]
    show JN p m _ (Jr p m (dv p v) _ _) = 0
    rw [hd s hsr, if_pos rfl, R.M1 (hneg _ (Q1 hF _ _))]
    exact Zx hp (Q1 hF _ _))
  unfold cof at hann
  have hG := Jb4 hF (fun i => Jr p m (dv p v) (a (vo (JS p m v C X) i).toNat) (en p m (row (J8 p m v C X) i) c)) (JS p m v C X).length
  have hN := Jb4 hF (fun i => Jr p m (dv p v) (Yp p m (en p m (row (J8 p m v C X) i) c)) (a (vo (JS p m v C X) i).toNat)) (JS p m v C X).length
  have hGN : JN p m (fs p m (fun i => Jr p m (dv p v) (a (vo (JS p m v C X) i).toNat) (en p m (row (J8 p m v C X) i) c)) (JS p m v C X).length) (fs p m (fun i => Jr p m (dv p v) (Yp p m (en p m (row (J8 p m v C X) i) c)) (a (vo (JS p m v C X) i).toNat)) (JS p m v C X).length) = 0 := by
    have h1 := Jjx hF (f := fun i => Jr p m (dv p v) (a (vo (JS p m v C X) i).toNat) (en p m (row (J8 p m v C X) i) c)) (h := fun i => Jr p m (dv p v) (Yp p m (en p m (row (J8 p m v C X) i) c)) (a (vo (JS p m v C X) i).toNat)) (x := 1) (fun i => R.Ml _ _) (fun i => R.Ml _ _) q1 (JS p m v C X).length
    rw [R.Mc q1 hN, R.M1 hN] at h1
    rw [<- h1]
    refine Jcj hF _ fun i hi => ?_
    show JN p m (Jr p m (dv p v) _ _) (Jr p m (dv p v) 1 (Jr p m (dv p v) _ _)) = 0
    have ha' := ha (vo (JS p m v C X) i).toNat
    have hb := Q1 hF (row (J8 p m v C X) i) c
    rw [R.Mc q1 (R.Ml _ _), R.M1 (R.Ml _ _), R.Mc (hneg _ hb) ha', <- R.Md ha' hb (hneg _ hb), Zx hp hb, R.M0 ha']
  have hx := ha c
  generalize fs p m (fun i => Jr p m (dv p v) (a (vo (JS p m v C X) i).toNat) (en p m (row (J8 p m v C X) i) c)) (JS p m v C X).length = G1 at *
  generalize fs p m (fun i => Jr p m (dv p v) (Yp p m (en p m (row (J8 p m v C X) i) c)) (a (vo (JS p m v C X) i).toNat)) (JS p m v C X).length = N1 at *
  generalize a c = b at *
  calc b = JN p m b (JN p m G1 N1) := by rw [hGN, R.Az hx]
    _ = JN p m G1 (JN p m b N1) := by rw [<- R.Aa hx hG hN, R.Ac b G1, R.Aa hG hx hN]
    _ = G1 := by rw [hann, R.Az hG]
theorem Jpk (hF : FV P M mf p m v) (hX : shp C X) (eX : Els p m X) (hY : shp C Y) (eY : Els p m Y) (h : ∀ f, Lin p m v C.toNat f -> Ann p m f Y -> Ann p m f X) : ∀ t, t < (JS p m v C X).length -> ∃ j, j < (JS p m v C Y).length /\ vo (JS p m v C Y) j = vo (JS p m v C X) t := by
  intro t ht
  have R := hF.ring
  have q1 : 1 < p ^ m := R.q2
  have hq : 0 < p ^ m := by omega
  have pX := Yy (p := p) (m := m) (v := v) C X
  have pY := Yy (p := p) (m := m) (v := v) C Y
  have lX := Yc (p := p) (m := m) (v := v) hX
  have hk := fun f (L : Lin p m v C.toNat f) (h1 : Ann p m f (J8 p m v C Y)) => (Jcl hF hX eX L).2 (h f L ((Jcl hF hY eY L).1 h1)) t (by omega)
  have ht' := pX.1 t ht
  have hc := Jlz hF hY eY (a := en p m (row (J8 p m v C X) t)) (fun c => Q1 hF _ c) hk (c := (vo (JS p m v C X) t).toNat) (by omega)
  have hu := Ja3 hF hX eX (i := t) (t := t) ht ht
  rw [if_pos rfl] at hu
  rw [Jax hF (z := 1) q1 hu] at hc
  refine Classical.byContradiction fun hno => ?_
  rw [Jcj hF _ fun i hi => ?_] at hc
  . omega
  show Jr p m (dv p v) (en p m (row (J8 p m v C X) t) (vo (JS p m v C Y) i).toNat) (en p m (row (J8 p m v C Y) i) (vo (JS p m v C X) t).toNat) = 0
  have hi' := pY.1 i hi
  rcases Int.lt_trichotomy (vo (JS p m v C Y) i) (vo (JS p m v C X) t) with h1 | h1 | h1
  . rw [Jax hF (z := 0) hq (Jdt hF hX eX ht (c := (vo (JS p m v C Y) i).toNat) (by omega)), R.Mc hq (Q1 hF _ _), R.M0 (Q1 hF _ _)]
  . exact absurd ⟨i, hi, h1⟩ hno
  . rw [Jax hF (z := 0) hq (Jdt hF hY eY hi (c := (vo (JS p m v C X) t).toNat) (by omega)), R.M0 (Q1 hF _ _)]
theorem Jqj (hF : FV P M mf p m v) (hX : shp C X) (eX : Els p m X) (hY : shp C Y) (eY : Els p m Y) (h : ∀ f, Lin p m v C.toNat f -> (Ann p m f X ↔ Ann p m f Y)) : JS p m v C X = JS p m v C Y /\ J8 p m v C X = J8 p m v C Y := by
 have R := hF.ring; have q1 : 1 < p ^ m := R.q2; have hq : 0 < p ^ m := by omega
 have pX := Yy (p := p) (m := m) (v := v) C X; have pY := Yy (p := p) (m := m) (v := v) C Y; have lX := Yc (p := p) (m := m) (v := v) hX; have lY := Yc (p := p) (m := m) (v := v) hY; have sX := Jdu (p := p) (m := m) (v := v) hX; have sY := Jdu (p := p) (m := m) (v := v) hY; have e : JS p m v C X = JS p m v C Y := Jqr pX pY (Jpk hF hX eX hY eY fun f L => (h f L).2) (Jpk hF hY eY hX eX fun f L => (h f L).1); refine ⟨e, Jst (w := C.toNat) (by rw [lX, lY, e]) (Jdv hF eX) (Jdv hF eY) (fun t ht => ⟨Y6 sX ht, Y6 sY (by rw [lY, <- e, <- lX]; exact ht)⟩) fun t c ht hc => ?_⟩; have ht' : t < (JS p m v C Y).length := by rw [<- e, <- lX]; exact ht
 have hk := fun f (L : Lin p m v C.toNat f) (h1 : Ann p m f (J8 p m v C Y)) => (Jcl hF hX eX L).2 ((h f L).2 ((Jcl hF hY eY L).1 h1)) t ht; have hc' := Jlz hF hY eY (a := en p m (row (J8 p m v C X) t)) (fun c => Q1 hF _ c) hk (c := c) hc; rw [hc']; have hd : ∀ i, i < (JS p m v C Y).length -> en p m (row (J8 p m v C X) t) (vo (JS p m v C Y) i).toNat = if t = i then 1 else 0 := fun i hi => by
  have := Ja3 hF hX eX (i := i) (t := t) (by rw [e]; exact hi) (by rw [e]; exact ht'); rw [e] at this; by_cases e' : t = i
  .rw [if_pos e'] at this ⊢; exact Jax hF q1 this
  .rw [if_neg e'] at this ⊢; exact Jax hF hq this
 rw [Jjw hF (f := fun i => Jr p m (dv p v) (en p m (row (J8 p m v C X) t) (vo (JS p m v C Y) i).toNat) (en p m (row (J8 p m v C Y) i) c)) (j := t) (R.Ml _ _) _ ht' fun i hi hne => by
  show Jr p m (dv p v) _ _ = 0; rw [hd i hi, if_neg (fun q => hne q.symm), R.Mc hq (Q1 hF _ _), R.M0 (Q1 hF _ _)]]
 show Jr p m (dv p v) _ _ = _; rw [hd t ht', if_pos rfl, R.Mc q1 (Q1 hF _ _), R.M1 (Q1 hF _ _)]
end
end Go.Proofs.Ytjgpkljepgcekaa
namespace Go.Proofs.Ytjgpkljepgcekaa
section
variable {p m v : Nat} {P M : Int} {mf : LI} {X Y : LL} {C D : Int} {w wy : Nat}
end
end Go.Proofs.Ytjgpkljepgcekaa
namespace Go.Proofs.Ytjgpkljepgcekaa
/-! ### canonical matrices -/
variable {P M : Int} {mf : LI} {p m v : Nat} {C : Int} {X Y : LL}
/-- The rows are canonical; q: the columns of their first entries. -/
structure Cnl (C : Nat) (X : LL) (q : Nat -> Nat) : Prop where
  lt : ∀ i, i < X.length -> q i < C
  one : ∀ i, i < X.length -> ∀ t, t < X.length -> vo (row X t) (q i) = if t = i then 1 else 0
  lf : ∀ i, i < X.length -> ∀ c, c < q i -> vo (row X i) c = 0
  asc : ∀ i j, i < j -> j < X.length -> q i < q j
def IsCn (C : Int) (X : LL) : Prop := ∃ q, Cnl C.toNat X q
theorem Jqy (a o : LI) : adx p m v a 0 o = a := by unfold adx; rw [if_pos rfl]
theorem ng_0 (hF : FV P M mf p m v) : Ng p m 0 = 0 := (Jsq hF ⟨by omega, by
 have := hF.ring.q2; have h : (0 : Int) < ((p ^ m : Nat) : Int) := by exact_mod_cast (by omega : 0 < p ^ m)
 exact h⟩).2 rfl
theorem Js8 (hF : FV P M mf p m v) {S : ES} {k : Nat} (he : Els p m S.X) (hj : S.pv.length < S.X.length) (h1 : ∀ t, t < S.X.length -> vo (row S.X t) k = if t = S.pv.length then 1 else 0) : (es1 p m v k S.pv.length S.pv.length S).X = S.X := by
 rw [Jaw]; have e1 : swq S.X S.pv.length S.pv.length = S.X := by unfold swq; rw [if_pos rfl]
 rw [e1]; have e2 : scq p m v S.X S.pv.length (vo (row S.X S.pv.length) k) = S.X := by
  unfold scq; rw [h1 _ hj, if_pos rfl, iv_one hF, sc_one hF (Qx he _)]; refine Yo (by simp) fun i hi => ?_; rw [Yn]; split
  .rename_i h; rw [h.1]
  .rfl
 rw [e2]; refine Yo (by rw [Yr]) fun i hi => ?_; rw [Yr] at hi; rw [YE hi]; split
 .rfl
 .rename_i hne
  rw [h1 i hi, if_neg hne, ng_0 hF, Jqy]
theorem Jho (hF : FV P M mf p m v) {q : Nat -> Nat} {w wy : Nat} {Y : LL} {d : Int} (hq : Cnl w X q) (he : Els p m X) : ∀ k, k <= w -> (elim p m v k ⟨X, Y, [], d⟩).X = X /\ ∃ j, j <= X.length /\ (∀ i, i < j -> q i < k) /\ (∀ i, j <= i -> i < X.length -> k <= q i) /\ (elim p m v k ⟨X, Y, [], d⟩).pv = (List.range j).map fun i => ((q i : Nat) : Int)
 | 0, _ => ⟨rfl, 0, Nat.zero_le _, fun i h => absurd h (Nat.not_lt_zero i), fun i _ _ => Nat.zero_le _, rfl⟩
 | k + 1, hk => by
  obtain ⟨h1, j, hj, h2, h3, h4⟩ := Jho hF (Y := Y) (d := d) (wy := wy) hq he k (by omega); rw [Qy]; generalize elim p m v k ⟨X, Y, [], d⟩ = S at h1 h4 ⊢; have hl : S.pv.length = j := by rw [h4]; simp
  unfold Q0; rw [hl, h1]; by_cases hjn : j < X.length
  .by_cases hqk : q j = k
   .have hn : nz X k j = j := (Jps (Nat.le_refl _) hj (fun t a b => by omega) (fun hh => by
     have := hq.one j hh j hh; rw [hqk, if_pos rfl] at this; rw [this]; decide)).symm
    rw [hn, if_pos ⟨hjn, hjn⟩]; have e := Js8 (k := k) hF (S := S) (by rw [h1]; exact he) (by rw [hl, h1]; exact hjn) (fun t ht => by
     rw [h1] at ht ⊢; rw [hl, <- hqk]; exact hq.one j hjn t ht)
    rw [hl] at e; refine ⟨e.trans h1, j + 1, hjn, fun i hi => ?_, fun i a b => ?_, ?_⟩
    .rcases Nat.lt_or_ge i j with h | h
     .have := h2 i h; omega
     .have : i = j := by omega
      subst this; omega
    .have := hq.asc j i (by omega) b; omega
    .show S.pv ++ [(k : Int)] = _; rw [h4, List.range_succ, List.map_append, List.map_cons, List.map_nil, hqk]
   .have hlt : k < q j := by have := h3 j (Nat.le_refl _) hjn; omega
    have hz : ∀ t, j <= t -> t < X.length -> vo (row X t) k = 0 := fun t a b => hq.lf t b k (by
     rcases Nat.lt_or_ge j t with h | h
     .have := hq.asc j t h b; omega
     .have : t = j := by omega
      subst this; exact hlt)
    have hn : ¬ nz X k j < X.length := fun hh => (ZF X k j hj).2.2 hh (hz _ (Jpr X k j) hh); rw [if_neg (fun hh => hn hh.2)]; refine ⟨h1, j, hj, fun i hi => by have := h2 i hi; omega, fun i a b => ?_, h4⟩; rcases Nat.lt_or_ge j i with h | h
    .have := hq.asc j i h b; omega
    .have : i = j := by omega
     subst this; omega
  .rw [if_neg (fun hh => hjn hh.1)]; exact ⟨h1, j, hj, fun i hi => by have := h2 i hi; omega, fun i a b => by omega, h4⟩
theorem Jtg (hF : FV P M mf p m v) (hs : shp C X) (he : Els p m X) {q : Nat -> Nat} (hq : Cnl C.toNat X q) : J8 p m v C X = X /\ JS p m v C X = (List.range X.length).map fun i => ((q i : Nat) : Int) := by
 obtain ⟨h1, j, hj, h2, h3, h4⟩ := Jho (wy := 0) (Y := List.replicate X.length []) (d := 1) hF hq he C.toNat (Nat.le_refl _); have e : j = X.length := by
  rcases Nat.lt_or_ge j X.length with h | h
  .have := h3 j (Nat.le_refl _) h; have := hq.lt j h; omega
  .omega
 subst e; have hP : JS p m v C X = (List.range X.length).map fun i => ((q i : Nat) : Int) := h4; refine ⟨?_, hP⟩; show (elim p m v C.toNat ⟨X, List.replicate X.length [], [], 1⟩).X.take (elim p m v C.toNat ⟨X, List.replicate X.length [], [], 1⟩).pv.length = X; rw [h1, h4, List.length_map, List.length_range, List.take_length]
theorem Ja4 (hs : shp C X) {i : Nat} (hi : i < (JS p m v C X).length) : (((vo (JS p m v C X) i).toNat : Nat) : Int) = vo (JS p m v C X) i /\ (vo (JS p m v C X) i).toNat < C.toNat := by
 have h := (Yy (p := p) (m := m) (v := v) C X).1 i hi; omega
theorem can_cn (hF : FV P M mf p m v) (hs : shp C X) (he : Els p m X) : Cnl C.toNat (J8 p m v C X) fun i => (vo (JS p m v C X) i).toNat := by
 have hl := Yc (p := p) (m := m) (v := v) hs; refine ⟨fun i hi => (Ja4 hs (by omega)).2, fun i hi t ht => Ja3 hF hs he (by omega) (by omega), fun i hi c hc => ?_, fun i j hij hj => ?_⟩
 .exact Jdt hF hs he (by omega) (by have := (Ja4 (p := p) (m := m) (v := v) hs (i := i) (by omega)).1; omega)
 .have h := (Yy (p := p) (m := m) (v := v) C X).2 i j hij (by omega); have h1 := (Ja4 (p := p) (m := m) (v := v) hs (i := i) (by omega)).1; have h2 := (Ja4 (p := p) (m := m) (v := v) hs (i := j) (by omega)).1; omega
/-- Canonical rows are no more than columns. -/
theorem Cnl.len {w : Nat} {q : Nat -> Nat} (h : Cnl w X q) : X.length <= w := by
  have : ∀ k, k <= X.length -> k = 0 ∨ k <= q (k - 1) + 1 := by
    intro k
    induction k with
    | zero => intro _; exact .inl rfl
    | succ k ih =>
      intro hk
      refine .inr ?_
      rcases ih (by omega) with h0 | h1
      . subst h0; omega
      . rcases Nat.eq_zero_or_pos k with h0 | h0
        . subst h0; omega
        . have := h.asc (k - 1) k (by omega) (by omega)
          rw [Nat.add_sub_cancel]; omega
  rcases this X.length (Nat.le_refl _) with h0 | h1
  . omega
  . rcases Nat.eq_zero_or_pos X.length with h0 | h0
    . omega
    . have := h.lt (X.length - 1) (by omega); omega
end Go.Proofs.Ytjgpkljepgcekaa
namespace Go.Proofs.Ytjgpkljepgcekaa
/-! ### words reduced by canonical rows -/
variable {P M : Int} {mf : LI} {p m v : Nat} {C : Int} {X Y : LL} {w : Nat}
theorem Js9 (hF : FV P M mf p m v) {l : LI} (h : Elr p m l) (c : Nat) : El p m (vo l c) := by
 rcases Nat.lt_or_ge c l.length with hc | hc
 .exact Z5 h hc
 .rw [Jak hc]; have := hF.ring.q2; exact ⟨by omega, by exact_mod_cast (by omega : 0 < p ^ m)⟩
end Go.Proofs.Ytjgpkljepgcekaa
namespace Go.Proofs.Ytjgpkljepgcekaa
/-! ### the checks of a space -/
variable {P M : Int} {mf : LI} {p m v g : Nat} {C : Int} {X Y : LL} {F : GFv}
theorem Jrz {l : LI} {pf : Int -> (Bool -> Prop) -> Prop} {f : Int -> Bool} {Q : Int -> Prop} (hl : l.length <= 1000000) (hp : ∀ x (R : Bool -> Prop), R (f x) -> pf x R)
  (h1 : ∀ k : Nat, k < l.length -> f (vo l k) = true -> (∀ j, j < k -> f (vo l j) = false) -> Q (k : Int)) (h2 : (∀ j, j < l.length -> f (vo l j) = false) -> Q (-1)) : Zg l pf Q := by
 refine ⟨fun z => ∃ k : Nat, z = k /\ k <= l.length /\ ∀ j, j < k -> f (vo l j) = false, fun z => (l.length - z).toNat, ⟨0, rfl, Nat.zero_le _, fun j hj => by omega⟩, ?_⟩; rintro _ ⟨k, rfl, hk, hv⟩; dsimp only; refine ⟨fun hlt => ⟨⟨by omega, by omega⟩, hp _ _ ⟨fun hb => h1 k (by omega) hb hv, fun hb => ⟨Ju (by omega) (by omega), ⟨k + 1, by push_cast; rfl, by omega, fun j hj => ?_⟩, by omega⟩⟩⟩, fun hge => h2 fun j hj => hv j (by omega)⟩; rcases Nat.lt_or_ge j k with h | h
 .exact hv j h
 .have : j = k := by omega
  subst this; exact hb
theorem w_lead {l : LI} {Q : Int -> Prop} (hl : l.length <= 1000000)
  (h1 : ∀ k : Nat, k < l.length -> vo l k ≠ 0 -> (∀ j, j < k -> vo l j = 0) -> Q (k : Int)) (h2 : (∀ j, j < l.length -> vo l j = 0) -> Q (-1)) : Zg l (fun xc Qc => YK xc Qc) Q :=
 Jrz (f := fun x => decide (x ≠ 0)) hl (fun x R hR => hR) (fun k hk hb hv => h1 k hk (of_decide_eq_true hb) fun j hj => Classical.not_not.1 (of_decide_eq_false (hv j hj))) (fun hv => h2 fun j hj => Classical.not_not.1 (of_decide_eq_false (hv j hj)))
/-- The first entry of a canonical row. -/
theorem Cnl.lead {w : Nat} {q : Nat -> Nat} (h : Cnl w X q) {t k : Nat} (ht : t < X.length) (hk : vo (row X t) k ≠ 0) (hz : ∀ j, j < k -> vo (row X t) j = 0) : q t = k := by
  rcases Nat.lt_trichotomy (q t) k with h1 | h1 | h1
  . have := hz _ h1
    rw [h.one t ht t ht, if_pos rfl] at this; exact absurd this (by decide)
  . exact h1
  . exact absurd (h.lf t ht k h1) hk
theorem Jd7 {Q : Bool -> Prop} (hs : shp C X) (h1 : IsCn C X -> Q true) (h2 : ¬ IsCn C X -> Q false) : Q5 C X Q := by
 obtain ⟨hX, hC, hCe⟩ := Je7 hs; have hw : ∀ t, t < X.length -> (row X t).length = C.toNat := fun t ht => Y6 hs ht; refine ⟨fun last z => ∃ t : Nat, z = t /\ t <= X.length /\ ∃ q : Nat -> Nat, (∀ i, i < t -> q i < C.toNat /\ (∀ s, s < X.length -> vo (row X s) (q i) = if s = i then 1 else 0) /\ ∀ c, c < q i -> vo (row X i) c = 0) /\ (∀ i j, i < j -> j < t -> q i < q j) /\ (t = 0 -> last = -1) /\ ∀ u, t = u + 1 -> last = (q u : Int), fun _ z => (X.length - z).toNat, ⟨0, rfl, Nat.zero_le _, fun _ => 0, fun i hi => absurd hi (Nat.not_lt_zero i), fun i j _ hj => absurd hj (Nat.not_lt_zero j), fun _ => rfl, fun u hu => by omega⟩, ?_⟩; rintro last _ ⟨t, rfl, ht, q, hq1, hq2, hl0, hl1⟩; dsimp only; refine ⟨fun hlt => ?_, fun hge => ?_⟩
 .have htl : t < X.length := by omega
  have hwt := hw t htl; refine ⟨⟨by omega, by omega⟩, ?_⟩; show Zg (row X t) _ _; have hlast : ∀ q', Cnl C.toNat X q' -> ∀ u, t = u + 1 -> last = (q' u : Int) := fun q' hq' u hu => by
   have hul : u < X.length := by omega
   have := hq'.lead (t := u) (k := q u) hul (by rw [(hq1 u (by omega)).2.1 u hul, if_pos rfl]; decide) (hq1 u (by omega)).2.2; rw [this]; exact hl1 u hu
  refine w_lead (by omega) (fun k hk hne hz => ?_) (fun hz => ?_)
  .have hkq : ∀ q', Cnl C.toNat X q' -> q' t = k := fun q' hq' => hq'.lead htl hne hz; refine ⟨fun hle => h2 ?_, fun hgt => ?_⟩
   .rintro ⟨q', hq'⟩; rcases Nat.eq_zero_or_pos t with h0 | h0
    .have := hl0 h0; omega
    .have e1 := hlast q' hq' (t - 1) (by omega); have e2 := hq'.asc (t - 1) t (by omega) htl; have e3 := hkq q' hq'; omega
   .refine ⟨⟨by omega, by show (k : Int) < ((row X t).length : Nat); omega⟩, fun hn1 => h2 ?_, fun h1' => ?_⟩
    .rintro ⟨q', hq'⟩; have := hq'.one t htl t htl; rw [hkq q' hq', if_pos rfl] at this; exact hn1 this
    .have hone : vo (row X t) k = 1 := Classical.not_not.1 h1'; refine ⟨fun z => ∃ u : Nat, z = u /\ u <= X.length /\ ∀ j, j < u -> j ≠ t -> vo (row X j) k = 0, fun z => (X.length - z).toNat, ⟨0, rfl, Nat.zero_le _, fun j hj => absurd hj (Nat.not_lt_zero j)⟩, ?_⟩; rintro _ ⟨u, rfl, hu, hju⟩; dsimp only; refine ⟨fun hlt2 => ?_, fun hge2 => ?_⟩
     .have hul : u < X.length := by omega
      have hwu := hw u hul; refine ⟨fun _ => u = t ∨ vo (row X u) k = 0, ⟨⟨by omega, by omega⟩, fun hne2 => ⟨⟨by omega, by show (k : Int) < ((row X u).length : Nat); omega⟩, fun hnz => h2 ?_, fun hz2 => .inr (Classical.not_not.1 hz2)⟩, fun he => .inl (by have := Classical.not_not.1 he; omega)⟩, ?_⟩
      .rintro ⟨q', hq'⟩; have := hq'.one t htl u hul; rw [hkq q' hq', if_neg (by omega)] at this; exact hnz this
      .intro b hb; refine ⟨Ju (by omega) (by omega), ⟨u + 1, by push_cast; rfl, by omega, fun j hj hne2 => ?_⟩, by omega⟩; rcases Nat.lt_or_ge j u with h | h
       .exact hju j h hne2
       .have : j = u := by omega
        subst this; exact hb.resolve_left hne2
     .obtain ⟨q2, e1, e2⟩ : ∃ q2 : Nat -> Nat, q2 t = k /\ ∀ i, i ≠ t -> q2 i = q i := ⟨fun i => if i = t then k else q i, if_pos rfl, fun i h => if_neg h⟩
      refine ⟨Ju (by omega) (by omega), ⟨t + 1, by push_cast; rfl, by omega, q2, fun i hi => ?_, fun i j hij hj => ?_, fun h0 => by omega, fun u hu => ?_⟩, by omega⟩
      .by_cases hit : i = t
       .subst hit; rw [e1]; refine ⟨by omega, fun s hs' => ?_, fun c hc => hz c hc⟩; by_cases hsi : s = i
        .subst hsi; rw [if_pos rfl]; exact hone
        .rw [if_neg hsi]; exact hju s (by omega) hsi
       .rw [e2 i hit]; exact hq1 i (by omega)
      .have hit : i ≠ t := by omega
       rw [e2 i hit]; by_cases hjt : j = t
       .subst hjt; rw [e1]; have hlu := hl1 (j - 1) (by omega); have : q i <= q (j - 1) := by
         rcases Nat.lt_or_ge i (j - 1) with h | h
         .exact Nat.le_of_lt (hq2 i (j - 1) h (by omega))
         .have : i = j - 1 := by omega
          rw [this]; exact Nat.le_refl _
        omega
       .rw [e2 j hjt]; exact hq2 i j hij (by omega)
      .have : u = t := by omega
       subst this; rw [e1]
  .have hge : (-1 : Int) <= last := by
    rcases Nat.eq_zero_or_pos t with h0 | h0
    .rw [hl0 h0]; exact Int.le_refl _
    .have := hl1 (t - 1) (by omega); omega
   refine ⟨fun _ => h2 ?_, fun hgt => absurd hge hgt⟩; rintro ⟨q', hq'⟩; have := hq'.one t htl t htl; rw [hz (q' t) (by have := hq'.lt t htl; omega), if_pos rfl] at this; exact absurd this (by decide)
 .have : t = X.length := by omega
  subst this; exact h1 ⟨q, fun i hi => (hq1 i hi).1, fun i hi t ht => (hq1 i hi).2.1 t ht, fun i hi => (hq1 i hi).2.2, hq2⟩
open Classical in
/-- the error of a space -/
noncomputable def sck (P M : Int) (mf : LI) (C : Int) (X : LL) : Int := if mck P M mf C X ≠ 0 then mck P M mf C X else if IsCn C X then 0 else 5
theorem sck_no (h : mck P M mf C X ≠ 0) : sck P M mf C X = mck P M mf C X := if_pos h
theorem sck_nc (h : mck P M mf C X = 0) (h2 : ¬ IsCn C X) : sck P M mf C X = 5 := by unfold sck; rw [if_neg (fun hh => hh h), if_neg h2]
theorem Jo4 (h : mck P M mf C X = 0) (h2 : IsCn C X) : sck P M mf C X = 0 := by unfold sck; rw [if_neg (fun hh => hh h), if_pos h2]
theorem Jof {Q : Int -> Prop} (h : Q (sck P M mf C X)) : Ja7 P M mf C X Q := by
 refine Jgh ⟨fun hne => by rw [sck_no hne] at h; exact h, fun he => ?_⟩; have h0 : mck P M mf C X = 0 := Classical.not_not.1 he; obtain ⟨hV, hs, hE⟩ := Jhh h0; refine Jd7 hs (fun hc => ?_) (fun hc => ?_)
 .rw [Jo4 h0 hc] at h; exact ⟨fun hb => (by cases hb), fun _ => h⟩
 .rw [sck_nc h0 hc] at h; exact ⟨fun _ => h, fun hb => by cases hb⟩
end Go.Proofs.Ytjgpkljepgcekaa
namespace Go.Proofs.Ytjgpkljepgcekaa
/-! ### pivots, reduced words -/
variable {P M : Int} {mf : LI} {p m v g : Nat} {C : Int} {X Y : LL} {F : GFv}
end Go.Proofs.Ytjgpkljepgcekaa
namespace Go.Proofs.Ytjgpkljepgcekaa
/-! ### two spaces: inclusion, quotient -/
variable {P M : Int} {mf : LI} {p m v g : Nat} {C Ca Cb : Int} {X Y a b : LL} {F : GFv}
/-- What is known of a space over a field. -/
structure Sg (P M : Int) (mf : LI) (p m v : Nat) (C : Int) (X : LL) (q : Nat -> Nat) : Prop where
  f : FV P M mf p m v
  s : shp C X
  e : Els p m X
  q : Cnl C.toNat X q
theorem Sg.mk0 {q : Nat -> Nat} (G : Sg P M mf p m v C X q) : mck P M mf C X = 0 := Jdf ⟨p, m, v, G.f⟩ G.s ((Ya G.f).2 G.e)
theorem Sg.sck {q : Nat -> Nat} (G : Sg P M mf p m v C X q) : sck P M mf C X = 0 := Jo4 G.mk0 ⟨q, G.q⟩
theorem Jiy {l : LL} (hC : 0 <= C /\ C <= 256) (hl : l.length <= 256) (hw : ∀ t, t < l.length -> (row l t).length = C.toNat) : shp C l := by
 unfold shp; refine ⟨hC.1, hC.2, by omega, fun r hr => ?_⟩; obtain ⟨t, ht, rfl⟩ := Jci hr; have := hw t ht; omega
end Go.Proofs.Ytjgpkljepgcekaa
namespace Go.Proofs.Ytjgpkljepgcekaa
/-! ### sums, intersections, duals -/
variable {P M : Int} {mf : LI} {p m v g w : Nat} {C Ca Cb : Int} {X Y a b : LL}
theorem Jsj {y : LI} (hC : 0 <= C /\ C <= 256) (hy : (y.length : Int) = C) : shp C [y] := Jiy hC (by simp) fun t ht => by
 have : t = 0 := by simpa using ht
 subst this; show y.length = _; omega
theorem Jli {y : LI} : Els p m [y] ↔ Elr p m y := by unfold Els; simp
end Go.Proofs.Ytjgpkljepgcekaa
namespace Go.Proofs.Ytjgpkljepgcekaa
/-! ### the words of a set of positions; the examples -/
variable {P M : Int} {mf : LI} {p m v g w : Nat} {C Ca Cb : Int} {X Y a b : LL}
end Go.Proofs.Ytjgpkljepgcekaa
namespace Go.Proofs.Ytjgpkljepgcekaa
/-! ### the dual of the dual; dimensions -/
variable {P M : Int} {mf : LI} {p m v g w : Nat} {C Ca Cb : Int} {X Y a b : LL}
end Go.Proofs.Ytjgpkljepgcekaa
namespace Go.Proofs.Ytjgpkljepgcekaa
/-! ### dimensions -/
variable {P M : Int} {mf : LI} {p m v g w : Nat} {C Ca Cb : Int} {X Y a b : LL}
end Go.Proofs.Ytjgpkljepgcekaa
namespace Go.Proofs.Ytjgpkljepgcekaa
/-! ### package code and its reference -/
section
variable {P M : Int} {mf : LI} {p m v : Nat} {N C : Int} {X Y : LL}
theorem FV.mlen (h : FV P M mf p m v) : mf.length <= 1000 := by
 by_cases h1 : m = 1
 .rw [(h.m1 h1).1]; simp
 .rw [h.m2 h1, J4]; have h2 : 2 <= p := h.pr.two; have := Nat.lt_pow_self (n := m) (show 1 < p by omega); have := h.q; omega
/-- the error of a code -/
noncomputable def cck (P M : Int) (mf : LI) (N : Int) (X : LL) : Int := if ck P M mf ≠ 0 then ck P M mf else if 1 <= N /\ N <= 64 then sck P M mf N X else 4
theorem Jct {n : Int} {Q : Bool -> Prop} (h : Q (decide (1 <= n /\ n <= 64))) : YC n Q := by
 refine ⟨fun h1 => ?_, fun h1 => ?_⟩
 .have e : decide (1 <= n /\ n <= 64) = decide (n <= 64) := by simp [h1]
  rw [<- e]; exact h
 .have e : decide (1 <= n /\ n <= 64) = false := by simp [h1]
  rw [<- e]; exact h
theorem Joi {Q : Int -> Prop} (h : Q (cck P M mf N X)) : Jbe P M mf N X Q := by
 unfold cck at h; refine Jkx ⟨fun h0 => ?_, fun h0 => Jct ⟨fun h1 => ?_, fun h1 => ⟨_, Jof rfl, ?_⟩⟩⟩
 .rw [if_pos h0] at h; exact h
 .rw [if_neg h0, if_neg (fun hh => by rw [decide_eq_true hh] at h1; cases h1)] at h; exact h
 .rw [if_neg h0, if_pos (of_decide_eq_true (by simpa using h1))] at h; exact h
theorem cck_ok {q : Nat -> Nat} (G : Sg P M mf p m v N X q) (h1 : 1 <= N) (h2 : N <= 64) : cck P M mf N X = 0 := by
 unfold cck; rw [if_neg (by rw [Jdr ⟨p, m, v, G.f⟩]; simp), if_pos ⟨h1, h2⟩, G.sck]
theorem Jgg {mm : LL} {e : Int} {Q : Option LI × Int -> Prop} (he : e ≠ 0) (h : Q (none, e)) : Jbv P M mf C mm e Q := ⟨fun _ => h, fun hh => absurd he hh⟩
theorem Jog {mm : LL} {Q : Option LI × Int -> Prop} (hm : mf.length <= 1000) (h : Q (some mf, 0)) : Jbv P M mf C mm 0 Q := ⟨fun hh => absurd rfl hh, fun _ => Jam (by omega) h⟩
/-- the error of New -/
noncomputable def nck (P M : Int) (mf : LI) (C : Int) (X : LL) : Int := if mck P M mf C X ≠ 0 then mck P M mf C X else if 1 <= C /\ C <= 64 then 0 else 4
theorem w_cNew {Q : Int × Int × LI × Int × LL × Int -> Prop} (h0 : nck P M mf C X ≠ 0 -> Q (0, 0, [], 0, [], nck P M mf C X))
  (h : ∀ p m v, FV P M mf p m v -> shp C X -> Els p m X -> 1 <= C /\ C <= 64 -> Q (P, M, mf, C, J8 p m v C X, 0)) : Jd5 P M mf C X Q := by
 unfold nck at h0; refine Jgl (fun hb => ⟨fun hh => absurd hh hb, fun _ => Jgg hb ?_⟩) fun p m v hF hs he hz => ⟨fun _ => Jct ?_, fun hh => absurd rfl hh⟩
 .rw [if_pos hb] at h0; exact h0 hb
 .rw [if_neg (fun hh => hh hz)] at h0; by_cases h1 : 1 <= C /\ C <= 64
  .refine ⟨fun z => z = 0, ⟨fun hh => by simp [h1] at hh, fun _ => rfl⟩, ?_⟩; rintro _ rfl; exact Jog hF.mlen (h p m v hF hs he h1)
  .refine ⟨fun z => z = 4, ⟨fun _ => rfl, fun hh => by simp [h1] at hh⟩, ?_⟩; rintro _ rfl; rw [if_neg h1] at h0; exact Jgg (by decide) (h0 (by decide))
end
end Go.Proofs.Ytjgpkljepgcekaa
namespace Go.Proofs.Ytjgpkljepgcekaa
/-! ### monomials, lists compared -/
section
/-- the mask of the first i variables -/
def msk (l : LI) (i : Nat) : Nat := (l.take i).foldl (fun a v => a ||| 2 ^ v.toNat) 0
theorem Jhg {l : LI} {i : Nat} (h : i < l.length) : msk l (i + 1) = msk l i ||| 2 ^ (vo l i).toNat := by
 unfold msk vo; rw [List.take_add_one, List.foldl_append, List.getElem?_eq_getElem h, List.getD_eq_getElem?_getD, List.getElem?_eq_getElem h]; rfl
theorem Jjk {l : LI} {m : Nat} : ∀ i, i <= l.length -> (∀ j, j < i -> 0 <= vo l j /\ vo l j < (m : Int)) -> msk l i < 2 ^ m
 | 0, _, _ => by simp only [msk, List.take_zero, List.foldl_nil]; exact Nat.pos_of_ne_zero (by simp)
 | i + 1, hi, h => by
  rw [Jhg (by omega)]; have := h i (by omega); refine Nat.or_lt_two_pow (Jjk i (by omega) fun j hj => h j (by omega)) ?_; exact Nat.pow_lt_pow_right (by omega) (by omega)
/-- the values of a monomial at all points -/
def evl (m : Nat) (l : LI) : LI := (List.range (2 ^ m)).map fun x => if x &&& msk l l.length = msk l l.length then 1 else 0
theorem Jhj {x : Nat} (h : x <= 6) : QC 1 (x : Int) = ((2 ^ x : Nat) : Int) := by
 unfold QC; rw [Int.toNat_natCast, show min x IntKind.i64.bits = x from Nat.min_eq_left (by show x <= 64; omega)]; simp
theorem pow6 {x : Nat} (h : x <= 6) : 1 <= 2 ^ x /\ 2 ^ x <= 64 := ⟨Nat.one_le_two_pow, Nat.pow_le_pow_right (by omega) h⟩
theorem Jgi {m : Nat} {l : LI} {Q : LI -> Prop} (hm : m <= 6) (hl : l.length <= 1000000) (hv : ∀ j, j < l.length -> 0 <= vo l j /\ vo l j < (m : Int)) (h : Q (evl m l)) : YL (m : Int) l Q := by
 refine ⟨fun x z => ∃ i : Nat, z = i /\ i <= l.length /\ x = ((msk l i : Nat) : Int), fun _ z => (l.length - z).toNat, ⟨0, rfl, Nat.zero_le _, rfl⟩, ?_⟩; rintro _ _ ⟨i, rfl, hi, rfl⟩; dsimp only; have hp := pow6 hm; refine ⟨fun hlt => ?_, fun hge => ?_⟩
 .have hb := hv i (by omega); obtain ⟨y, hy⟩ := Int.eq_ofNat_of_zero_le hb.1; have hg : gi l (i : Int) = (y : Int) := hy; have hy6 : y <= 6 := by omega
  have hp2 := pow6 hy6; have hk := Jjk (m := m) i hi fun j hj => hv j (by omega); rw [hg, Jhj hy6]; refine ⟨⟨by omega, by omega⟩, ⟨by omega, Ju (by omega) (by omega)⟩, ⟨by omega, by omega, by omega, by omega⟩, Ju (by omega) (by omega), ⟨i + 1, by push_cast; rfl, by omega, ?_⟩, by omega⟩; rw [Jhg (by omega), hy]; simp only [ior, Int.toNat_natCast]
 obtain rfl : i = l.length := by omega
 have hk := Jjk (m := m) l.length (Nat.le_refl _) hv; rw [Jhj hm]; refine ⟨⟨by omega, Ju (by omega) (by omega)⟩, ⟨by omega, by omega, by omega⟩, fun x z => ∃ k : Nat, z = k /\ k <= 2 ^ m /\ x.length = 2 ^ m /\ ∀ j, j < 2 ^ m -> vo x j = if j < k /\ j &&& msk l l.length = msk l l.length then 1 else 0, fun _ z => ((2 ^ m : Nat) - z).toNat, ⟨0, rfl, Nat.zero_le _, by rw [List.length_replicate, Int.toNat_natCast], fun j hj => ?_⟩, ?_⟩
 .rw [if_neg (by omega)]; unfold vo; rw [List.getD_eq_getElem?_getD, List.getElem?_replicate]; split <;> rfl
 rintro x _ ⟨k, rfl, hk2, hx, hx2⟩; dsimp only; refine ⟨fun hlt => ?_, fun hge => ?_⟩
 .refine ⟨fun y => y.length = 2 ^ m /\ ∀ j, j < 2 ^ m -> vo y j = if j < k + 1 /\ j &&& msk l l.length = msk l l.length then 1 else 0, ⟨⟨by omega, by omega, by omega, by omega⟩, fun he => ⟨⟨by omega, by omega⟩, ?_, fun j hj => ?_⟩, fun hne => ⟨hx, fun j hj => ?_⟩⟩, ?_⟩
  .rw [Qj, List.length_set]; exact hx
  .have he' : k &&& msk l l.length = msk l l.length := by
    simp only [Jjq, Int.toNat_natCast] at he; omega
   rw [Qj, Qp, hx2 j hj]; by_cases e : k = j
   .subst e; rw [if_pos ⟨rfl, by omega⟩, if_pos ⟨by omega, he'⟩]
   .rw [if_neg (fun hh => e hh.1)]; by_cases e2 : j &&& msk l l.length = msk l l.length
    .by_cases e3 : j < k
     .rw [if_pos ⟨e3, e2⟩, if_pos ⟨by omega, e2⟩]
     .rw [if_neg (fun hh => e3 hh.1), if_neg (fun hh => by omega)]
    .rw [if_neg (fun hh => e2 hh.2), if_neg (fun hh => e2 hh.2)]
  .have hne' : ¬ k &&& msk l l.length = msk l l.length := fun e => hne (by simp only [Jjq, Int.toNat_natCast]; omega); rw [hx2 j hj]; by_cases e2 : j &&& msk l l.length = msk l l.length
   .have : j ≠ k := fun e => hne' (e ▸ e2); by_cases e3 : j < k
    .rw [if_pos ⟨e3, e2⟩, if_pos ⟨by omega, e2⟩]
    .rw [if_neg (fun hh => e3 hh.1), if_neg (fun hh => by omega)]
   .rw [if_neg (fun hh => e2 hh.2), if_neg (fun hh => e2 hh.2)]
  .rintro y ⟨h1, h2⟩; exact ⟨Ju (by omega) (by omega), ⟨k + 1, by push_cast; rfl, by omega, h1, h2⟩, by omega⟩
 have hk3 : k = 2 ^ m := by omega
 subst hk3; have e : x = evl m l := by
  refine List.ext_getElem (by simp [evl, hx]) fun j h1 h2 => ?_; have := hx2 j (by omega); unfold vo at this; rw [List.getD_eq_getElem?_getD, List.getElem?_eq_getElem h1] at this; simp only [Option.getD_some] at this; rw [this]; simp only [evl, List.getElem_map, List.getElem_range]; by_cases e2 : j &&& msk l l.length = msk l l.length
  .rw [if_pos ⟨by omega, e2⟩, if_pos e2]
  .rw [if_neg (fun hh => e2 hh.2), if_neg e2]
 rw [e]; exact h
theorem Jip {m : Int} {l : LI} {Q : LI × Int -> Prop} (h6 : ¬ (0 <= m /\ m <= 6) -> Q ([], 6)) (h5 : 0 <= m /\ m <= 6 -> ¬ Asc m.toNat l -> Q ([], 5)) (h0 : 0 <= m /\ m <= 6 -> Asc m.toNat l -> Q (evl m.toNat l, 0)) : Zi m l Q := by
 refine ⟨fun hh => h6 (by omega), fun h1 => ⟨fun hh => h6 (by omega), fun h2 => ?_⟩⟩; obtain ⟨n, rfl⟩ := Int.eq_ofNat_of_zero_le (show 0 <= m by omega); have hn : n <= 6 := by omega
 rw [Int.toNat_natCast] at h5 h0; have h5 := h5 ⟨by omega, by omega⟩; have h0 := h0 ⟨by omega, by omega⟩; refine ⟨fun z t => ∃ i : Nat, t = i /\ i <= l.length /\ (i : Int) <= z + 1 /\ z < (n : Int) /\ (∀ j, j < i -> 0 <= vo l j /\ vo l j <= z) /\ (∀ a b, a < b -> b < i -> vo l a < vo l b) /\ (0 < i -> z = vo l (i - 1)) /\ -1 <= z /\ (i = 0 -> z = -1), fun _ t => (l.length - t).toNat, ⟨0, rfl, Nat.zero_le _, by omega, by omega, fun j hj => absurd hj (Nat.not_lt_zero _), fun a b _ hb => absurd hb (Nat.not_lt_zero _), fun hh => absurd hh (Nat.lt_irrefl 0), by omega, fun _ => rfl⟩, ?_⟩; rintro z _ ⟨i, rfl, hi, hiz, hzn, ha, hb, hc, hz1, hz0⟩; dsimp only; refine ⟨fun hlt => ⟨⟨by omega, by omega⟩, fun hle => h5 fun hA => ?_, fun hgt => ⟨fun hge => h5 fun hA => ?_, fun hlt2 => ⟨Ju (by omega) (by omega), ⟨i + 1, by push_cast; rfl, by omega, ?_, ?_, fun j hj => ?_, fun a b hab hbi => ?_, fun _ => rfl, ?_, fun hh => absurd hh (Nat.succ_ne_zero _)⟩, by omega⟩⟩⟩, fun hge => ?_⟩
 .have hle' : vo l i <= z := hle; have := hA.1 i (by omega); rcases Nat.eq_zero_or_pos i with e | e
  .have := hz0 e; omega
  .have h1 := hc e; have := hA.2 (i - 1) i (by omega) (by omega); omega
 .have hge' : (n : Int) <= vo l i := hge; have := hA.1 i (by omega); omega
 .have hgt' : ¬ vo l i <= z := hgt; show ((i + 1 : Nat) : Int) <= vo l i + 1; omega
 .have hlt' : ¬ (n : Int) <= vo l i := hlt2; show vo l i < (n : Int)
  omega
 .have hgt' : ¬ vo l i <= z := hgt; show 0 <= vo l j /\ vo l j <= vo l i; rcases Nat.lt_or_ge j i with e | e
  .have := ha j e; omega
  .obtain rfl : j = i := by omega
   omega
 .have hgt' : ¬ vo l i <= z := hgt; rcases Nat.lt_or_ge b i with e | e
  .exact hb a b hab e
  .obtain rfl : b = i := by omega
   have := ha a hab; omega
 .have hgt' : ¬ vo l i <= z := hgt; show -1 <= vo l i; omega
 obtain rfl : i = l.length := by omega
 exact Jgi hn (by omega) (fun j hj => by have := ha j hj; omega) (h0 ⟨fun j hj => by have := ha j hj; omega, hb⟩)
theorem asc01 : Asc (2 : Int).toNat [0, 1] := by
 refine ⟨fun i hi => ?_, fun i j hij hj => ?_⟩
 .match i, hi with
  | 0, _ => exact ⟨by decide, by decide⟩
  | 1, _ => exact ⟨by decide, by decide⟩
 .have hj' : j < 2 := hj; obtain rfl : j = 1 := by omega
  obtain rfl : i = 0 := by omega
  decide
theorem Jmq {Q : Bool -> Prop} (h : Q true) : ZS Q := by
 refine Jip (fun hh => absurd ⟨by decide, by decide⟩ hh) (fun _ hh => absurd asc01 hh) fun _ _ => ?_; have e : evl (2 : Int).toNat [0, 1] = [0, 0, 0, 1] := by decide
 rw [e]; exact ⟨fun _ => ⟨fun _ => ⟨⟨by decide, by decide⟩, fun _ => ⟨⟨by decide, by decide⟩, fun _ => ⟨⟨by decide, by decide⟩, fun _ => ⟨⟨by decide, by decide⟩, h⟩, fun hh => absurd rfl hh⟩, fun hh => absurd rfl hh⟩, fun hh => absurd rfl hh⟩, fun hh => absurd rfl hh⟩, fun hh => absurd rfl hh⟩
end
end Go.Proofs.Ytjgpkljepgcekaa
namespace Go.Proofs.Ytjgpkljepgcekaa
/-! ### the points of a projective space -/
section
variable {P M : Int} {mf : LI} {p m v g : Nat} {F : GFv}
def cdg (q r x : Nat) : LI := (List.range r).map fun k => ((x / q ^ (r - 1 - k) % q : Nat) : Int)
theorem Jl2 (q r x : Nat) : (cdg q r x).length = r := by simp [cdg]
theorem Jcv {q r x k : Nat} (h : k < r) : vo (cdg q r x) k = ((x / q ^ (r - 1 - k) % q : Nat) : Int) := by
 unfold vo cdg; rw [List.getD_eq_getElem?_getD, List.getElem?_map, List.getElem?_range h]; rfl
theorem Jte {q r x : Nat} {l : LI} (hl : l.length = r) (h : ∀ k, k < r -> vo l k = ((x / q ^ (r - 1 - k) % q : Nat) : Int)) : l = cdg q r x := by
 refine List.ext_getElem (by rw [hl, Jl2]) fun j h1 h2 => ?_; have a := h j (by omega); have b := Jcv (q := q) (x := x) (show j < r by omega); rw [<- b] at a; unfold vo at a
 rwa [List.getD_eq_getElem?_getD, List.getElem?_eq_getElem h1, List.getD_eq_getElem?_getD, List.getElem?_eq_getElem h2] at a
/-- the digits, written from the last to the first -/
def dgI (q r x : Nat) (l : LI) (z t : Int) : Prop := ∃ j : Nat, t = (j : Int) - 1 /\ j <= r /\ l.length = r /\ z = ((x / q ^ (r - j) : Nat) : Int) /\ ∀ k, j <= k -> k < r -> vo l k = ((x / q ^ (r - 1 - k) % q : Nat) : Int)
theorem dgI_0 (q r x : Nat) : dgI q r x (List.replicate r 0) (x : Int) ((r : Int) - 1) := ⟨r, rfl, Nat.le_refl _, by simp, by rw [Nat.sub_self, Nat.pow_zero, Nat.div_one], fun k h1 h2 => by omega⟩
theorem Jhp {q r x : Nat} (hq : 2 <= q) (hq2 : q <= 256) (hr : r <= 64) (hx : x <= 100000000) {l : LI} {z t : Int} (h : dgI q r x l z t) (ht : 0 <= t) :
  (0 <= t /\ t < (r : Nat)) /\ I64 (z.tdiv (q : Int)) /\ I64 (t - 1) /\ dgI q r x (si l t (z.tmod (q : Int))) (z.tdiv (q : Int)) (t - 1) := by
 obtain ⟨j, rfl, hj, hl, rfl, hk⟩ := h; have hj0 : 0 < j := by omega
 have e1 : ((j : Int) - 1) = ((j - 1 : Nat) : Int) := by omega
 have hle : x / q ^ (r - j) / q <= x := Nat.le_trans (Nat.div_le_self _ _) (Nat.div_le_self _ _); have e2 : x / q ^ (r - j) / q = x / q ^ (r - (j - 1)) := by
  rw [Nat.div_div_eq_div_mul, <- Nat.pow_succ, show (r - j).succ = r - (j - 1) by omega]
 refine ⟨⟨by omega, by omega⟩, ?_, Ju (by omega) (by omega), j - 1, by omega, by omega, ?_, ?_, fun k h1 h2 => ?_⟩
 .rw [Jgn]; exact YR (by omega)
 .rw [e1, Qj, List.length_set]; exact hl
 .rw [Jgn, e2]
 .rw [e1, Qj, Qp, Jan]; by_cases e : j - 1 = k
  .subst e; rw [if_pos ⟨rfl, by omega⟩, show r - 1 - (j - 1) = r - j by omega]
  .rw [if_neg (fun hh => e hh.1)]; exact hk k (by omega) h2
theorem Jly {q r x : Nat} {l : LI} {z t : Int} (h : dgI q r x l z t) (ht : ¬ 0 <= t) : l = cdg q r x := by
 obtain ⟨j, rfl, hj, hl, rfl, hk⟩ := h; exact Jte hl fun k h => hk k (by omega) h
theorem Jmo {q r x : Nat} {Q : LI -> Prop} (hq : 2 <= q) (hq2 : q <= 256) (hr : r <= 64) (hx : x <= 100000000) (h : Q (cdg q r x)) : ZR (q : Int) (r : Int) (x : Int) Q := by
 refine ⟨⟨by omega, by omega, by omega⟩, Ju (by omega) (by omega), fun l z t => dgI q r x l z t, fun _ _ t => (t + 1).toNat, by rw [Int.toNat_natCast]; exact dgI_0 q r x, ?_⟩; intro l z t hI; refine ⟨fun ht => ?_, fun ht => by rw [Jly hI ht]; exact h⟩; obtain ⟨h1, h2, h3, h4⟩ := Jhp hq hq2 hr hx hI ht; exact ⟨by omega, by rw [Int.toNat_natCast]; exact h1, ⟨by omega, h2⟩, h3, h4, by dsimp only; omega⟩
/-- how many points there are -/
def cnt (q : Nat) : Nat -> Nat
  | 0 => 0
  | r + 1 => cnt q r * q + 1
theorem Yq (q : Nat) : ∀ r, cnt q (r + 1) = cnt q r + q ^ r
 | 0 => by simp [cnt]
 | r + 1 => by
  have ih := Yq q r; rw [show cnt q (r + 1 + 1) = cnt q (r + 1) * q + 1 from rfl]; have e : q ^ r * q = q ^ (r + 1) := (Nat.pow_succ ..).symm; rw [ih, Nat.add_mul, e]; have : cnt q (r + 1) = cnt q r * q + 1 := rfl; omega
theorem Yb (q : Nat) {a b : Nat} (h : a <= b) : cnt q a <= cnt q b := by
 induction h with
 | refl => exact Nat.le_refl _
 | step _ ih => rw [Yq]; omega
theorem Z8 {q : Nat} (hq : 1 <= q) : ∀ r, r <= cnt q r
 | 0 => Nat.le_refl _
 | r + 1 => by
  have := Z8 hq r; have h1 : cnt q r * 1 <= cnt q r * q := Nat.mul_le_mul_left _ hq; show r + 1 <= cnt q r * q + 1; omega
/-- some count up to r is beyond 64 -/
theorem Joj {q : Nat} {r : Int} {Q : Bool -> Prop} (hq : 2 <= q) (hq2 : q <= 256) (hr : 1 <= r) (h1 : cnt q r.toNat <= 64 -> Q true) (h2 : ¬ cnt q r.toNat <= 64 -> Q false) : Jbf (q : Int) r Q := by
  obtain ⟨n, rfl⟩ := Int.eq_ofNat_of_zero_le (show 0 <= r by omega)
  rw [Int.toNat_natCast] at h1 h2
  refine ⟨fun z t => ∃ j : Nat, t = j /\ j <= n /\ z = ((cnt q j : Nat) : Int) /\ cnt q j <= 64, fun _ t => (n - t).toNat, ⟨0, rfl, Nat.zero_le _, rfl, by simp [cnt]⟩, ?_⟩
  rintro _ _ ⟨j, rfl, hj, rfl, hc⟩
  dsimp only
  have hb : cnt q j * q <= 64 * 256 := Nat.mul_le_mul hc hq2
  have hj64 := Z8 (show 1 <= q by omega) j
  have e : ((cnt q j : Nat) : Int) * (q : Int) = ((cnt q j * q : Nat) : Int) := by push_cast; rfl
  rw [e]
  refine ⟨fun hlt => ⟨YR (by omega), Ju (by omega) (by omega), fun hgt => h2 fun hle => ?_, fun hle => ⟨Ju (by omega) (by omega), ⟨j + 1, by push_cast; rfl, by omega, by show _ = ((cnt q j * q + 1 : Nat) : Int); push_cast; rfl, by show cnt q j * q + 1 <= 64; omega⟩, by omega⟩⟩, fun hge => ?_⟩
  . have := Yb q (show j + 1 <= n by omega)
    have e3 : cnt q (j + 1) = cnt q j * q + 1 := rfl
    omega
  . obtain rfl : j = n := by omega
    exact h1 hc
/-- the numbers of the points -/
def pnl (q : Nat) : Nat -> List Nat
  | 0 => []
  | i + 1 => pnl q i ++ List.range' (q ^ i) (q ^ i)
def pts (q r : Nat) : LL := (pnl q r).map (cdg q r)
theorem QQ (q : Nat) : ∀ i, (pnl q i).length = cnt q i
 | 0 => rfl
 | i + 1 => by rw [pnl, List.length_append, List.length_range', QQ q i, Yq]
theorem Jcg (q r : Nat) : (pts q r).length = cnt q r := by rw [pts, List.length_map, QQ]
theorem Jld {q : Nat} (hq : 2 <= q) {i r : Nat} (hi : i < r) (h : cnt q r <= 64) : q ^ i <= 64 /\ 1 <= q ^ i := by
 have := Yb q (show i + 1 <= r by omega); rw [Yq] at this; exact ⟨by omega, Nat.pos_of_ne_zero (fun e => by have := Nat.pow_eq_zero.1 e; omega)⟩
theorem Jgv {q r t : Nat} (h : t < (pts q r).length) : (row (pts q r) t).length = r := by
 unfold row pts; rw [List.getD_eq_getElem?_getD, List.getElem?_map, List.getElem?_eq_getElem (by rw [pts, List.length_map] at h; exact h)]; exact Jl2 _ _ _
theorem Jok {r : Int} {Q : LL × Int -> Prop} (h1 : ¬ Qw P M mf -> Q ([], 1)) (h6 : Qw P M mf -> r < 1 -> Q ([], 6))
  (h : ∀ p m v, FV P M mf p m v -> 1 <= r -> (¬ cnt (p ^ m) r.toNat <= 64 -> Q ([], 4)) /\ (cnt (p ^ m) r.toNat <= 64 -> Q (pts (p ^ m) r.toNat, 0))) : Jbg P M mf r Q := by
 refine v_New (fun hn => ⟨fun _ => h1 hn, fun hh => absurd (by decide) hh⟩) fun F p m v g K e1 e2 e3 => ⟨fun hh => absurd rfl hh, fun _ => ⟨fun hr => ?_, fun hr => ?_⟩⟩
 .subst e1 e2 e3; exact h6 ⟨p, m, v, K.fv⟩ hr
 have hF : FV P M mf p m v := by subst e1 e2 e3; exact K.fv
 obtain ⟨h4, h0⟩ := h p m v hF (by omega); have hq : 2 <= p ^ m := hF.ring.q2; have hq2 := hF.q; unfold ZU; rw [K.q]; dsimp only; refine Joj hq hq2 (by omega) (fun hc => ⟨(fun hh => by cases hh), fun _ => ?_⟩) (fun hc => ⟨fun _ => h4 hc, (fun hh => by cases hh)⟩); have h0 := h0 hc; obtain ⟨n, rfl⟩ := Int.eq_ofNat_of_zero_le (show 0 <= r by omega); rw [Int.toNat_natCast] at h0 hc; generalize p ^ m = q at *
 have hn : n <= 64 := Nat.le_trans (Z8 (by omega) n) hc; refine ⟨fun x z t => ∃ i : Nat, t = i /\ i <= n /\ z = ((q ^ i : Nat) : Int) /\ x = (pnl q i).map (cdg q n), fun _ _ t => (n - t).toNat, ⟨0, rfl, Nat.zero_le _, by simp, rfl⟩, ?_⟩; rintro _ _ _ ⟨i, rfl, hi, rfl, rfl⟩; dsimp only; refine ⟨fun hlt => ?_, fun hge => ?_⟩
 .obtain ⟨hp1, hp2⟩ := Jld hq (show i < n by omega) hc; have hci := Yb q (show i <= n by omega); refine ⟨fun x z => ∃ k : Nat, z = ((q ^ i + k : Nat) : Int) /\ k <= q ^ i /\ x = (pnl q i).map (cdg q n) ++ (List.range' (q ^ i) k).map (cdg q n), fun _ z => ((2 * q ^ i : Nat) - z).toNat, ⟨0, rfl, Nat.zero_le _, by simp⟩, ?_⟩; rintro _ _ ⟨k, rfl, hk, rfl⟩; dsimp only; refine ⟨Ju (by omega) (by omega), fun hlt2 => ?_, fun hge2 => ?_⟩
  .refine Jmo hq hq2 hn (by omega) ⟨?_, Ju (by omega) (by omega), ⟨k + 1, by generalize q ^ i = w at *; push_cast; omega, by omega, ?_⟩, by generalize q ^ i = w at *; omega⟩
   .rw [List.length_append, List.length_map, List.length_map, QQ, List.length_range']; omega
   .rw [List.range'_1_concat, List.map_append, List.append_assoc]; rfl
  .obtain rfl : k = q ^ i := by omega
   have hb : q ^ i * q <= 64 * 256 := Nat.mul_le_mul hp1 hq2; have e : ((q ^ i : Nat) : Int) * (q : Int) = ((q ^ i * q : Nat) : Int) := by push_cast; rfl
   rw [e]; exact ⟨YR (by omega), Ju (by omega) (by omega), ⟨i + 1, by push_cast; rfl, by omega, by rw [Nat.pow_succ], by rw [pnl, List.map_append]⟩, by omega⟩
 .obtain rfl : i = n := by omega
  exact h0
end
end Go.Proofs.Ytjgpkljepgcekaa
namespace Go.Proofs.Ytjgpkljepgcekaa
/-! ### the reference's points; the law of points -/
section
variable {P M : Int} {mf : LI} {p m v g : Nat} {F : GFv}
/-- the first digit other than 0 is 1 -/
def isP (q r x : Nat) : Bool := decide (∃ i, i < r /\ q ^ i <= x /\ x < 2 * q ^ i)
theorem Jni {q r i : Nat} (hq : 2 <= q) (hi : i < r) : (List.range' (q ^ i) (q ^ (i + 1) - q ^ i)).filter (isP q r) = List.range' (q ^ i) (q ^ i) := by
 have hp : 1 <= q ^ i := Nat.pos_of_ne_zero (fun e => by have := Nat.pow_eq_zero.1 e; omega); have hs : q ^ (i + 1) = q ^ i * q := Nat.pow_succ ..; have h2 : q ^ i * 2 <= q ^ i * q := Nat.mul_le_mul_left _ hq; have e : List.range' (q ^ i) (q ^ (i + 1) - q ^ i) = List.range' (q ^ i) (q ^ i) ++ List.range' (q ^ i + q ^ i) (q ^ (i + 1) - q ^ i - q ^ i) := by
  have := List.range'_append_1 (s := q ^ i) (m := q ^ i) (n := q ^ (i + 1) - q ^ i - q ^ i); rw [this]; congr 1; omega
 rw [e, List.filter_append, List.filter_eq_self.2, List.filter_eq_nil_iff.2, List.append_nil]
 .intro x hx; rw [List.mem_range'_1] at hx; simp only [isP, decide_eq_true_eq]; rintro ⟨j, hj, h3, h4⟩; rcases Nat.lt_trichotomy j i with h | h | h
  .have h5 : q ^ (j + 1) <= q ^ i := Nat.pow_le_pow_right (by omega) h; have h6 : q ^ (j + 1) = q ^ j * q := Nat.pow_succ ..; have h7 : q ^ j * 2 <= q ^ j * q := Nat.mul_le_mul_left _ hq; omega
  .subst h; omega
  .have h5 : q ^ (i + 1) <= q ^ j := Nat.pow_le_pow_right (by omega) h; omega
 .intro x hx; rw [List.mem_range'_1] at hx; simp only [isP, decide_eq_true_eq]; exact ⟨i, hi, hx.1, by omega⟩
theorem Jdm {q r : Nat} (hq : 2 <= q) : ∀ i, i <= r -> (List.range' 1 (q ^ i - 1)).filter (isP q r) = pnl q i
 | 0, _ => by simp [pnl]
 | i + 1, hi => by
  have hp : 1 <= q ^ i := Nat.pos_of_ne_zero (fun e => by have := Nat.pow_eq_zero.1 e; omega); have hs : q ^ (i + 1) = q ^ i * q := Nat.pow_succ ..; have h2 : q ^ i * 2 <= q ^ i * q := Nat.mul_le_mul_left _ hq; have e : List.range' 1 (q ^ (i + 1) - 1) = List.range' 1 (q ^ i - 1) ++ List.range' (q ^ i) (q ^ (i + 1) - q ^ i) := by
   have := List.range'_append_1 (s := 1) (m := q ^ i - 1) (n := q ^ (i + 1) - q ^ i); rw [show 1 + (q ^ i - 1) = q ^ i by omega] at this; rw [this]; congr 1; omega
  rw [e, List.filter_append, Jdm hq i (by omega), Jni hq (by omega)]; rfl
/-- what the scan of the digits finds -/
theorem Jsy {q r x : Nat} (hq : 2 <= q) (hx : 1 <= x) (hxr : x < q ^ r) {z : Int} (hz : ∀ k, k < r -> (∀ k', k' < k -> vo (cdg q r x) k' = 0) -> vo (cdg q r x) k ≠ 0 -> z = vo (cdg q r x) k) : (z = 1 ↔ isP q r x = true) := by
  obtain ⟨i, h1, h2⟩ : ∃ i, q ^ i <= x /\ x < q ^ (i + 1) := by
    have key : ∀ n, x < q ^ n -> ∃ i, q ^ i <= x /\ x < q ^ (i + 1) := by
      intro n
      induction n with
      | zero => intro h; simp at h; omega
      | succ n ih =>
        intro h
        rcases Nat.lt_or_ge x (q ^ n) with h3 | h3
        . exact ih h3
        . exact ⟨n, h3, h⟩
    exact key r hxr
  have hir : i < r := by
    rcases Nat.lt_or_ge i r with h | h
    . exact h
    . have : q ^ r <= q ^ i := Nat.pow_le_pow_right (by omega) h
      omega
  have hp : 1 <= q ^ i := Nat.pos_of_ne_zero (fun e => by have := Nat.pow_eq_zero.1 e; omega)
  have hs : q ^ (i + 1) = q ^ i * q := Nat.pow_succ ..
  have hdl : x / q ^ i < q := Nat.div_lt_of_lt_mul (by omega)
  have hd1 : 1 <= x / q ^ i := (Nat.one_le_div_iff (by omega)).2 h1
  have hv : vo (cdg q r x) (r - 1 - i) = ((x / q ^ i : Nat) : Int) := by
    rw [Jcv (by omega), show r - 1 - (r - 1 - i) = i by omega, Nat.mod_eq_of_lt hdl]
  have hz' := hz (r - 1 - i) (by omega) (fun k' hk' => by
    rw [Jcv (by omega)]
    have : q ^ (i + 1) <= q ^ (r - 1 - k') := Nat.pow_le_pow_right (by omega) (by omega)
    rw [Nat.div_eq_of_lt (by omega)]; simp) (by rw [hv]; omega)
  rw [hz', hv]
  simp only [isP, decide_eq_true_eq]
  constructor
  . intro h
    have h3 : x / q ^ i = 1 := by omega
    refine ⟨i, hir, h1, ?_⟩
    have := Nat.div_add_mod x (q ^ i)
    have := Nat.mod_lt x (show 0 < q ^ i by omega)
    rw [h3] at *
    omega
  . rintro ⟨j, hj, h3, h4⟩
    have hji : j = i := by
      rcases Nat.lt_trichotomy j i with h | h | h
      . have h5 : q ^ (j + 1) <= q ^ i := Nat.pow_le_pow_right (by omega) h
        have h6 : q ^ (j + 1) = q ^ j * q := Nat.pow_succ ..
        have h7 : q ^ j * 2 <= q ^ j * q := Nat.mul_le_mul_left _ hq
        omega
      . exact h
      . have h5 : q ^ (i + 1) <= q ^ j := Nat.pow_le_pow_right (by omega) h
        omega
    subst hji
    have : x / q ^ j = 1 := by
      have h5 : x / q ^ j < 2 := Nat.div_lt_of_lt_mul (by omega)
      omega
    omega
theorem ZC {r : Int} {Q : LL × Int -> Prop} (h1 : ¬ Qw P M mf -> Q ([], 1)) (h6 : Qw P M mf -> r < 1 -> Q ([], 6))
  (h : ∀ p m v, FV P M mf p m v -> 1 <= r -> (¬ cnt (p ^ m) r.toNat <= 64 -> Q ([], 4)) /\ (cnt (p ^ m) r.toNat <= 64 -> Q (pts (p ^ m) r.toNat, 0))) : ZM P M mf r Q := by
 refine Jot ⟨fun h0 => h1 fun hV => h0 (Jdr hV), fun h0 => ⟨fun hr => h6 (Classical.byContradiction fun hV => h0 (by rw [Q2 hV]; decide)) hr, fun hr => ?_⟩⟩; obtain ⟨p, m, v, hF⟩ : Qw P M mf := Classical.byContradiction fun hV => h0 (by rw [Q2 hV]; decide); obtain ⟨h4, h0⟩ := h p m v hF (by omega); refine Zn ?_; rw [hF.ord]; have hq : 2 <= p ^ m := hF.ring.q2; have hq2 := hF.q; obtain ⟨n, rfl⟩ := Int.eq_ofNat_of_zero_le (show 0 <= r by omega); rw [Int.toNat_natCast] at h0 h4; generalize p ^ m = q at *
 refine ⟨fun a b t => ∃ i : Nat, t = i /\ i <= n /\ a = ((cnt q i : Nat) : Int) /\ b = ((q ^ i : Nat) : Int) /\ cnt q i <= 64, fun _ _ t => (n - t).toNat, ⟨0, rfl, Nat.zero_le _, rfl, by simp, by simp [cnt]⟩, ?_⟩; rintro _ _ _ ⟨i, rfl, hi, rfl, rfl, hc⟩; dsimp only; have hb : ∀ j, cnt q j <= 64 -> q ^ j <= 64 * 256 := by
  intro j hj; cases j with
  | zero => simp
  | succ j =>
   rw [Yq] at hj; rw [Nat.pow_succ]; exact Nat.mul_le_mul (by omega) hq2
 have hbi := hb i hc; have hsi : q ^ i * q <= 64 * 256 * 256 := Nat.mul_le_mul hbi hq2; have hin := Z8 (show 1 <= q by omega) i; have hcs := Yq q i; have e : ((q ^ i : Nat) : Int) * (q : Int) = ((q ^ i * q : Nat) : Int) := by push_cast; rfl
 refine ⟨fun hlt => ⟨Ju (by omega) (by omega), fun hgt => h4 fun hle => ?_, fun hle => ?_⟩, fun hge => ?_⟩
 .have := Yb q (show i + 1 <= n by omega); omega
 .rw [e]; refine ⟨YR (by omega), Ju (by omega) (by omega), ⟨i + 1, by push_cast; rfl, by omega, by rw [hcs]; push_cast; rfl, by rw [Nat.pow_succ], by omega⟩, by omega⟩
 obtain rfl : i = n := by omega
 have h0 := h0 hc; have hp : 1 <= q ^ i := Nat.pos_of_ne_zero (fun e => by have := Nat.pow_eq_zero.1 e; omega); refine ⟨fun x z => ∃ k : Nat, z = ((1 + k : Nat) : Int) /\ 1 + k <= q ^ i /\ x = ((List.range' 1 k).filter (isP q i)).map (cdg q i), fun _ z => ((q ^ i : Nat) - z).toNat, ⟨0, rfl, by omega, by simp⟩, ?_⟩; rintro _ _ ⟨k, rfl, hk, rfl⟩; dsimp only; refine ⟨fun hlt => ?_, fun hge => ?_⟩
 .have hk2 : 1 + k < q ^ i := by omega
  have hfl : ((List.range' 1 k).filter (isP q i)).length <= k := by
   have := List.length_filter_le (isP q i) (List.range' 1 k); rw [List.length_range'] at this; exact this
  have hsucc : ((List.range' 1 (k + 1)).filter (isP q i)).map (cdg q i) = ((List.range' 1 k).filter (isP q i)).map (cdg q i) ++ (if isP q i (1 + k) = true then [cdg q i (1 + k)] else []) := by
   rw [List.range'_1_concat, List.filter_append, List.map_append]
   congr 1
   by_cases e1 : isP q i (1 + k) = true
   .rw [if_pos e1, List.filter_cons_of_pos e1]; rfl
   .rw [if_neg e1, List.filter_cons_of_neg e1]; rfl
  refine ⟨fun x _ _ _ _ _ _ _ => x = ((List.range' 1 (k + 1)).filter (isP q i)).map (cdg q i), ⟨⟨by omega, by omega, by omega⟩, Ju (by omega) (by omega), fun l z t => dgI q i (1 + k) l z t, fun _ _ t => (t + 1).toNat, by rw [Int.toNat_natCast]; exact dgI_0 q i (1 + k), ?_⟩, ?_⟩
  .intro l z t hI; refine ⟨fun ht => ?_, fun ht => ?_⟩
   .obtain ⟨g1, g2, g3, g4⟩ := Jhp hq hq2 (by omega) (by omega) hI ht; exact ⟨by omega, by rw [Int.toNat_natCast]; exact g1, ⟨by omega, g2⟩, g3, g4, by dsimp only; omega⟩
   obtain rfl := Jly hI ht; refine ⟨Ju (by omega) (by omega), fun a t => ∃ j : Nat, t = (j : Int) - 1 /\ j <= i /\ ∀ c, j <= c -> c < i -> (∀ c', j <= c' -> c' < c -> vo (cdg q i (1 + k)) c' = 0) -> vo (cdg q i (1 + k)) c ≠ 0 -> a = vo (cdg q i (1 + k)) c, fun _ t => (t + 1).toNat, ⟨i, rfl, Nat.le_refl _, fun c c1 c2 => by omega⟩, ?_⟩; rintro a _ ⟨j, rfl, hj, ha⟩; dsimp only; refine ⟨fun ht => ?_, fun ht => ?_⟩
   .have e1 : (j : Int) - 1 = ((j - 1 : Nat) : Int) := by omega
    have hgi : gi (cdg q i (1 + k)) ((j : Int) - 1) = vo (cdg q i (1 + k)) (j - 1) := by rw [e1]; rfl
    rw [hgi]; refine ⟨fun y => y = if vo (cdg q i (1 + k)) (j - 1) ≠ 0 then vo (cdg q i (1 + k)) (j - 1) else a, ⟨⟨by omega, by omega⟩, fun hne => ⟨⟨by omega, by omega⟩, (if_pos hne).symm⟩, fun he => (if_neg he).symm⟩, ?_⟩; rintro _ rfl; refine ⟨Ju (by omega) (by omega), ⟨j - 1, by omega, by omega, fun c c1 c2 c3 c4 => ?_⟩, by omega⟩; rcases Nat.eq_or_lt_of_le c1 with c5 | c5
    .subst c5; rw [if_pos c4]
    .have h0 := c3 (j - 1) (Nat.le_refl _) c5; rw [if_neg (fun hh => hh h0)]; exact ha c (by omega) c2 (fun c' d1 d2 => c3 c' (by omega) d2) c4
   obtain rfl : j = 0 := by omega
   have hl := Jsy hq (show 1 <= 1 + k by omega) hk2 (z := a) fun c c1 c2 c3 => ha c (Nat.zero_le _) c1 (fun c' _ d2 => c2 c' d2) c3; refine ⟨fun h1 => ⟨by rw [List.length_map]; omega, ?_⟩, fun h1 => ?_⟩
   .rw [hsucc, if_pos (hl.1 h1)]
   .rw [hsucc, if_neg (fun hh => h1 (hl.2 hh)), List.append_nil]
  .rintro _ _ _ _ _ _ _ _ rfl; exact ⟨Ju (by omega) (by omega), ⟨k + 1, by push_cast; omega, by omega, rfl⟩, by omega⟩
 .obtain rfl : k = q ^ i - 1 := by omega
  rw [Jdm hq i (Nat.le_refl _)]; exact h0
end
end Go.Proofs.Ytjgpkljepgcekaa
namespace Go.Proofs.Ytjgpkljepgcekaa
/-! ### repetition and parity codes -/
section
variable {P M : Int} {mf : LI} {p m v : Nat} {N C n : Int} {X Y : LL}
theorem sg_can (hF : FV P M mf p m v) (hs : shp C X) (he : Els p m X) : ∃ q, Sg P M mf p m v C (J8 p m v C X) q :=
 ⟨_, hF, Jdu hs, Jdv hF he, can_cn hF hs he⟩
end
end Go.Proofs.Ytjgpkljepgcekaa
namespace Go.Proofs.Ytjgpkljepgcekaa
/-! ### Hamming and simplex codes -/
section
variable {P M : Int} {mf : LI} {p m v : Nat} {N C r : Int} {X Y : LL}
/-- a column -/
def cl (A : LL) (c k : Nat) : LI := (List.range k).map fun t => vo (row A t) c
theorem cl_len (A : LL) (c k : Nat) : (cl A c k).length = k := by simp [cl]
theorem Jtd (A : LL) (c k : Nat) : cl A c (k + 1) = cl A c k ++ [vo (row A k) c] := by simp [cl, List.range_succ]
theorem vo_cl {A : LL} {c k t : Nat} (h : t < k) : vo (cl A c k) t = vo (row A t) c := by
 unfold cl; conv => lhs; unfold vo
 rw [List.getD_eq_getElem?_getD, List.getElem?_map, List.getElem?_range h]; rfl
/-- the generating rows of a simplex code -/
def smx (q r : Nat) : LL := tr r (pts q r)
theorem Y5 (q r : Nat) : (smx q r).length = r := tr_len _ _
theorem Jce {q r : Nat} (hr : r <= 64) (hc : cnt q r <= 64) : shp ((cnt q r : Nat) : Int) (smx q r) :=
 Jiy ⟨by omega, by omega⟩ (by rw [Y5]; omega) fun t ht => by rw [Y5] at ht; rw [smx, Jiu ht, Jcg, Int.toNat_natCast]
theorem Jk9 {q r t : Nat} (h : t < (pnl q r).length) : row (pts q r) t = cdg q r ((pnl q r).getD t 0) := by
 unfold row pts; rw [List.getD_eq_getElem?_getD, List.getElem?_map, List.getElem?_eq_getElem h, List.getD_eq_getElem?_getD, List.getElem?_eq_getElem h]; rfl
theorem vo_smx {q r i t : Nat} (hi : i < r) (ht : t < cnt q r) : vo (row (smx q r) i) t = (((pnl q r).getD t 0 / q ^ (r - 1 - i) % q : Nat) : Int) := by
 have h1 : t < (pnl q r).length := by rw [QQ]; exact ht
 rw [smx, Ji1 hi]; have := vo_cl (A := pts q r) (c := i) (k := (pts q r).length) (t := t) (by rw [Jcg]; exact ht); unfold cl at this; rw [this, Jk9 h1, Jcv hi]
theorem Je5 (hF : FV P M mf p m v) (r : Nat) : Els p m (smx (p ^ m) r) := by
 have q2 : 2 <= p ^ m := hF.ring.q2; refine fun l hl x hx => ?_; simp only [smx, tr, List.mem_map, List.mem_range] at hl; obtain ⟨c, hc, rfl⟩ := hl; simp only [List.mem_map, List.mem_range] at hx; obtain ⟨t, ht, rfl⟩ := hx; rw [Jcg, <- QQ] at ht; rw [Jk9 ht, Jcv hc]; have := Nat.mod_lt ((pnl (p ^ m) r).getD t 0 / (p ^ m) ^ (r - 1 - c)) (show 0 < p ^ m by omega); exact ⟨Int.natCast_nonneg _, Int.ofNat_lt.2 this⟩
theorem Jpi {q : Nat} (hq : 2 <= q) {j : Nat} : ∀ r, j < r -> (pnl q r).getD (cnt q j) 0 = q ^ j
 | 0, h => absurd h (Nat.not_lt_zero _)
 | r + 1, h => by
  rcases Nat.lt_or_ge j r with h2 | h2
  .have := Jpi hq r h2; have hc := Yb q (show j + 1 <= r by omega); rw [Yq] at hc; have hp : 1 <= q ^ j := Nat.pos_of_ne_zero (fun e => by have := Nat.pow_eq_zero.1 e; omega); rw [pnl, List.getD_eq_getElem?_getD, List.getElem?_append_left (by rw [QQ]; omega), <- List.getD_eq_getElem?_getD]; exact this
  .obtain rfl : j = r := by omega
   have hp : 1 <= q ^ j := Nat.pos_of_ne_zero (fun e => by have := Nat.pow_eq_zero.1 e; omega); rw [pnl, List.getD_eq_getElem?_getD, List.getElem?_append_right (by rw [QQ]; exact Nat.le_refl _), QQ, Nat.sub_self, List.getElem?_range' (by omega)]; simp
end
end Go.Proofs.Ytjgpkljepgcekaa
namespace Go.Proofs.Ytjgpkljepgcekaa
section
variable {P M : Int} {mf : LI} {p m v : Nat} {N C r : Int} {X Y : LL}
/-- rows of which the first i are whole, and the next one is so up to k -/
def smI (A : LL) (n i k : Nat) (x : LL) : Prop := x.length = n /\ (∀ t, t < i -> row x t = cl A t A.length) /\ (i < n -> row x i = cl A i k) /\ ∀ t, i < t -> t < n -> row x t = []
theorem Je9 {ls : LL} {i t : Nat} {l : LI} : row (sll ls (i : Int) l) t = if i = t /\ i < ls.length then l else row ls t := Yn ls i t l
theorem Jmr {Q : Int × Int × LI × Int × LL × Int -> Prop} (h1 : ¬ Qw P M mf -> Q (0, 0, [], 0, [], 1)) (h6 : Qw P M mf -> r < 1 -> Q (0, 0, [], 0, [], 6))
  (h : ∀ p m v, FV P M mf p m v -> 1 <= r -> (¬ cnt (p ^ m) r.toNat <= 64 -> Q (0, 0, [], 0, [], 4)) /\ (cnt (p ^ m) r.toNat <= 64 -> Q (P, M, mf, ((cnt (p ^ m) r.toNat : Nat) : Int), J8 p m v ((cnt (p ^ m) r.toNat : Nat) : Int) (smx (p ^ m) r.toNat), 0))) : ZT P M mf r Q := by
 refine Jok (fun hn => ⟨fun _ => h1 hn, fun hh => absurd (by decide) hh⟩) (fun hV hr => ⟨fun _ => h6 hV hr, fun hh => absurd (by decide) hh⟩) fun p m v hF hr => ⟨fun hc => ⟨fun _ => (h p m v hF hr).1 hc, fun hh => absurd (by decide) hh⟩, fun hc => ⟨fun hh => absurd rfl hh, fun _ => ?_⟩⟩
 have h := (h p m v hF hr).2 hc; have hq : 2 <= p ^ m := hF.ring.q2; have hq2 := hF.q; obtain ⟨n, rfl⟩ := Int.eq_ofNat_of_zero_le (show 0 <= r by omega); rw [Int.toNat_natCast] at *
 have hn : n <= 64 := Nat.le_trans (Z8 (by omega) n) hc; have hpl := Jcg (p ^ m) n; have hrl : ∀ t, t < (pts (p ^ m) n).length -> (row (pts (p ^ m) n) t).length = n := fun t ht => Jgv ht; have hfin : ∀ x, smI (pts (p ^ m) n) n n 0 x -> x = smx (p ^ m) n := fun x hx => by
  refine Yo (by rw [hx.1, Y5]) fun i hi => ?_; rw [hx.1] at hi; rw [hx.2.1 i hi, smx, Ji1 hi]; rfl
 have hNew : Jd5 P M mf (((pts (p ^ m) n).length : Nat) : Int) (smx (p ^ m) n) Q := by
  rw [hpl]; have hs := Jce (q := p ^ m) hn hc; have he := Je5 hF n; refine w_cNew (fun hh => ?_) fun p' m' v' hF' _ _ _ => ?_
  .have := Z8 (show 1 <= p ^ m by omega) n; unfold nck at hh; rw [Jdf ⟨p, m, v, hF⟩ hs ((Ya hF).2 he), if_neg (fun h => h rfl), if_pos (by omega)] at hh; exact absurd rfl hh
  .obtain ⟨rfl, rfl, rfl⟩ := hF.uniq3 hF'; exact h
 clear h; generalize hA : pts (p ^ m) n = A at *
 refine ⟨⟨by omega, by omega, by omega⟩, fun x z => ∃ i : Nat, z = i /\ i <= n /\ smI A n i 0 x, fun _ z => (n - z).toNat, ⟨0, rfl, Nat.zero_le _, by simp, fun t ht => absurd ht (Nat.not_lt_zero _), fun h0 => ?_, fun t _ ht => ?_⟩, ?_⟩
 .unfold row; rw [List.getD_eq_getElem?_getD, List.getElem?_replicate]; simp [h0, cl]
 .unfold row; rw [List.getD_eq_getElem?_getD, List.getElem?_replicate]; simp [ht]
 rintro x _ ⟨i, rfl, hi, hx⟩; dsimp only; refine ⟨fun hlt => ?_, fun hge => ?_⟩
 .have hin : i < n := by omega
  refine ⟨fun y z => ∃ k : Nat, z = k /\ k <= A.length /\ smI A n i k y, fun _ z => (A.length - z).toNat, ⟨0, rfl, Nat.zero_le _, hx⟩, ?_⟩; rintro y _ ⟨k, rfl, hk, hy⟩; dsimp only; refine ⟨fun hlt2 => ?_, fun hge2 => ?_⟩
  .have hgk : gl A (k : Int) = row A k := rfl; have hgi : gl y (i : Int) = cl A i k := hy.2.2.1 hin; have hrk := hrl k (by omega); rw [hgk, hgi]; refine ⟨fun z => smI A n i (k + 1) z, ⟨⟨by omega, by omega⟩, ⟨by omega, by omega⟩, ⟨by omega, by rw [hrk]; omega⟩, by rw [cl_len]; omega, ⟨by omega, by omega⟩, ?_, fun t ht => ?_, fun _ => ?_, fun t h3 h4 => ?_⟩, fun z hz => ⟨Ju (by omega) (by omega), ⟨k + 1, by push_cast; rfl, by omega, hz⟩, by omega⟩⟩
   .show (y.set _ _).length = n; rw [List.length_set]; exact hy.1
   .rw [Je9, if_neg (fun hh => by omega)]; exact hy.2.1 t ht
   .rw [Je9, if_pos ⟨rfl, by rw [hy.1]; exact hin⟩, Jtd]; rfl
   .rw [Je9, if_neg (fun hh => by omega)]; exact hy.2.2.2 t h3 h4
  .obtain rfl : k = A.length := by omega
   refine ⟨Ju (by omega) (by omega), ⟨i + 1, by push_cast; rfl, by omega, hy.1, fun t ht => ?_, fun h4 => ?_, fun t h3 h4 => hy.2.2.2 t (by omega) h4⟩, by omega⟩
   .rcases Nat.lt_or_ge t i with h5 | h5
    .exact hy.2.1 t h5
    .obtain rfl : t = i := by omega
     exact hy.2.2.1 hin
   .rw [hy.2.2.2 (i + 1) (by omega) h4]; rfl
 .obtain rfl : i = n := by omega
  rw [hfin x hx]; exact hNew
theorem Jtc {q n : Nat} (hn : 1 <= n) : 1 <= cnt q n := by
 cases n with
 | zero => omega
 | succ n => show 1 <= cnt q n * q + 1; omega
end
end Go.Proofs.Ytjgpkljepgcekaa
namespace Go.Proofs.Ytjgpkljepgcekaa
/-! ### every vector other than zero is one multiple of one point -/
section
variable {q r n : Nat} {A M : Nat -> Nat -> Nat}
def dg (q r x t : Nat) : Nat := x / q ^ (r - 1 - t) % q
theorem Jph (hq : 2 <= q) {x : Nat} (h : x ∈ pnl q r) : x < q ^ r /\ ∃ k, k < r /\ dg q r x k = 1 /\ ∀ k', k' < k -> dg q r x k' = 0 := by
 rw [<- Jdm hq r (Nat.le_refl _)] at h; obtain ⟨h1, h2⟩ := List.mem_filter.1 h; have h3 := List.mem_range'_1.1 h1; obtain ⟨i, hi, ha, hb⟩ := of_decide_eq_true h2; have hp : ∀ k, 1 <= q ^ k := fun k => Nat.pos_of_ne_zero (fun e => by have := Nat.pow_eq_zero.1 e; omega); have hp' := hp r; refine ⟨by omega, r - 1 - i, by omega, ?_, fun k' hk' => ?_⟩
 .unfold dg; rw [show r - 1 - (r - 1 - i) = i by omega]; have : x / q ^ i = 1 := by
   rw [Nat.div_eq_iff (hp i)]; have := hp i; omega
  rw [this, Nat.mod_eq_of_lt (by omega)]
 .unfold dg; have h5 : q ^ (i + 1) <= q ^ (r - 1 - k') := Nat.pow_le_pow_right (by omega) (by omega); have h6 : q ^ i * 2 <= q ^ (i + 1) := by rw [Nat.pow_succ]; exact Nat.mul_le_mul_left _ hq
  rw [Nat.div_eq_of_lt (by omega)]; exact Nat.zero_mod _
end
end Go.Proofs.Ytjgpkljepgcekaa
namespace Go.Proofs.Ytjgpkljepgcekaa
/-! ### how many points lie off a hyperplane -/
section
variable {q r n : Nat} {A M : Nat -> Nat -> Nat} {y : Nat -> Nat}
/-- how many of the first n numbers keep f -/
def cn (f : Nat -> Bool) : Nat -> Nat
  | 0 => 0
  | n + 1 => cn f n + if f n then 1 else 0
theorem Jhq {f g : Nat -> Bool} : ∀ n, (∀ i, i < n -> f i = g i) -> cn f n = cn g n
 | 0, _ => rfl
 | n + 1, h => by show cn f n + _ = cn g n + _; rw [Jhq n fun i hi => h i (by omega), h n (by omega)]
theorem Jf2 (f : Nat -> Bool) (a : Nat) : ∀ b, cn f (a + b) = cn f a + cn (fun i => f (a + i)) b
 | 0 => rfl
 | b + 1 => by
  show cn f (a + b) + (if f (a + b) then 1 else 0) = cn f a + (cn (fun i => f (a + i)) b + if f (a + b) then 1 else 0)
  rw [Jf2 f a b, Nat.add_assoc]
theorem Jqg {f : Nat -> Bool} : ∀ n, (∀ i, i < n -> f i = true) -> cn f n = n
 | 0, _ => rfl
 | n + 1, h => by show cn f n + _ = _; rw [Jqg n fun i hi => h i (by omega), h n (by omega)]; rfl
theorem Jf1 {f : Nat -> Bool} : ∀ n, (∀ i, i < n -> f i = false) -> cn f n = 0
 | 0, _ => rfl
 | n + 1, h => by show cn f n + _ = _; rw [Jf1 n fun i hi => h i (by omega), h n (by omega)]; rfl
theorem Jqf {f : Nat -> Bool} {a v : Nat} : ∀ D, (∀ d, d < D -> cn (fun i => f (a * d + i)) a = v) -> cn f (a * D) = v * D
 | 0, _ => by rw [Nat.mul_zero, Nat.mul_zero]; rfl
 | D + 1, h => by rw [Nat.mul_succ, Jf2, Jqf D fun d hd => h d (by omega), h D (by omega), Nat.mul_succ]
theorem Jl1 {f : Nat -> Bool} {a d0 : Nat} : ∀ D, (∀ d, d < D -> cn (fun i => f (a * d + i)) a = if d = d0 then 0 else a) -> cn f (a * D) + (if d0 < D then a else 0) = a * D
 | 0, _ => by rw [if_neg (Nat.not_lt_zero _)]; rfl
 | D + 1, h => by
  have ih := Jl1 D fun d hd => h d (by omega); rw [Nat.mul_succ, Jf2, h D (by omega)]; by_cases e : D = d0
  .have a1 : ¬ d0 < D := by omega
   have a2 : d0 < D + 1 := by omega
   rw [if_neg a1] at ih; rw [if_pos e, if_pos a2]; omega
  .by_cases e2 : d0 < D
   .have a2 : d0 < D + 1 := by omega
    rw [if_pos e2] at ih; rw [if_neg e, if_pos a2]; omega
   .have a2 : ¬ d0 < D + 1 := by omega
    rw [if_neg e2] at ih; rw [if_neg e, if_neg a2]; omega
/-- a sum over the digits of a number -/
def Lf (q : Nat) (A M : Nat -> Nat -> Nat) (y : Nat -> Nat) : Nat -> Nat -> Nat
  | 0, _ => 0
  | k + 1, x => A (Lf q A M y k x) (M (y k) (x / q ^ k % q))
theorem Lf_lt (R : CR q A M) : ∀ k x, Lf q A M y k x < q
 | 0, _ => by have := R.q2; show 0 < q; omega
 | k + 1, _ => R.Al _ _
theorem Jkp (hq : 2 <= q) {K : Nat} (z d : Nat) : ∀ k, k <= K -> Lf q A M y k (q ^ K * d + z) = Lf q A M y k z
 | 0, _ => rfl
 | k + 1, h => by
  show A (Lf q A M y k _) (M (y k) _) = A (Lf q A M y k z) (M (y k) _); rw [Jkp hq z d k (by omega)]; have e : q ^ K = q ^ k * (q * q ^ (K - k - 1)) := by
   rw [Nat.mul_comm q, <- Nat.pow_succ, <- Nat.pow_add]; congr 1; omega
  have hp : 0 < q ^ k := Nat.pos_of_ne_zero (fun e => by have := Nat.pow_eq_zero.1 e; omega); have e2 : (q ^ K * d + z) / q ^ k % q = z / q ^ k % q := by
   rw [e, Nat.mul_assoc, Nat.mul_add_div hp, Nat.mul_assoc, Nat.mul_add_mod]
  rw [e2]
theorem Jgf (R : CR q A M) : ∀ k x, (∀ t, t < k -> y t = 0) -> Lf q A M y k x = 0
 | 0, _, _ => rfl
 | k + 1, x, h => by
  have := R.q2; show A (Lf q A M y k x) (M (y k) _) = 0; have hm : x / q ^ k % q < q := Nat.mod_lt _ (by omega); rw [Jgf R k x fun t ht => h t (by omega), h k (by omega), R.Mc (by omega) hm, R.M0 hm, R.Az (by omega)]
def nf (q : Nat) (A M : Nat -> Nat -> Nat) (y : Nat -> Nat) (k c : Nat) (z : Nat) : Bool := decide (A c (Lf q A M y k z) ≠ 0)
theorem Jpv (R : CR q A M) (hy : ∀ t, y t < q) {k c d : Nat} (hc : c < q) (hd : d < q) : cn (fun i => nf q A M y (k + 1) c (q ^ k * d + i)) (q ^ k) = cn (nf q A M y k (A c (M (y k) d))) (q ^ k) := by
 have hq := R.q2; have hp : 0 < q ^ k := Nat.pos_of_ne_zero (fun e => by have := Nat.pow_eq_zero.1 e; omega); refine Jhq _ fun i hi => ?_; unfold nf
 congr 2
 show A c (A (Lf q A M y k (q ^ k * d + i)) (M (y k) ((q ^ k * d + i) / q ^ k % q))) = _; rw [Jkp hq i d k (Nat.le_refl _), Nat.mul_add_div hp, Nat.div_eq_of_lt hi, Nat.add_zero, Nat.mod_eq_of_lt hd, R.Ac (Lf q A M y k i), R.Aa hc (R.Ml _ _) (Lf_lt R _ _)]
theorem Q3 (hq : 2 <= q) (k : Nat) : 1 <= q ^ k := Nat.pos_of_ne_zero (fun e => by have := Nat.pow_eq_zero.1 e; omega)
theorem Jlp (R : CR q A M) {k c : Nat} (hc : c < q) (h : ∀ t, t < k -> y t = 0) : cn (nf q A M y k c) (q ^ k) = if c = 0 then 0 else q ^ k := by
 have hv : ∀ z, nf q A M y k c z = decide (c ≠ 0) := fun z => by unfold nf; rw [Jgf R k z h, R.Az hc]
 by_cases e : c = 0
 .rw [if_pos e]; exact Jf1 _ fun i _ => by rw [hv, e]; rfl
 .rw [if_neg e]; exact Jqg _ fun i _ => by rw [hv]; exact decide_eq_true e
theorem Jhf (R : CR q A M) (hi : ∀ x, x < q -> x ≠ 0 -> ∃ y, y < q /\ M x y = 1) (hy : ∀ t, y t < q) : ∀ k c, c < q -> (∃ t, t < k /\ y t ≠ 0) -> cn (nf q A M y k c) (q ^ k) + q ^ (k - 1) = q ^ k
 | 0, _, _, ⟨t, h, _⟩ => absurd h (Nat.not_lt_zero _)
 | k + 1, c, hc, ⟨t, ht, hn⟩ => by
  have hq := R.q2; rw [Nat.add_sub_cancel, Nat.pow_succ]; by_cases e : ∃ t, t < k /\ y t ≠ 0
  .have hk : 1 <= k := by obtain ⟨t, a, _⟩ := e; omega
   have hb : cn (nf q A M y (k + 1) c) (q ^ k * q) = (q ^ k - q ^ (k - 1)) * q := Jqf q fun d hd => by
    rw [Jpv R hy hc hd]; have := Jhf R hi hy k _ (R.Al c (M (y k) d)) e; omega
   have e3 : q ^ (k - 1) * q = q ^ k := by rw [<- Nat.pow_succ]; congr 1; omega
   rw [hb, Nat.sub_mul, e3]; have : q ^ k * 1 <= q ^ k * q := Nat.mul_le_mul_left _ (by omega); omega
  .have h0 : ∀ t, t < k -> y t = 0 := fun t ht => Classical.byContradiction fun h => e ⟨t, ht, h⟩; have hk0 : y k ≠ 0 := by
    rcases Nat.lt_or_ge t k with h | h
    .exact absurd (h0 t h) hn
    .obtain rfl : t = k := by omega
     exact hn
   obtain ⟨z, hz, hz1⟩ := hi (y k) (hy k) hk0; obtain ⟨nc, hnc, hnc0⟩ := R.An hc; have hu : ∀ d, d < q -> (A c (M (y k) d) = 0 ↔ d = M z nc) := fun d hd => by
    constructor
    .intro h; have e1 : M (y k) d = nc := by
      have e : A nc (A c (M (y k) d)) = A (A nc c) (M (y k) d) := (R.Aa hnc hc (R.Ml _ _)).symm; rw [h, R.Az hnc, R.Ac nc c, hnc0, R.Ac, R.Az (R.Ml _ _)] at e; exact e.symm
     rw [<- e1, <- R.Ma hz (hy k) hd, R.Mc hz (hy k), hz1, R.Mc (by omega) hd, R.M1 hd]
    .rintro rfl; rw [<- R.Ma (hy k) hz hnc, hz1, R.Mc (by omega) hnc, R.M1 hnc, hnc0]
   have hb := Jl1 (f := nf q A M y (k + 1) c) (a := q ^ k) (d0 := M z nc) q fun d hd => by
    rw [Jpv R hy hc hd, Jlp R (R.Al _ _) h0]; by_cases e : d = M z nc
    .rw [if_pos e, if_pos ((hu d hd).2 e)]
    .rw [if_neg e, if_neg fun h => e ((hu d hd).1 h)]
   rw [if_pos (R.Ml _ _)] at hb; exact hb
/-- how many of a list keep f -/
def wl (f : Nat -> Bool) (l : List Nat) : Nat := (l.filter f).length
theorem Joe (f : Nat -> Bool) (s : Nat) : ∀ n, wl f (List.range' s n) = cn (fun i => f (s + i)) n
 | 0 => rfl
 | n + 1 => by
  have : List.range' s (n + 1) = List.range' s n ++ [s + n] := by rw [List.range'_concat]; simp
  unfold wl; rw [this, List.filter_append, List.length_append]; show wl f (List.range' s n) + _ = cn _ n + _; rw [Joe f s n]; by_cases h : f (s + n) = true
  .simp [h]
  .simp [h]
theorem wl_cg {f g : Nat -> Bool} {l : List Nat} (h : ∀ x, x ∈ l -> f x = g x) : wl f l = wl g l := by
 unfold wl; rw [List.filter_congr h]
theorem Jpg (hq : 2 <= q) {x : Nat} (h : x ∈ pnl q r) : x < q ^ r := (Jph hq h).1
def lnz (q : Nat) (A M : Nat -> Nat -> Nat) (y : Nat -> Nat) (k z : Nat) : Bool := decide (Lf q A M y k z ≠ 0)
theorem Jpf (R : CR q A M) (hy : ∀ t, y t < q) (k : Nat) : wl (lnz q A M y (k + 1)) (pnl q (k + 1)) = wl (lnz q A M y k) (pnl q k) + cn (nf q A M y k (y k)) (q ^ k) := by
 have hq := R.q2; have hp := Q3 hq k; have e : pnl q (k + 1) = pnl q k ++ List.range' (q ^ k) (q ^ k) := rfl; have hs : wl (lnz q A M y (k + 1)) (pnl q (k + 1)) = wl (lnz q A M y (k + 1)) (pnl q k) + wl (lnz q A M y (k + 1)) (List.range' (q ^ k) (q ^ k)) := by
  unfold wl; rw [e, List.filter_append, List.length_append]
 rw [hs]
 congr 1
 .refine wl_cg fun x hx => ?_; have := Jpg hq hx; unfold lnz
  congr 2
  show A (Lf q A M y k x) (M (y k) (x / q ^ k % q)) = _; rw [Nat.div_eq_of_lt this, Nat.zero_mod, R.M0 (hy k), R.Az (Lf_lt R _ _)]
 .rw [Joe]; refine Jhq _ fun i hi => ?_; unfold lnz nf
  congr 2
  show A (Lf q A M y k (q ^ k + i)) (M (y k) ((q ^ k + i) / q ^ k % q)) = _; have e1 := Jkp (q := q) (A := A) (M := M) (y := y) hq i 1 k (Nat.le_refl _); rw [Nat.mul_one] at e1; have e2 : (q ^ k + i) / q ^ k = 1 := by
   have := Nat.mul_add_div hp 1 i; rw [Nat.mul_one, Nat.div_eq_of_lt hi] at this; exact this
  rw [e1, e2, Nat.mod_eq_of_lt (by omega), R.M1 (hy k), R.Ac]
theorem Jgy (R : CR q A M) {k : Nat} (h : ∀ t, t < k -> y t = 0) : wl (lnz q A M y k) (pnl q k) = 0 := by
 have e : wl (lnz q A M y k) (pnl q k) = wl (fun _ => false) (pnl q k) := wl_cg fun x _ => by unfold lnz; rw [Jgf R k x h]; rfl
 rw [e]; simp [wl]
theorem Jla (R : CR q A M) (hi : ∀ x, x < q -> x ≠ 0 -> ∃ y, y < q /\ M x y = 1) (hy : ∀ t, y t < q) : ∀ k, (∃ t, t < k /\ y t ≠ 0) -> wl (lnz q A M y k) (pnl q k) = q ^ (k - 1)
 | 0, ⟨t, h, _⟩ => absurd h (Nat.not_lt_zero _)
 | k + 1, ⟨t, ht, hn⟩ => by
  rw [Jpf R hy, Nat.add_sub_cancel]; by_cases e : ∃ t, t < k /\ y t ≠ 0
  .have h1 := Jla R hi hy k e; have h2 := Jhf R hi hy k (y k) (hy k) e; omega
  .have h0 : ∀ t, t < k -> y t = 0 := fun t ht => Classical.byContradiction fun h => e ⟨t, ht, h⟩; have hk0 : y k ≠ 0 := by
    rcases Nat.lt_or_ge t k with h | h
    .exact absurd (h0 t h) hn
    .obtain rfl : t = k := by omega
     exact hn
   rw [Jgy R h0, Jlp R (hy k) h0, if_neg hk0, Nat.zero_add]
end
end Go.Proofs.Ytjgpkljepgcekaa
namespace Go.Proofs.Ytjgpkljepgcekaa
/-! ### simplex codes: every word but zero has the same weight -/
section
variable {P M : Int} {mf : LI} {p m v n g : Nat} {F : GFv} {N C r : Int} {X Y : LL} {y u : LI}
theorem w_fits {x : LI} {Q : Int -> Prop} (K : GFk F p m v g) (hX : X.length <= 1000000) (h : Q (vce p m x X.length)) : Jgd F x C X Q := by
 refine ⟨fun hne => ?_, fun he => ?_⟩
 .have hne' : x.length ≠ X.length := by omega
  unfold vce at h; rw [if_pos hne'] at h; exact h
 .have he' : x.length = X.length := by have := Classical.not_not.1 he; omega
  unfold vce at h; rw [if_neg (fun hh => hh he')] at h; refine ZX K (by omega) (fun h1 => ?_) (fun h1 => ?_)
  .rw [if_neg (fun hh => hh h1)] at h; exact ⟨fun h0 => absurd h0 (by decide), fun _ => h⟩
  .rw [if_pos h1] at h; exact ⟨fun _ => h, fun h0 => absurd h0 (by decide)⟩
theorem w_Vec {x : LI} {Q : LI × Int -> Prop} (hb : mck P M mf C X ≠ 0 -> Q ([], mck P M mf C X))
  (h : ∀ p m v, FV P M mf p m v -> shp C X -> Els p m X -> mck P M mf C X = 0 -> (vce p m x X.length ≠ 0 -> Q ([], vce p m x X.length)) /\ (vce p m x X.length = 0 -> Q (cmb p m v x C.toNat X X.length, 0))) : Jmi P M mf x C X Q := by
 refine Je0 (fun h0 _ => hb h0) fun F p m v g K hF hs he h0 => ?_; have hfin := h p m v hF hs he h0; refine w_fits K (by have := Je6 hs; omega) ⟨hfin.1, fun h1 => ?_⟩; have h1' : vce p m x X.length = 0 := Classical.not_not.1 h1; exact Jmn K hs (Joq h1').1 (hfin.2 h1')
theorem Jmp {q : Nat -> Nat} {Q : LI × Int -> Prop} (G : Sg P M mf p m v N X q) (h1 : 1 <= N /\ N <= 64) (hno : ∀ e : Int, e ≠ 0 -> ¬ (y.length = X.length /\ Elr p m y) -> Q ([], e)) (h : y.length = X.length -> Elr p m y -> Q (cmb p m v y N.toNat X X.length, 0)) : Y4 P M mf N X y Q := by
 unfold Y4 YN; have hl := Je6 G.s; refine Joi ?_; rw [cck_ok G h1.1 h1.2]; refine ⟨fun hh => absurd rfl hh, fun _ => ⟨fun hne => ⟨fun _ => hno 4 (by decide) fun hh => hne (by rw [hh.1]), fun hh => absurd (by decide) hh⟩, fun heq => ?_⟩⟩; have heq : y.length = X.length := by have := Classical.not_not.1 heq; omega
 refine Jgh ?_; have hone : shp ((X.length : Nat) : Int) [y] := Jsj (by omega) (by omega); by_cases hye : Elr p m y
 .rw [Jdf ⟨p, m, v, G.f⟩ hone ((Ya G.f).2 (Jli.2 hye))]; have hm0 : mck P M mf N X = 0 := Jdf ⟨p, m, v, G.f⟩ G.s ((Ya G.f).2 G.e); refine ⟨fun hh => absurd rfl hh, fun _ => ⟨_, _, w_Vec (fun hh => absurd hm0 hh) fun p' m' v' hF' _ _ _ => ?_, h heq hye⟩⟩; obtain ⟨rfl, rfl, rfl⟩ := G.f.uniq3 hF'; have hv : vce p m y X.length = 0 := by unfold vce; rw [if_neg (fun hh => hh heq), if_neg (fun hh => hh hye)]
  exact ⟨fun hh => absurd hv hh, fun _ => rfl⟩
 .have h2 : mck P M mf ((X.length : Nat) : Int) [y] = 2 := by
   unfold mck; rw [if_neg (fun hh => hh ⟨p, m, v, G.f⟩), if_neg (fun hh => hh hone), if_pos fun hh => hye (Jli.1 ((Ya G.f).1 hh))]
  rw [h2]; exact ⟨fun _ => hno 2 (by decide) fun hh => hye hh.2, fun hh => absurd (by decide) hh⟩
def wt (y : LI) : Nat := cn (fun i => decide (vo y i ≠ 0)) y.length
theorem cn_le (f : Nat -> Bool) : ∀ n, cn f n <= n
 | 0 => Nat.le_refl _
 | n + 1 => by
  have := cn_le f n; show cn f n + (if f n then 1 else 0) <= n + 1; split <;> omega
theorem Jcs {Q : Int -> Prop} (hF : FV P M mf p m v) (hye : Elr p m y) (hl : y.length <= 1000) (h : Q ((wt y : Nat) : Int)) : Q4 P M mf y Q := by
 unfold Q4 YJ ZN; refine Zn ?_; rw [hF.ord]; refine ⟨⟨by omega, by omega, by omega⟩, fun x z => ∃ k : Nat, z = k /\ k <= y.length /\ x.length = y.length /\ ∀ i, i < k -> vo x i = vo y i, fun _ z => (y.length - z).toNat, ⟨0, rfl, Nat.zero_le _, by simp, fun i hi => absurd hi (Nat.not_lt_zero _)⟩, ?_⟩; rintro x _ ⟨k, rfl, hk, hx, hv⟩; dsimp only; refine ⟨fun hlt => ?_, fun hge => ?_⟩
 .have hel := Z5 hye (t := k) (by omega); have e0 : gi y (k : Int) = vo y k := rfl; rw [e0]; refine ⟨fun x _ => x.length = y.length /\ ∀ i, i < k + 1 -> vo x i = vo y i, ⟨⟨by omega, by omega⟩, fun _ => ⟨⟨by omega, by omega⟩, fun _ => ⟨⟨by omega, by omega⟩, ⟨by omega, by omega⟩, by rw [Qj, List.length_set]; exact hx, fun i hi => ?_⟩, fun hh => absurd hel.2 hh⟩, fun hh => absurd hel.1 hh⟩, ?_⟩
  .rw [Qj, Qp]; by_cases e : k = i
   .rw [if_pos ⟨e, by omega⟩, e]
   .rw [if_neg fun hh => e hh.1]; exact hv i (by omega)
  .rintro x b ⟨a1, a2⟩; exact ⟨Ju (by omega) (by omega), ⟨k + 1, by push_cast; rfl, by omega, a1, a2⟩, by omega⟩
 obtain rfl : y = x := (Yu hx fun i hi => hv i (by omega)).symm; refine ⟨fun x z => ∃ k : Nat, z = k /\ k <= y.length /\ x.length = cn (fun i => decide (vo y i ≠ 0)) k, fun _ z => (y.length - z).toNat, ⟨0, rfl, Nat.zero_le _, rfl⟩, ?_⟩; rintro x _ ⟨j, rfl, hj, hx⟩; dsimp only; refine ⟨fun hlt => ?_, fun hge => ?_⟩
 .have hle := cn_le (fun i => decide (vo y i ≠ 0)) j; have e0 : gi y (j : Int) = vo y j := rfl; rw [e0]; have hs : cn (fun i => decide (vo y i ≠ 0)) (j + 1) = cn (fun i => decide (vo y i ≠ 0)) j + if decide (vo y j ≠ 0) = true then 1 else 0 := rfl
  refine ⟨fun x => x.length = cn (fun i => decide (vo y i ≠ 0)) (j + 1), ⟨⟨by omega, by omega⟩, fun hne => ⟨by omega, ?_⟩, fun he => ?_⟩, ?_⟩
  .show (x ++ [(j : Int)]).length = cn (fun i => decide (vo y i ≠ 0)) (j + 1); rw [hs, if_pos (decide_eq_true hne), List.length_append, hx]; rfl
  .show x.length = cn (fun i => decide (vo y i ≠ 0)) (j + 1); rw [hs, if_neg (fun hh => he (of_decide_eq_true hh)), hx]; rfl
  .intro x hx2; exact ⟨Ju (by omega) (by omega), ⟨j + 1, by push_cast; rfl, by omega, hx2⟩, by omega⟩
 .obtain rfl : j = y.length := by omega
  have : (x.length : Int) = ((wt y : Nat) : Int) := by rw [hx]; rfl
  show Q (x.length : Int); rw [this]; exact h
/-! ### the canonical rows of a simplex code -/
def rsx (q r : Nat) : LL := (List.range r).map fun i => row (smx q r) (r - 1 - i)
theorem QG (q r : Nat) : (rsx q r).length = r := by simp [rsx]
theorem Jaq {q r i : Nat} (h : i < r) : row (rsx q r) i = row (smx q r) (r - 1 - i) := Jcf h
theorem Jiq {q r i t : Nat} (hi : i < r) (ht : t < cnt q r) : vo (row (rsx q r) i) t = (((pnl q r).getD t 0 / q ^ i % q : Nat) : Int) := by
 rw [Jaq hi, vo_smx (by omega) ht, show r - 1 - (r - 1 - i) = i by omega]
theorem Jle {q i : Nat} (hq : 2 <= q) : ∀ r, i <= r -> ∀ c, c < cnt q i -> (pnl q r).getD c 0 < q ^ i
 | 0, h, c, hc => by
  obtain rfl : i = 0 := by omega
  exact absurd hc (Nat.not_lt_zero _)
 | r + 1, h, c, hc => by
  by_cases e : i = r + 1
  .subst e; refine Jpg hq ?_; rw [List.getD_eq_getElem?_getD, List.getElem?_eq_getElem (by rw [QQ]; exact hc)]; exact List.getElem_mem _
  .have h2 := Yb q (show i <= r by omega); have := Jle hq r (by omega) c hc; rw [pnl, List.getD_eq_getElem?_getD, List.getElem?_append_left (by rw [QQ]; omega), <- List.getD_eq_getElem?_getD]; exact this
theorem Jsb {q r : Nat} (hq : 2 <= q) : Cnl (cnt q r) (rsx q r) (cnt q) := by
 have lt : ∀ i, i < r -> cnt q i < cnt q r := fun i hi => by
  have := Yb q (show i + 1 <= r by omega); rw [Yq] at this; have := Q3 hq i; omega
 refine ⟨fun i hi => lt i (by rw [QG] at hi; exact hi), fun i hi t ht => ?_, fun i hi c hc => ?_, fun i j hij hj => ?_⟩
 .rw [QG] at hi ht; rw [Jiq ht (lt i hi), Jpi hq r hi]; rcases Nat.lt_trichotomy t i with h | h | h
  .rw [if_neg (by omega)]; have e : q ^ i = q ^ t * (q * q ^ (i - t - 1)) := by
    rw [Nat.mul_comm q, <- Nat.pow_succ, <- Nat.pow_add]; congr 1; omega
   rw [e, Nat.mul_div_cancel_left _ (Q3 hq t), Nat.mul_mod_right]; rfl
  .subst h; rw [if_pos rfl, Nat.div_self (Q3 hq t), Nat.mod_eq_of_lt (by omega)]; rfl
  .rw [if_neg (by omega)]; have : q ^ i < q ^ t := Nat.pow_lt_pow_right (by omega) h; rw [Nat.div_eq_of_lt this, Nat.zero_mod]; rfl
 .rw [QG] at hi; have h2 := lt i hi; rw [Jiq hi (by omega), Nat.div_eq_of_lt (Jle hq r (by omega) c hc), Nat.zero_mod]; rfl
 .have := Yb q (show i + 1 <= j by omega); rw [Yq] at this; have := Q3 hq i; omega
theorem Jk8 {q r : Nat} (hr : r <= 64) (hc : cnt q r <= 64) : shp ((cnt q r : Nat) : Int) (rsx q r) :=
 Jiy ⟨by omega, by omega⟩ (by rw [QG]; omega) fun t ht => by
  rw [QG] at ht; rw [Jaq ht, Y6 (Jce hr hc) (by rw [Y5]; omega)]
theorem Jl3 {f : (Nat -> Nat) -> Nat} (h : ∀ t, t < X.length -> ∃ s, s < Y.length /\ row X t = row Y s) (hY : Ann p m f Y) : Ann p m f X := fun t ht => by
 obtain ⟨s, hs, e⟩ := h t ht; rw [e]; exact hY s hs
theorem Jtf (hF : FV P M mf p m v) (hr : n <= 64) (hc : cnt (p ^ m) n <= 64) : J8 p m v ((cnt (p ^ m) n : Nat) : Int) (smx (p ^ m) n) = rsx (p ^ m) n /\ Els p m (rsx (p ^ m) n) := by
 have hq : 2 <= p ^ m := hF.ring.q2; have he := Je5 hF n; have er : Els p m (rsx (p ^ m) n) := Jdn fun t ht => by
  rw [QG] at ht; rw [Jaq ht]; exact he _ (Jar (by rw [Y5]; omega))
 refine ⟨?_, er⟩; have h1 := (Jtg hF (Jk8 hr hc) er (q := cnt (p ^ m)) (by rw [Int.toNat_natCast]; exact Jsb hq)).1; rw [<- h1]; refine (Jqj hF (Jce hr hc) he (Jk8 hr hc) er fun f L => ⟨Jl3 fun t ht => ?_, Jl3 fun t ht => ?_⟩).2
 .rw [QG] at ht; exact ⟨n - 1 - t, by rw [Y5]; omega, Jaq ht⟩
 .rw [Y5] at ht; exact ⟨n - 1 - t, by rw [QG]; omega, by rw [Jaq (by omega), show n - 1 - (n - 1 - t) = t by omega]⟩
theorem wl_cn (f : Nat -> Bool) : ∀ l : List Nat, wl f l = cn (fun j => f (l.getD j 0)) l.length
 | [] => rfl
 | a :: l => by
  have h1 : wl f (a :: l) = (if f a then 1 else 0) + wl f l := by
   unfold wl; by_cases h : f a = true
   .simp [h]; omega
   .simp [h]
  rw [h1, List.length_cons, Nat.add_comm l.length 1, Jf2, wl_cn f l]
  congr 1
  .show _ = 0 + if f ((a :: l).getD 0 0) then 1 else 0
   rw [Nat.zero_add]; rfl
  .refine Jhq _ fun i _ => ?_; rw [Nat.add_comm 1 i]; rfl
theorem fs_Lf {f : Nat -> Nat} {ye : Nat -> Nat} {x : Nat} : ∀ k, (∀ i, i < k -> f i = Jr p m (dv p v) (ye i) (x / (p ^ m) ^ i % (p ^ m))) -> fs p m f k = Lf (p ^ m) (JN p m) (Jr p m (dv p v)) ye k x
 | 0, _ => rfl
 | k + 1, h => by
  show JN p m (fs p m f k) (f k) = JN p m (Lf (p ^ m) (JN p m) (Jr p m (dv p v)) ye k x) _; rw [fs_Lf k fun i hi => h i (by omega), h k (by omega)]
theorem wt_smx (hF : FV P M mf p m v) (hr : n <= 64) (hc : cnt (p ^ m) n <= 64) : wt (cmb p m v y (cnt (p ^ m) n) (rsx (p ^ m) n) n) = wl (lnz (p ^ m) (JN p m) (Jr p m (dv p v)) (en p m y) n) (pnl (p ^ m) n) := by
 have hq : 2 <= p ^ m := hF.ring.q2; rw [wl_cn, QQ]; unfold wt; rw [Ja2]; refine Jhq _ fun j hj => ?_; have e1 : en p m (cmb p m v y (cnt (p ^ m) n) (rsx (p ^ m) n) n) j = Lf (p ^ m) (JN p m) (Jr p m (dv p v)) (en p m y) n ((pnl (p ^ m) n).getD j 0) := by
  rw [Jqh hF hj]; refine fs_Lf n fun i hi => ?_; have e2 : en p m (row (rsx (p ^ m) n) i) j = (pnl (p ^ m) n).getD j 0 / (p ^ m) ^ i % (p ^ m) := by
   unfold en; rw [Jiq hi hj]; exact Qk (Nat.mod_lt _ (by omega))
  rw [e2]; rfl
 have e3 : ((en p m (cmb p m v y (cnt (p ^ m) n) (rsx (p ^ m) n) n) j : Nat) : Int) = vo (cmb p m v y (cnt (p ^ m) n) (rsx (p ^ m) n) n) j := Zu (Js9 hF (Jf3 hF n) j); unfold lnz; rw [<- e1, <- e3]; by_cases h : en p m (cmb p m v y (cnt (p ^ m) n) (rsx (p ^ m) n) n) j = 0
 .rw [h]; rfl
 .rw [decide_eq_true (show ((en p m (cmb p m v y (cnt (p ^ m) n) (rsx (p ^ m) n) n) j : Nat) : Int) ≠ 0 by omega), decide_eq_true h]
theorem Jry (h : ∀ i, i < y.length -> vo y i = 0) : wt y = 0 := Jf1 _ fun i hi => by rw [h i hi]; rfl
theorem Z4 (P M : Int) (mf : LI) (r : Int) (y : LI) : Jai P M mf r y (fun b => b = true) := by
 refine Jmq ⟨(fun hh => by cases hh), fun _ => ?_⟩; refine Jmr (fun hn => ?_) (fun hV hr => ?_) fun p m v hF hr => ⟨fun hc => ?_, fun hc => ?_⟩
 .exact ZC (fun _ => ⟨fun _ => decide_eq_true rfl, fun hh => absurd (by decide) hh⟩) (fun h => absurd h hn) fun p m v hF => absurd ⟨p, m, v, hF⟩ hn
 .exact ZC (fun hn => absurd hV hn) (fun _ _ => ⟨fun _ => decide_eq_true rfl, fun hh => absurd (by decide) hh⟩) fun p m v hF h1 => by omega
 .refine ZC (fun hn => absurd ⟨p, m, v, hF⟩ hn) (fun _ h1 => by omega) fun p' m' v' hF' _ => ⟨fun _ => ⟨fun _ => decide_eq_true rfl, fun hh => absurd (by decide) hh⟩, fun hc' => ?_⟩
  obtain ⟨rfl, rfl, rfl⟩ := hF.uniq3 hF'; exact absurd hc' hc
 refine ZC (fun hn => absurd ⟨p, m, v, hF⟩ hn) (fun _ h1 => by omega) fun p' m' v' hF' _ => ⟨fun hc' => ?_, fun _ => ?_⟩
 .obtain ⟨rfl, rfl, rfl⟩ := hF.uniq3 hF'; exact absurd hc hc'
 clear hF'; have R := hF.ring; have hq := R.q2; have hn : r.toNat <= 64 := Nat.le_trans (Z8 (by omega) _) hc; have hp := Jtc (q := p ^ m) (show 1 <= r.toNat by omega); obtain ⟨q, G⟩ := sg_can hF (Jce (q := p ^ m) hn hc) (Je5 hF r.toNat); obtain ⟨hcan, her⟩ := Jtf hF hn hc; rw [hcan] at G ⊢; have hrn : ((r.toNat : Nat) : Int) = r := by omega
 refine ⟨fun hh => absurd rfl hh, fun _ => ⟨fun hh => absurd rfl hh, fun _ => ⟨fun hne => absurd (by rw [QG]; exact hrn) hne, fun _ => ?_⟩⟩⟩; refine Jmp G (by omega) (fun e he hno => ?_) fun hyl hye => ?_
 .rw [QG] at hno; refine ⟨fun hne => ⟨fun _ => decide_eq_true he, fun hh => absurd (by decide) hh⟩, fun heq => ?_⟩; have heq := Classical.not_not.1 heq; exact Jcr hF (by omega) (fun hye => absurd ⟨by omega, hye⟩ hno) (fun _ => ⟨fun _ => decide_eq_true he, fun hh => absurd (by decide) hh⟩)
 rw [QG] at hyl; rw [QG, Int.toNat_natCast]; refine ⟨fun hne => absurd (by omega) hne, fun _ => Jcr hF (by omega) (fun _ => ⟨fun hh => absurd rfl hh, fun _ => ⟨fun hh => absurd rfl hh, fun _ => ?_⟩⟩) fun hh => absurd hye hh⟩; refine Jcs hF (Jf3 hF _) (by rw [Ja2]; omega) ?_; rw [wt_smx hF hn hc]; obtain ⟨g, K⟩ := hF.gen; have hi : ∀ x, x < p ^ m -> x ≠ 0 -> ∃ y, y < p ^ m /\ Jr p m (dv p v) x y = 1 := fun x hx h0 => by
  have := Jpx (v := v) K hF (x := (x : Int)) (by omega) ⟨by omega, by omega⟩; rw [Qk hx] at this; exact ⟨_, J7 (by omega) _, this.2⟩
 have hoff := Jla R hi (Q1 hF y) r.toNat; have hzero := Jgy R (y := en p m y) (k := r.toNat); generalize wl (lnz (p ^ m) (JN p m) (Jr p m (dv p v)) (en p m y) r.toNat) (pnl (p ^ m) r.toNat) = W at hoff hzero; refine ⟨fun z t => ∃ k : Nat, t = k /\ 1 <= k /\ k <= r.toNat /\ z = (((p ^ m) ^ (k - 1) : Nat) : Int), fun _ t => (r - t).toNat, ⟨1, rfl, Nat.le_refl _, by omega, by simp⟩, ?_⟩; rintro _ _ ⟨k, rfl, hk1, hk, rfl⟩; dsimp only; refine ⟨fun hlt => ?_, fun hge => ?_⟩
 .refine Zn ?_; rw [hF.ord]; have hpk := Jld hq (show k < r.toNat by omega) hc; have e : (((p ^ m) ^ (k - 1) : Nat) : Int) * ((p ^ m : Nat) : Int) = (((p ^ m) ^ k : Nat) : Int) := by
   have e3 : (p ^ m) ^ (k - 1) * (p ^ m) = (p ^ m) ^ k := by rw [<- Nat.pow_succ]; congr 1; omega
   rw [<- Int.natCast_mul, e3]
  rw [e]; exact ⟨YR (by omega), Ju (by omega) (by omega), ⟨k + 1, by push_cast; rfl, by omega, by omega, by rw [Nat.add_sub_cancel]⟩, by omega⟩
 .obtain rfl : k = r.toNat := by omega
  by_cases h : ∃ t, t < r.toNat /\ en p m y t ≠ 0
  .have hW := hoff h; have h1 := Q3 hq (r.toNat - 1); rw [hW]; exact ⟨fun h0 => by omega, fun _ => decide_eq_true rfl⟩
  .have h0 : ∀ t, t < r.toNat -> en p m y t = 0 := fun t ht => Classical.byContradiction fun hh => h ⟨t, ht, hh⟩; rw [hzero h0]; refine ⟨fun _ => Jcs hF hye (by omega) ⟨fun _ => rfl, fun hne => absurd ?_ hne⟩, fun hne => absurd rfl hne⟩; rw [Jry fun i hi => ?_]; rfl; have := Zu (Z5 hye hi); rw [<- this]; show ((en p m y i : Nat) : Int) = 0; rw [h0 i (by omega)]; rfl
end
end Go.Proofs.Ytjgpkljepgcekaa
