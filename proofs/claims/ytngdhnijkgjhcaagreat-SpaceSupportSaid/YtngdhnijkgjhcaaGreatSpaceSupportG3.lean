/- Contracts of functions of the program, and what they lean on: Draw10, Gk, Sx, Nt, Xl, Facts, Ab, D1, It, Gf, D2. -/
import Derived.Test.YtngdhnijkgjhcaaGreatSpaceSupportG2
import Derived.Test.YtngdhnijkgjhcaaGreatProg
set_option linter.unusedSimpArgs false
set_option linter.unusedVariables false
namespace Go.Proofs.YtngdhnijkgjhcaaGreat
open Go.RowKit
inductive Ent
  | k (d : Nat) (v : Value)
  | m (d : Nat) (Pr : Value -> World -> Prop) (h : ∀ v w1 w2, Pr v w1 -> w1.grownBy w2 none -> Pr v w2)
def Ent.d : Ent -> Nat
  | .k d _ => d
  | .m d _ _ => d
def Ent.V : Ent -> Value -> World -> Prop
  | .k _ v => fun u _ => u = v
  | .m _ Pr _ => Pr
def Ent.val : Ent -> Value -> Value
  | .k _ v, _ => v
  | .m _ _ _, u => u
def E0 : Ent := .k 0 (.int .i64 0)
def eV (F : List Ent) : Nat -> Value -> World -> Prop := fun i => (F.getD i E0).V
def eO (w : World) (d e m : Nat) (f : Option Addr -> Nat -> Value) (cs : List Value) : Ent :=
  .m d (fun v wQ => ∃ A k, v = f A k /\ Own 0 wQ e 1 A m k cs /\ ∀ g, bl A = some g -> w.heap.size <= g) fun _ _ _ ⟨A, k, h1, h2, h3⟩ hg => ⟨A, k, h1, h2.ext hg, h3⟩
def eS (w : World) (d e m : Nat) (cs : List Value) : Ent := eO w d e m (fun A k => .slice A m k) cs
def eX (w : World) (d eS_ eI m : Nat) (f : Option Addr -> Nat -> Hs -> Value) (ls : List (List Int)) : Ent :=
  .m d (fun v wQ => ∃ A k hs, v = f A k hs /\ Rows w.heap.size none wQ [mx eS_ eI A m k hs ls]) fun _ _ _ ⟨A, k, hs, h1, h2⟩ hg => ⟨A, k, hs, h1, h2.ext hg⟩
def Jcp (F : List Ent) (w : World) (K : Fr -> Prop) : List Nat -> Fr -> Prop
  | [], A => K A
  | j :: js, A => match F.getD j E0 with
    | .k d v => Jcp F w K js ((d, v) :: A)
    | .m d Pr _ => ∀ u, Pr u w -> Jcp F w K js ((d, u) :: A)
def Jhu (L : Fr) : List Nat -> Fr
  | [] => []
  | t :: ts => (t, (lk L t).getD (.int .i64 0)) :: Jhu L ts
def obY (P : Program) (n : Nat) (ro : Option Nat) (df : List Deferred) (l : List Oper) (al : Nat -> Bool) (cp : Nat -> Option Nat) (ph : Nat -> Value -> Value -> Prop) (F : List Ent) (D : Nat -> Value -> World -> Nat -> Prop) (w0 : World) (i : Nat) (o : Oper) (p : Plan) (base : Fr) : Prop :=
  ∀ w, (p.pure = false -> w0.grownBy w none) -> Jcp F w (fun A => ∀ R : Fr, WL P n ro df l.toArray [o]
    (fun _ L' w' => match F.getD i E0 with
      | .k d v => L' = (d, v) :: (A ++ R) /\ (if p.pure then w' = w else w.grownBy w' none)
      | .m d Pr _ => ∃ u, L' = (d, u) :: (A ++ R) /\ (if p.pure then w' = w else w.grownBy w' none) /\ Pr u w' /\ (al i = true -> ∀ g, D i u w' g -> w.heap.size <= g /\ g < w'.heap.size) /\ (∀ j, cp i = some j -> ∃ u', lk (A ++ R) (F.getD j E0).d = some u' /\ ph i u' u)) (A ++ R) w) p.on base
def obsY (P : Program) (n : Nat) (ro : Option Nat) (df : List Deferred) (l : List Oper) (al : Nat -> Bool) (cp : Nat -> Option Nat) (ph : Nat -> Value -> Value -> Prop) (F : List Ent) (D : Nat -> Value -> World -> Nat -> Prop) (w0 : World) (L : Fr) : Nat -> List Oper -> List Plan -> Prop
  | i, o :: os, p :: ps => obY P n ro df l al cp ph F D w0 i o p (Jhu L p.slots) /\ obsY P n ro df l al cp ph F D w0 L (i + 1) os ps
  | _, [], [] => True
  | _, _, _ => False
def frY (X : List Nat) (vals : Nat -> Value) : Nat -> List Ent -> Fr
  | _, [] => []
  | i, e :: F => bif X.contains i then frY X vals (i + 1) F else (e.d, e.val (vals i)) :: frY X vals (i + 1) F
def kcB (al : Nat -> Bool) (cp : Nat -> Option Nat) : Nat -> List Ent -> Bool
  | _, [] => true
  | i, .k _ _ :: F => !al i && (cp i).isNone && kcB al cp (i + 1) F
  | i, .m _ _ _ :: F => kcB al cp (i + 1) F
theorem Jnv {al : Nat -> Bool} {cp : Nat -> Option Nat} : ∀ (F : List Ent) (i k : Nat) {d : Nat} {v : Value}, kcB al cp i F = true -> F[k]? = some (.k d v) -> al (i + k) = false /\ cp (i + k) = none
 | [], _, _, _, _, _, h => by simp at h
 | .k d v :: F, i, 0, _, _, h, e => by
  simp only [kcB, Bool.and_eq_true, Bool.not_eq_true', Option.isNone_iff_eq_none] at h; exact h.1
 | .m d Pr hh :: F, i, 0, _, _, h, e => by simp at e
 | .k d v :: F, i, k + 1, _, _, h, e => by
  simp only [kcB, Bool.and_eq_true] at h; have := Jnv F (i + 1) k h.2 (by simpa using e); rw [show i + (k + 1) = i + 1 + k by omega]; exact this
 | .m d Pr hh :: F, i, k + 1, _, _, h, e => by
  simp only [kcB] at h; have := Jnv F (i + 1) k h (by simpa using e); rw [show i + (k + 1) = i + 1 + k by omega]; exact this
theorem Jc2 (L : Fr) : ∀ ts : List Nat, (Jhu L ts).map (·.1) = ts
 | [] => rfl
 | t :: ts => by simp [Jhu, Jc2 L ts]
theorem Jhd (L : Fr) : ∀ ts : List Nat, (ts.all fun t => (lk L t).isSome) = true -> sub (Jhu L ts) L
 | [], _ => trivial
 | t :: ts, h => by
  simp only [List.all_cons, Bool.and_eq_true] at h; refine ⟨?_, Jhd L ts h.2⟩; cases e : lk L t with
  | none => rw [e] at h; exact absurd h.1 (by simp)
  | some v => rfl
theorem Jf8 {l : List Oper} {F : List Ent} {w : World} {K : Fr -> Prop} : ∀ (js : List Nat) (A : Fr), (∀ j ∈ js, (J0 l j).getD 0 = (F.getD j E0).d) -> Jcp F w K js A -> Jm6 l (eV F) w K js A
 | [], _, _, h => h
 | j :: js, A, hd, h => by
  intro u hu; unfold eV at hu; unfold Jcp at h; have hd1 := hd j List.mem_cons_self; rw [hd1]; cases e : F.getD j E0 with
  | k d v =>
   rw [e] at hu h; obtain rfl : u = v := hu; exact Jf8 js _ (fun q hq => hd q (List.mem_cons_of_mem _ hq)) h
  | m d Pr hh =>
   rw [e] at hu h; exact Jf8 js _ (fun q hq => hd q (List.mem_cons_of_mem _ hq)) (h u hu)
theorem Jcx {F : List Ent} {w : World} {K K' : Fr -> Prop} (h : ∀ A, K A -> K' A) : ∀ (js : List Nat) (A : Fr), Jcp F w K js A -> Jcp F w K' js A
 | [], _, hk => h _ hk
 | j :: js, A, hk => by
  unfold Jcp at hk ⊢; cases e : F.getD j E0 with
  | k d v => rw [e] at hk; exact Jcx h js _ hk
  | m d Pr hh => rw [e] at hk; exact fun u hu => Jcx h js _ (hk u hu)
theorem Jln {P : Program} {n : Nat} {ro : Option Nat} {df : List Deferred} {l : List Oper} {al : Nat -> Bool} {cp : Nat -> Option Nat} {ph : Nat -> Value -> Value -> Prop} {F : List Ent} {D : Nat -> Value -> World -> Nat -> Prop} {w0 : World} {L : Fr} {m : Nat}
  (hd : ∀ j, j < m -> (J0 l j).getD 0 = (F.getD j E0).d) (hF : F.length = m) (hk : kcB al cp 0 F = true) (hcp : ∀ i j, i < m -> cp i = some j -> j < m) : ∀ (os : List Oper) (ps : List Plan) (i : Nat), i + os.length <= m -> (∀ p ∈ ps, ∀ j ∈ p.on, j < m) -> (∀ p ∈ ps, (p.slots.all fun t => (lk L t).isSome) = true) ->
  obsY P n ro df l al cp ph F D w0 L i os ps -> Jsr P n ro df l al cp ph (eV F) D w0 L i os ps (ps.map fun p => Jhu L p.slots)
 | [], [], _, _, _, _, _ => trivial
 | [], _ :: _, _, _, _, _, h => h.elim
 | _ :: _, [], _, _, _, _, h => h.elim
 | o :: os, p :: ps, i, hi, hp, hs, h => by
  simp only [List.length_cons] at hi; refine ⟨⟨Jc2 _ _, Jhd _ _ (hs p List.mem_cons_self), fun w hw => Jf8 _ _ (fun j hj => hd j (hp p List.mem_cons_self j hj)) (Jcx (fun A hA R => Jmh (fun df' L' w' hh => ?_) (hA R)) _ _ (h.1 w hw))⟩, Jln hd hF hk hcp os ps (i + 1) (by omega) (fun q hq => hp q (List.mem_cons_of_mem _ hq)) (fun q hq => hs q (List.mem_cons_of_mem _ hq)) h.2⟩; have hgi : F[i]? = some (F.getD i E0) := by
   rw [List.getD_eq_getElem?_getD, List.getElem?_eq_getElem (by omega : i < F.length)]; rfl
  rw [hd i (by omega)]; unfold eV; cases e : F.getD i E0 with
  | k d v =>
   rw [e] at hh hgi; obtain ⟨h1, h2⟩ := Jnv F 0 i hk hgi; rw [Nat.zero_add] at h1 h2; exact ⟨v, hh.1, hh.2, rfl, (fun h => by rw [h1] at h; cases h), (fun j h => by rw [h2] at h; cases h)⟩
  | m d Pr hm_ =>
   rw [e] at hh; obtain ⟨u, h1, h2, h3, h4, h5⟩ := hh; exact ⟨u, h1, h2, h3, h4, fun j hj => by rw [hd j (hcp i j (by omega) hj)]; exact h5 j hj⟩
theorem Jxj {X : List Nat} {vals : Nat -> Value} {w : World} (f : Nat -> Option Nat) : ∀ (F : List Ent) (i : Nat), (∀ k e, F[k]? = some e -> f (i + k) = some e.d /\ (X.contains (i + k) = false -> e.V (vals (i + k)) w)) ->
  ((List.range' i F.length).filterMap fun i => if X.contains i = true then none else (f i).map fun t => (t, vals i)) = frY X vals i F
 | [], _, _ => rfl
 | e :: F, i, h => by
  have ih := Jxj f F (i + 1) (fun k e' hk => by
   have := h (k + 1) e' (by simpa using hk); rw [show i + 1 + k = i + (k + 1) by omega]; exact this)
  obtain ⟨h1, h2⟩ := h 0 e rfl; rw [Nat.add_zero] at h1 h2; rw [List.length_cons, List.range'_succ, List.filterMap_cons]; unfold frY; cases hc : X.contains i with
  | true => simp only [if_true, cond_true]; exact ih
  | false =>
   have := h2 hc; simp only [Bool.false_eq_true, if_false, cond_false, h1, Option.map_some]; rw [ih]; cases e with
   | k d v => rw [show vals i = v from this]; rfl
   | m d Pr hh => rfl
theorem YQ {P : Program} {n id : Nat} {ro : Option Nat} {df : List Deferred} {l : List Oper} {N : Qo} {B : QD} {L : Fr} {w0 : World} (m : Nat) (fs : List Nat) (al : Nat -> Bool) (cp : Nat -> Option Nat) (ph : Nat -> Value -> Value -> Prop) (ps : List Plan) (F : List Ent) (D : Nat -> Value -> World -> Nat -> Prop)
  (hm : P.follows .mixedOrders = true) (hB : (Jga n l ps m fs && (List.range m).all (fun i => match cp i with | none => true | some j => Nat.blt j m && (Qs l i).contains j) && ps.all fun p => p.on.all (Nat.blt · m)) = true)
  (hds : (List.range m).map (J0 l) = F.map (fun e => some e.d)) (hk : (kcB al cp 0 F && ps.all fun p => p.slots.all fun t => (lk L t).isSome) = true)
  (hD : ∀ j v w1 w2, eV F j v w1 -> w1.grownBy w2 none -> ∀ g, D j v w2 g -> D j v w1 g)
  (hobs : obsY P n ro df l al cp ph F D w0 L 0 (l.take m) ps)
  (hN2 : ∀ X ∈ Jku fs, ∀ (vals : Nat -> Value) w', w0.grownBy w' none -> (∀ i, i < m -> X.contains i = false -> eV F i (vals i) w') -> (∀ j k, j ≠ k -> j < m -> k < m -> X.contains j = false -> X.contains k = false -> al j = true -> al k = true -> ∀ g, D j (vals j) w' g -> ¬ D k (vals k) w' g) -> (∀ i j, i < m -> X.contains i = false -> cp i = some j -> ph i (vals j) (vals i)) -> ∀ q, q = (((List.range l.length).map fun k => Nat.blt k m && !(X.contains k)).filter (!·)).length ->
   WA P n ro df l N q ((List.range l.length).map fun k => Nat.blt k m && !(X.contains k)) (frY X vals 0 F ++ L) w') : W P n ro df (.region id l.toArray true) N B L w0 := by
 simp only [Bool.and_eq_true] at hB hk; obtain ⟨⟨hB, hcp⟩, hp⟩ := hB; have hF : F.length = m := by have := congrArg List.length hds; simpa using this.symm
 have hd1 : ∀ k e, F[k]? = some e -> J0 l k = some e.d := by
  intro k e he; have h := congrArg (fun x : List (Option Nat) => x[k]?) hds; have hk' : k < m := by rw [<- hF]; exact (List.getElem?_eq_some_iff.1 he).1
  simp only [List.getElem?_map, List.getElem?_range hk', Option.map_some, he, Option.some.injEq] at h; exact h
 have hd : ∀ j, j < m -> (J0 l j).getD 0 = (F.getD j E0).d := by
  intro j hj; have e1 : F[j]? = some (F.getD j E0) := by
   rw [List.getD_eq_getElem?_getD, List.getElem?_eq_getElem (by omega : j < F.length)]; rfl
  rw [hd1 j _ e1]; rfl
 have hcp1 : ∀ i j, i < m -> cp i = some j -> j < m /\ (Qs l i).contains j = true := fun i j hi hj => by
  have := List.all_eq_true.1 hcp i (List.mem_range.2 hi); rw [hj] at this; simp only [Bool.and_eq_true] at this; exact ⟨by simpa [Nat.blt_eq] using this.1, this.2⟩
 have hV : ∀ j v w1 w2, eV F j v w1 -> w1.grownBy w2 none -> eV F j v w2 := by
  intro j v w1 w2 h1 hg; unfold eV at h1 ⊢; cases e : F.getD j E0 with
  | k d u => rw [e] at h1; exact h1
  | m d Pr hh => rw [e] at h1; exact hh v w1 w2 h1 hg
 refine Jmk m fs al cp ph ps (ps.map fun p => Jhu L p.slots) (eV F) D hm hB hV hD (List.all_eq_true.2 fun i hi => ?_) (Jln hd hF hk.1 (fun i j hi hj => (hcp1 i j hi hj).1) _ _ _ (by simp [List.length_take]; omega) (fun p hp' j hj => ?_) (fun p hp' => List.all_eq_true.1 hk.2 p hp') hobs) ?_
 .cases hc : cp i with
  | none => rfl
  | some j => exact (hcp1 i j (List.mem_range.1 hi) hc).2
 .have := List.all_eq_true.1 hp p hp'
  simpa [Nat.blt_eq] using List.all_eq_true.1 this j hj
 .intro X hX vals w' hw h1 h2 h3 q hq; have h := hN2 X hX vals w' hw h1 h2 h3 q hq; have e : (List.range m).filterMap (fun i => if X.contains i = true then none else (J0 l i).map fun t => (t, vals i)) = frY X vals 0 F := by
   rw [List.range_eq_range', <- hF]; refine Jxj (w := w') (J0 l) F 0 fun k e he => ?_; rw [Nat.zero_add]; refine ⟨hd1 k e he, fun hc => ?_⟩; have hkm : k < m := by rw [<- hF]; exact (List.getElem?_eq_some_iff.1 he).1
   have := h1 k hkm hc; unfold eV at this; rw [List.getD_eq_getElem?_getD, he] at this; exact this
  rw [e]; exact h
def ovl : List (Nat × Value) -> Nat -> Value -> Value
  | [], _, u => u
  | p :: t, i, u => bif Nat.beq p.1 i then p.2 else ovl t i u
def ovs (vals : Nat -> Value) : List (Nat × Value) -> Prop
  | [] => True
  | p :: t => vals p.1 = p.2 /\ ovs vals t
theorem Jwt {vals : Nat -> Value} {i : Nat} : ∀ {ov : List (Nat × Value)}, ovs vals ov -> ovl ov i (vals i) = vals i
 | [], _ => rfl
 | p :: t, h => by
  unfold ovl; cases e : Nat.beq p.1 i with
  | true => simp only [cond_true]; rw [<- h.1, Nat.eq_of_beq_eq_true e]
  | false => simp only [cond_false]; exact Jwt h.2
theorem QV {P : Program} {n : Nat} {ro : Option Nat} {df : List Deferred} {l : List Oper} {N : Qo} {q : Nat} {li : List Bool} {L : Fr} {w : World} {X : List Nat} {vals : Nat -> Value} {F : List Ent} (ov : List (Nat × Value)) (h : ovs vals ov) (h2 : WA P n ro df l N q li (frY X (fun i => ovl ov i (vals i)) 0 F ++ L) w) : WA P n ro df l N q li (frY X vals 0 F ++ L) w := by
 rwa [show (fun i => ovl ov i (vals i)) = vals from funext fun i => Jwt h] at h2
theorem QC {P : Program} {n id : Nat} {ro : Option Nat} {df : List Deferred} {l : List Oper} {N : Qo} {B : QD} {L : Fr} {w0 : World} (m : Nat) (al : Nat -> Bool) (cp : Nat -> Option Nat) (ph : Nat -> Value -> Value -> Prop) (ps : List Plan) (F : List Ent) (D : Nat -> Value -> World -> Nat -> Prop)
  (hm : P.follows .mixedOrders = true) (hB : (Jga n l ps m [] && (List.range m).all (fun i => match cp i with | none => true | some j => Nat.blt j m && (Qs l i).contains j) && ps.all fun p => p.on.all (Nat.blt · m)) = true)
  (hds : (List.range m).map (J0 l) = F.map (fun e => some e.d)) (hk : (kcB al cp 0 F && ps.all fun p => p.slots.all fun t => (lk L t).isSome) = true)
  (hD : ∀ j v w1 w2, eV F j v w1 -> w1.grownBy w2 none -> ∀ g, D j v w2 g -> D j v w1 g)
  (hobs : obsY P n ro df l al cp ph F D w0 L 0 (l.take m) ps)
  (hN : ∀ (vals : Nat -> Value) w', w0.grownBy w' none -> (∀ i, i < m -> eV F i (vals i) w') -> (∀ j k, j ≠ k -> j < m -> k < m -> al j = true -> al k = true -> ∀ g, D j (vals j) w' g -> ¬ D k (vals k) w' g) -> (∀ i j, i < m -> cp i = some j -> ph i (vals j) (vals i)) ->
   WA P n ro df l N (l.length - m) (List.replicate m true ++ List.replicate (l.length - m) false) (frY [] vals 0 F ++ L) w') : W P n ro df (.region id l.toArray true) N B L w0 := by
 have hlm : m <= l.length := by
  simp only [Bool.and_eq_true] at hB; have h := hB.1.1; simp only [Jga, Bool.and_eq_true] at h
  simpa [Nat.ble_eq] using h.1.1.1.2
 refine YQ m [] al cp ph ps F D hm hB hds hk hD hobs fun X hX vals w' hw h1 h2 h3 q hq => ?_; obtain rfl : X = [] := by simpa [Jku] using hX
 rw [Jii m l.length hlm] at hq ⊢; rw [Jgy] at hq; subst hq; exact hN vals w' hw (fun i hi => h1 i hi rfl) (fun j k hjk hj hk => h2 j k hjk hj hk rfl rfl) (fun i j hi => h3 i j hi rfl)
def obsW (P : Program) (n : Nat) (ro : Option Nat) (df : List Deferred) (l : List Oper) (F : Fr) (w0 : World) (L : Fr) : Nat -> List Oper -> List Plan -> Prop
  | i, o :: os, p :: ps => obV P n ro df l F w0 i o p (Jhu L p.slots) /\ obsW P n ro df l F w0 L (i + 1) os ps
  | _, [], [] => True
  | _, _, _ => False
theorem Jqy {P : Program} {n : Nat} {ro : Option Nat} {df : List Deferred} {l : List Oper} {F : Fr} {w0 : World} {L : Fr} : ∀ (os : List Oper) (ps : List Plan) (i : Nat), (∀ p ∈ ps, (p.slots.all fun t => (lk L t).isSome) = true) -> obsW P n ro df l F w0 L i os ps -> obsV P n ro df l F w0 L i os ps (ps.map fun p => Jhu L p.slots)
 | [], [], _, _, _ => trivial
 | [], _ :: _, _, _, h => h.elim
 | _ :: _, [], _, _, h => h.elim
 | _ :: os, p :: ps, i, hs, h => ⟨⟨Jc2 _ _, Jhd _ _ (hs p List.mem_cons_self), h.1⟩, Jqy os ps (i + 1) (fun q hq => hs q (List.mem_cons_of_mem _ hq)) h.2⟩
theorem Qa {P : Program} {n id : Nat} {ro : Option Nat} {df : List Deferred} {l : List Oper} {N : Qo} {B : QD} {L : Fr} {w0 : World} (m : Nat) (ps : List Plan) (F : Fr)
  (hm : P.follows .mixedOrders = true) (hB : (Jkr n l ps m && ps.all fun p => p.on.all (Nat.blt · m)) = true) (hds : (List.range m).map (J0 l) = F.map (fun q => some q.1)) (hk : (ps.all fun p => p.slots.all fun t => (lk L t).isSome) = true)
  (hobs : obsW P n ro df l F w0 L 0 (l.take m) ps)
  (hN : ∀ w', w0.grownBy w' none -> WA P n ro df l N (l.length - m) (List.replicate m true ++ List.replicate (l.length - m) false) (F ++ L) w') : W P n ro df (.region id l.toArray true) N B L w0 :=
 Qbg m ps (ps.map fun p => Jhu L p.slots) F hm hB (by have := congrArg List.length hds; simpa using this.symm) hds (Jqy _ _ 0 (fun p hp => List.all_eq_true.1 hk p hp) hobs) hN
end Go.Proofs.YtngdhnijkgjhcaaGreat
set_option linter.unusedSimpArgs false
set_option linter.unusedVariables false
namespace Go.Proofs.YtngdhnijkgjhcaaGreat
open Go.RowKit
def opv (L : Fr) : Op -> Option Value
  | .move x => ev L x
  | .assign x => ev L x
  | .pick c x y => match ev L c with
    | some (.bool b) => ev L (bif b then x else y)
    | _ => none
  | .extract x i => match ev L x with
    | some (.tuple vs) => vs[i]?
    | _ => none
  | .unOp .not _ x => match ev L x with
    | some (.bool b) => some (.bool !b)
    | _ => none
  | .binOp .lss _ x y _ => match ev L x, ev L y with
    | some (.int .i64 a), some (.int .i64 b) => some (.bool (decide (a < b)))
    | _, _ => none
  | .binOp .leq _ x y _ => match ev L x, ev L y with
    | some (.int .i64 a), some (.int .i64 b) => some (.bool (decide (a <= b)))
    | _, _ => none
  | .binOp .gtr _ x y _ => match ev L x, ev L y with
    | some (.int .i64 a), some (.int .i64 b) => some (.bool (decide (b < a)))
    | _, _ => none
  | .binOp .geq _ x y _ => match ev L x, ev L y with
    | some (.int .i64 a), some (.int .i64 b) => some (.bool (decide (b <= a)))
    | _, _ => none
  | .binOp .eql _ x y _ => match ev L x, ev L y with
    | some (.int .i64 a), some (.int .i64 b) => some (.bool (decide (a = b)))
    | _, _ => none
  | .binOp .neq _ x y _ => match ev L x, ev L y with
    | some (.int .i64 a), some (.int .i64 b) => some (.bool (decide (a ≠ b)))
    | _, _ => none
  | .nilCheck x => match ev L x with
    | some (.pointer (some p)) => some (.pointer (some p))
    | _ => none
  | _ => none
inductive Stp
  | val (L : Fr)
  | opr (o : Oper)
  | no
def stp (all : Array Oper) (n : Nat) (L : Fr) : Oper -> Stp
  | ⟨some d, op, ty, ps, af, some (j, want)⟩ => match (all[j]?.bind (·.dst)).bind (lk L) with
    | some (.bool b) => bif b == want then .opr ⟨some d, op, ty, ps, af, none⟩ else bif Nat.blt d n then .val ((d, undef) :: L) else .no
    | _ => .no
  | ⟨some d, op, ty, ps, af, none⟩ => match opv L op with
    | some v => bif Nat.blt d n then .val ((d, v) :: L) else .no
    | none => .no
  | _ => .no
inductive Gs
  | C (c : Code)
  | R (all : Array Oper) (rest : List Oper)
section
variable (P : Program) (n : Nat) (ro : Option Nat) (df : List Deferred) (N : Qo) (B : QD)
def Ns : List Code -> Qo
  | [] => N
  | c :: st => fun df L w => W P n ro df c (Ns st) B L w
def goS (w : World) : Nat -> List Code -> Gs -> Fr -> Prop
  | 0, st, .C c, L => W P n ro df c (Ns P n ro N B st) B L w
  | 0, st, .R all rest, L => WL P n ro df all rest (Ns P n ro N B st) L w
  | k + 1, st, .C (.seq a b), L => goS w k (b :: st) (.C a) L
  | k + 1, st, .C (.region _ ops false), L => goS w k st (.R ops ops.toList) L
  | k + 1, b :: st, .C .skip, L => goS w k st (.C b) L
  | _ + 1, [], .C .skip, L => N df L w
  | _ + 1, [], .R _ [], L => N df L w
  | k + 1, b :: st, .R _ [], L => goS w k st (.C b) L
  | k + 1, st, .R all (o :: rest), L => match stp all n L o with
    | .val L' => goS w k st (.R all rest) L'
    | .opr o' => goS w k st (.R all (o' :: rest)) L
    | .no => False
  | _, _, _, _ => False
end
section
variable {P : Program} {n : Nat} {ro : Option Nat} {df : List Deferred} {N : Qo} {B : QD} {L : Fr} {w : World} {all : Array Oper} {rest : List Oper}
theorem Jes {d : Nat} {op : Op} {ty : TypeId} {ps : String} {af : Array Edge} {v : Value} (hv : opv L op = some v) (hn : Nat.blt d n = true) (h : WL P n ro df all rest N ((d, v) :: L) w) :
  WL P n ro df all (⟨some d, op, ty, ps, af, none⟩ :: rest) N L w := by
 unfold opv at hv; split at hv
 .exact Jm hv hn h
 .exact Qb hv hn h
 .split at hv
  .rename_i hc; exact WL.pick hc hv hn h
  .cases hv
 .split at hv
  .rename_i hc; exact QK hc hv hn h
  .cases hv
 .split at hv
  .rename_i hc; cases hv; exact Jc4 hc hn h
  .cases hv
 .split at hv
  .rename_i h1 h2; cases hv; exact Q7 h1 h2 hn h
  .cases hv
 .split at hv
  .rename_i h1 h2; cases hv; exact Jrz h1 h2 hn h
  .cases hv
 .split at hv
  .rename_i h1 h2; cases hv; exact Jfo h1 h2 hn h
  .cases hv
 .split at hv
  .rename_i h1 h2; cases hv; exact Jj6 h1 h2 hn h
  .cases hv
 .split at hv
  .rename_i h1 h2; cases hv; exact Jca h1 h2 hn h
  .cases hv
 .split at hv
  .rename_i h1 h2; cases hv; exact Ja0 h1 h2 hn h
  .cases hv
 .split at hv
  .rename_i h1; cases hv; exact Q2 h1 hn h
  .cases hv
 .cases hv
theorem stp_ok {o : Oper} : (∀ L', stp all n L o = .val L' -> WL P n ro df all rest N L' w -> WL P n ro df all (o :: rest) N L w) /\ (∀ o', stp all n L o = .opr o' -> WL P n ro df all (o' :: rest) N L w -> WL P n ro df all (o :: rest) N L w) := by
 obtain ⟨dst, op, ty, ps, af, g⟩ := o; cases dst with
 | none => exact ⟨fun _ h => by simp [stp] at h, fun _ h => by simp [stp] at h⟩
 | some d =>
  cases g with
  | none =>
   refine ⟨fun L' h hw => ?_, fun o' h => ?_⟩
   .simp only [stp] at h; split at h
    .rename_i v hv
     cases hn : Nat.blt d n <;> rw [hn] at h
     .cases h
     .cases h; exact Jes hv hn hw
    .cases h
   .simp only [stp] at h; split at h
    .cases hn : Nat.blt d n <;> rw [hn] at h <;> cases h
    .cases h
  | some jw =>
   obtain ⟨j, want⟩ := jw; refine ⟨fun L' h hw => ?_, fun o' h hw => ?_⟩
   .simp only [stp] at h; split at h
    .rename_i b hb
     cases hbw : (b == want) <;> rw [hbw] at h
     .cases hn : Nat.blt d n <;> rw [hn] at h
      .cases h
      .cases h; exact Jrw hb hbw hn hw
     .cases h
    .cases h
   .simp only [stp] at h; split at h
    .rename_i b hb
     cases hbw : (b == want) <;> rw [hbw] at h
     .cases hn : Nat.blt d n <;> rw [hn] at h <;> cases h
     .cases h; have e : b = want := by simpa using hbw
      subst e; exact WL.take hb hw
    .cases h
def Gs.prop (P : Program) (n : Nat) (ro : Option Nat) (df : List Deferred) (N : Qo) (B : QD) (L : Fr) (w : World) (st : List Code) : Gs -> Prop
  | .C c => W P n ro df c (Ns P n ro N B st) B L w
  | .R all rest => WL P n ro df all rest (Ns P n ro N B st) L w
theorem Jbk : ∀ (k : Nat) (st : List Code) (s : Gs) (L : Fr), goS P n ro df N B w k st s L -> s.prop P n ro df N B L w st
 | 0, _, .C _, _, h => h
 | 0, _, .R _ _, _, h => h
 | k + 1, st, .C (.seq a b), L, h => JB (Jbk k (b :: st) (.C a) L h)
 | k + 1, st, .C (.region i ops false), L, h => by
  have := Jbk k st (.R ops ops.toList) L h; have := Jw (B := B) (id := i) (l := ops.toList) this; exact this
 | k + 1, b :: st, .C .skip, L, h => Jl (Jbk k st (.C b) L h)
 | _ + 1, [], .C .skip, L, h => Jl h
 | _ + 1, [], .R _ [], L, h => Ja h
 | k + 1, b :: st, .R _ [], L, h => Ja (Jbk k st (.C b) L h)
 | k + 1, st, .R all (o :: rest), L, h => by
  have hs := stp_ok (P := P) (ro := ro) (df := df) (N := Ns P n ro N B st) (w := w) (all := all) (n := n) (L := L) (o := o) (rest := rest); unfold goS at h; split at h
  .rename_i L' e; exact hs.1 L' e (Jbk k st (.R all rest) L' h)
  .rename_i o' e; exact hs.2 o' e (Jbk k st (.R all (o' :: rest)) L h)
  .exact h.elim
theorem Jd {c : Code} (k : Nat) (h : goS P n ro df N B w k [] (.C c) L) : W P n ro df c N B L w := Jbk k [] (.C c) L h
theorem Jb (k : Nat) (h : goS P n ro df N (fun _ _ _ _ => False) w k [] (.R all rest) L) : WL P n ro df all rest N L w := Jbk k [] (.R all rest) L h
end
end Go.Proofs.YtngdhnijkgjhcaaGreat
set_option linter.unusedSimpArgs false
set_option linter.unusedVariables false
namespace Go.Proofs.YtngdhnijkgjhcaaGreat
open Go.RowKit
section
variable {P : Program} {n : Nat} {ro : Option Nat} {df : List Deferred} {N : Qo} {L : Fr} {w : World} {ops : Array Oper} {rest : List Oper}
variable {d : Nat} {ty : TypeId} {pos : String} {af : Array Edge}
end
end Go.Proofs.YtngdhnijkgjhcaaGreat
set_option linter.unusedSimpArgs false
set_option linter.unusedVariables false
namespace Go.Proofs.YtngdhnijkgjhcaaGreat
open Go.RowKit
abbrev nI (x : Int) : Value := .int .i64 x
abbrev nA (g : Nat) : Option Addr := some ⟨g, 0, none⟩
abbrev nP (g : Nat) : Value := .pointer (some ⟨g, 0, none⟩)
abbrev nS {α : Type} (A : Option Addr) (x : List α) (k : Nat) : Value := .slice A x.length k
abbrev nR (e : Nat) (A : Option Addr) (x : List Int) (k : Nat) : Rw := .row e 1 A x.length k (is x)
abbrev nV (e g : Nat) (v : Value) : Rw := .row e 1 (some ⟨g, 0, none⟩) 1 1 [v]
section
variable {P : Program} {n : Nat} {ro : Option Nat} {df : List Deferred} {N : Qo} {L : Fr} {w w0 : World} {ops : Array Oper} {rest : List Oper}
variable {d : Nat} {ty : TypeId} {pos : String} {af : Array Edge} {X : World -> Prop} {mr : Option Nat} {R : List Rw}
theorem Jp (i j : Nat) {x : Operand} {t e z g : Nat} {D : TypeDesc} {cs : List Value} {v : Value} (hu : P.underlying t = some D) (hS : St X w0 mr w R) (hr : R[i]? = some (.row e z (some ⟨g, 0, none⟩) 1 1 cs)) (hx : ev L x = some (.pointer (some ((⟨g, 0, none⟩ : Addr).add j)))) (hc : cs[j]? = some v)
    (hq : (match D with | .struct _ | .array _ _ => true | _ => false) = false /\ Nat.blt d n = true) (h : WL P n ro df ops rest N ((d, v) :: L) w) : WL P n ro df ops (⟨some d, .load t x, ty, pos, af, none⟩ :: rest) N L w :=
  Jn hu hq.1 hx (Jc (hS.own hr) j v hc) hq.2 h
end
def Jsf (all : Array Oper) (n : Nat) (L : Fr) : Oper -> Option (Nat × Value)
  | ⟨some d, op, _, _, _, some (j, want)⟩ => match (all[j]?.bind (·.dst)).bind (lk L) with
    | some (.bool b) => bif b == want then (opv L op).bind (fun v => bif Nat.blt d n then some (d, v) else none) else bif Nat.blt d n then some (d, undef) else none
    | some (.tuple ⟨[]⟩) => bif Nat.blt d n then some (d, undef) else none
    | _ => none
  | ⟨some d, op, _, _, _, none⟩ => (opv L op).bind fun v => bif Nat.blt d n then some (d, v) else none
  | _ => none
theorem Jqn {P : Program} {n : Nat} {ro : Option Nat} {df : List Deferred} {N : Qo} {L : Fr} {w : World} {all : Array Oper} {o : Oper} {q : Nat × Value} (h : Jsf all n L o = some q) (hN : N df (q :: L) w) : WL P n ro df all [o] N L w := by
 obtain ⟨dst, op, ty, ps, af, g⟩ := o; cases dst with
 | none => simp [Jsf] at h
 | some d =>
  cases g with
  | none =>
   simp only [Jsf] at h; cases hv : opv L op with
   | none => rw [hv] at h; simp at h
   | some v =>
    rw [hv] at h; cases hn : Nat.blt d n <;> simp [hn] at h; subst h; exact Jes hv hn (Ja hN)
  | some jw =>
   obtain ⟨j, want⟩ := jw; simp only [Jsf] at h; split at h
   .rename_i b hb
    cases hbw : (b == want) <;> rw [hbw] at h
    .cases hn : Nat.blt d n <;> simp [hn] at h; subst h; exact Jrw hb hbw hn (Ja hN)
    .have e : b = want := by simpa using hbw
     subst e; simp only [cond_true] at h; cases hv : opv L op with
     | none => rw [hv] at h; simp at h
     | some v =>
      rw [hv] at h; cases hn : Nat.blt d n <;> simp [hn] at h; subst h; exact WL.take hb (Jes hv hn (Ja hN))
   .rename_i hb
    cases hn : Nat.blt d n <;> simp [hn] at h; subst h; exact QO hb hn (Ja hN)
   .cases h
theorem oA {P : Program} {n : Nat} {ro : Option Nat} {df : List Deferred} {l : List Oper} {F : Fr} {w0 : World} {i : Nat} {o : Oper} {p : Plan} {b : Fr} (h : ∀ R, Jsf l.toArray n (Jkq F p.on b ++ R) o = some (F.getD i F0)) : obV P n ro df l F w0 i o p b := fun w _ R => Jqn (h R) ⟨rfl, by
 cases p.pure
 .exact Jg _
 .rfl⟩
def ekV : Ent -> Option (Nat × Value)
  | .k d v => some (d, v)
  | _ => none
def tolF (F : List Ent) : List Nat -> Fr -> Option Fr
  | [], A => some A
  | j :: js, A => match F.getD j E0 with
    | .k d v => tolF F js ((d, v) :: A)
    | _ => none
theorem Jqk {F : List Ent} {w : World} {K : Fr -> Prop} : ∀ (js : List Nat) (A B : Fr), tolF F js A = some B -> K B -> Jcp F w K js A
 | [], _, _, h, hk => by cases h; exact hk
 | j :: js, A, B, h, hk => by
  unfold tolF at h; unfold Jcp; cases e : F.getD j E0 with
  | k d v => rw [e] at h; exact Jqk js _ _ h hk
  | m d Pr hh => rw [e] at h; cases h
def stpB (l : List Oper) (n : Nat) (F : List Ent) (o : Oper) (on : List Nat) (b R : Fr) : Option (Nat × Value) := (tolF F on b).bind fun A => Jsf l.toArray n (A ++ R) o
def isK : Option (Nat × Value) -> Bool
  | some _ => true
  | none => false
theorem oB {P : Program} {n : Nat} {ro : Option Nat} {df : List Deferred} {l : List Oper} {al : Nat -> Bool} {cp : Nat -> Option Nat} {ph : Nat -> Value -> Value -> Prop} {F : List Ent} {D : Nat -> Value -> World -> Nat -> Prop} {w0 : World} {i : Nat} {o : Oper} {p : Plan} {b : Fr}
  (h : ∀ R, stpB l n F o p.on b R = ekV (F.getD i E0)) (hk : isK (ekV (F.getD i E0)) = true) : obY P n ro df l al cp ph F D w0 i o p b := fun w _ => by
 cases e : F.getD i E0 with
 | m d Pr hh => rw [e] at hk; cases hk
 | k d v =>
  cases hA : tolF F p.on b with
  | none =>
   have := h []; rw [e] at this; unfold stpB at this; rw [hA] at this; cases this
  | some A =>
   refine Jqk _ _ _ hA fun R => ?_; have := h R; rw [e] at this; unfold stpB at this; rw [hA] at this; exact Jqn this ⟨rfl, by
    cases p.pure
    .exact Jg _
    .rfl⟩
theorem St.pickN {X : World -> Prop} {w0 w : World} {mr : Option Nat} {R : List Rw} (k : Nat) (is : List Nat) (hn : Jel is = true) (h : St X w0 mr w R) : St X w0 mr w ((is.filterMap fun i => (R.take k)[i]?) ++ R.drop k) :=
  Jy0 (T := R.drop k) (R.take k) is hn (by rw [List.take_append_drop]; exact h)
theorem St.fin {w0 w : World} {R : List Rw} {K : List Rw -> Prop} (h : St TT w0 none w R) (hr : R.all (fun r => !r.isRo) = true) (hk : K R) : ∃ Q, w0.grownBy w none /\ Rows w0.heap.size none w Q /\ News w0.heap.size Q /\ K Q := ⟨R, h.ext, h.rows, JR h.rows hr, hk⟩
theorem oT {p : Prop} [Decidable p] (h : decide p = true) : p := of_decide_eq_true h
theorem oF {p : Prop} [Decidable p] (h : decide p = false) : ¬ p := of_decide_eq_false h
end Go.Proofs.YtngdhnijkgjhcaaGreat
set_option linter.unusedSimpArgs false
set_option linter.unusedVariables false
namespace Go.Proofs.YtngdhnijkgjhcaaGreat
open Go.RowKit
def RlR (w : World) (hs : Hs) (ls : List (List Int)) : Prop := ∀ i, i < ls.length -> ∃ B, Rd B w 1 (hs i).1 (ls.getD i []).length (hs i).2 (is (ls.getD i []))
theorem RlR.ext {w w' : World} {hs : Hs} {ls : List (List Int)} (h : RlR w hs ls) (hg : w.grownBy w' none) : RlR w' hs ls := fun i hi => by obtain ⟨B, h2⟩ := h i hi; exact ⟨B, h2.ext hg⟩
theorem RlR.nil (w : World) (hs : Hs) : RlR w hs [] := fun i hi => absurd hi (Nat.not_lt_zero i)
theorem RlR.append {w : World} {hs hs' : Hs} {ls ls' : List (List Int)} (h : RlR w hs ls) (h' : RlR w hs' ls') : RlR w (ZT ls.length hs hs') (ls ++ ls') := fun i hi => by
 rw [List.length_append] at hi; rcases Nat.lt_or_ge i ls.length with hl | hl
 .have e1 : (ls ++ ls').getD i [] = ls.getD i [] := by rw [List.getD_eq_getElem?_getD, List.getElem?_append_left hl, <- List.getD_eq_getElem?_getD]
  have e2 : ZT ls.length hs hs' i = hs i := by unfold ZT; rw [if_pos hl]
  rw [e1, e2]; exact h i hl
 .have e1 : (ls ++ ls').getD i [] = ls'.getD (i - ls.length) [] := by rw [List.getD_eq_getElem?_getD, List.getElem?_append_right hl, <- List.getD_eq_getElem?_getD]
  have e2 : ZT ls.length hs hs' i = hs' (i - ls.length) := by unfold ZT; rw [if_neg (by omega)]
  rw [e1, e2]; exact h' _ (by omega)
theorem RlR.rl {w : World} {A : Option Addr} {n k B : Nat} {hs : Hs} {ls : List (List Int)} (h : RlR w hs ls) (hA : Rd B w 1 A n k (JK hs ls)) : Rl w A n k ls := RlH.rl ⟨⟨B, hA⟩, h⟩
theorem RlH.rows {w : World} {A : Option Addr} {n k : Nat} {hs : Hs} {ls : List (List Int)} (h : RlH w A n k hs ls) : RlR w hs ls := h.at__
theorem Qbj {w : World} {eI : Nat} {hs : Hs} {ls : List (List Int)} (h : Rows 0 none w (inr eI hs ls)) : RlR w hs ls := fun i hi => by
 have := (h.get (Jau eI hs ls hi)).1.rd; exact ⟨_, this⟩
section
variable {P : Program} {n : Nat} {ro : Option Nat} {df : List Deferred} {N : Qo} {L : Fr} {w w0 : World} {ops : Array Oper} {rest : List Oper}
variable {d : Nat} {ty : TypeId} {pos : String} {af : Array Edge} {X : World -> Prop} {mr : Option Nat} {R : List Rw} {eI m c : Nat} {A : Option Addr} {hs : Hs} {ls : List (List Int)}
end
abbrev HZ := Nat -> (Option Addr × Nat) × Hs
def Jfv (H : HZ) (zs : List (List (List Int))) : List Value := zs.mapIdx fun i l => .slice (H i).1.1 l.length (H i).1.2
structure Rll (w : World) (A : Option Addr) (n k : Nat) (H : HZ) (zs : List (List (List Int))) : Prop where
  out : ∃ B, Rd B w 1 A n k (Jfv H zs)
  at__ : ∀ i, i < zs.length -> RlH w (H i).1.1 (zs.getD i []).length (H i).1.2 (H i).2 (zs.getD i [])
theorem Jh1 (H : HZ) (zs : List (List (List Int))) {i : Nat} (hi : i < zs.length) : (Jfv H zs)[i]? = some (.slice (H i).1.1 (zs.getD i []).length (H i).1.2) := by
 simp only [Jfv, List.getElem?_mapIdx, ZH (d := []) hi, Option.map_some]
theorem Jmv (H : HZ) (zs : List (List (List Int))) : (Jfv H zs).length = zs.length := by simp [Jfv]
def catH : List (List (List Int)) -> HZ -> Nat -> Hs
  | _, _, 0 => fun _ => (none, 0)
  | zs, H, k + 1 => ZT ((zs.take k).flatten).length (catH zs H k) (H k).2
theorem Jd9 {zs : List (List (List Int))} {k : Nat} (h : k < zs.length) : (zs.take (k + 1)).flatten = (zs.take k).flatten ++ zs.getD k [] := by
 rw [List.take_add_one, ZH (d := []) h, List.flatten_append]; simp
theorem Rll.cat {w : World} {A : Option Addr} {n k : Nat} {H : HZ} {zs : List (List (List Int))} (h : Rll w A n k H zs) : ∀ j, j <= zs.length -> RlR w (catH zs H j) ((zs.take j).flatten)
 | 0, _ => by rw [List.take_zero]; exact RlR.nil _ _
 | j + 1, hj => by
  rw [Jd9 hj]; exact (Rll.cat h j (by omega)).append (h.at__ j hj).rows
theorem Rll.ext {w w' : World} {A : Option Addr} {n k : Nat} {H : HZ} {zs : List (List (List Int))} (h : Rll w A n k H zs) (hg : w.grownBy w' none) : Rll w' A n k H zs := by
 obtain ⟨B, h1⟩ := h.out; exact ⟨⟨B, h1.ext hg⟩, fun i hi => (h.at__ i hi).ext hg⟩
theorem St.mxH {X : World -> Prop} {w0 w : World} {mr : Option Nat} {R : List Rw} {i eS eI m c : Nat} {A : Option Addr} {hs : Hs} {ls : List (List Int)} (h : St X w0 mr w R) (hi : R[i]? = some (mx eS eI A m c hs ls)) : RlH w A m c hs ls :=
 ⟨⟨_, h.mxout hi⟩, Qbj (eI := eI) (h.mxrows hi).2.2⟩
theorem Rll.two {w : World} {A A1 A2 : Option Addr} {B k m1 k1 m2 k2 : Nat} {hs1 hs2 : Hs} {l1 l2 : List (List Int)} (hA : Rd B w 1 A 2 k [.slice A1 m1 k1, .slice A2 m2 k2]) (h1 : RlH w A1 m1 k1 hs1 l1) (h2 : RlH w A2 m2 k2 hs2 l2) :
  Rll w A 2 k (fun i => if i = 0 then ((A1, k1), hs1) else ((A2, k2), hs2)) [l1, l2] := by
 obtain rfl := h1.len; obtain rfl := h2.len; refine ⟨⟨B, hA⟩, fun i hi => ?_⟩
 match i, hi with
 | 0, _ => exact h1
 | 1, _ => exact h2
def exT : Nat -> Value -> Value
  | i, .tuple cs => cs.getD i undef
  | _, v => v
def rchT : Value -> World -> Nat -> Prop := fun v w g => rch (snd1 (exT 0 v)) w g
end Go.Proofs.YtngdhnijkgjhcaaGreat
set_option linter.unusedVariables false
namespace Go.Proofs.YtngdhnijkgjhcaaGreat
open Go.RowKit
theorem Jz : Tryz.prog.follows .mixedOrders = true := by kernel_rfl
theorem Jmp : Elem Tryz.prog 3 1 8 (.int .i64 0) := .mk' (by kernel_rfl) rfl (by decide)
theorem Jyy : Elem Tryz.prog 4 1 1 (.bool false) := .mk' (by kernel_rfl) rfl (by decide)
theorem Jaf : Elem Tryz.prog 22 1 24 (.slice none 0 0) := .mk' (by kernel_rfl) rfl (by decide)
theorem Jp0 : Elem Tryz.prog 128 1 24 (.slice none 0 0) := .mk' (by kernel_rfl) rfl (by decide)
theorem Jeu : Elem Tryz.prog 25 1 24 (.slice none 0 0) := .mk' (by kernel_rfl) rfl (by decide)
theorem Jvc : Elem Tryz.prog 27 2 32 (.agg #[.int .i64 0, .slice none 0 0]) := .mk' (by kernel_rfl) rfl (by decide)
theorem Jkc : Jep Tryz.prog 27 0 0 = true := by kernel_rfl
theorem Jkb : Jep Tryz.prog 27 1 1 = true := by kernel_rfl
theorem Jp1 : bldP Tryz.prog 27 [(0, 1), (1, 1)] #[.int .i64 0, .slice none 0 0] := ⟨by kernel_rfl, _, Tryz.underlying27, by kernel_rfl⟩
theorem Jvd : Elem Tryz.prog 24 3 40 (.agg #[.int .i64 0, .int .i64 0, .slice none 0 0]) := .mk' (by kernel_rfl) rfl (by decide)
theorem Jp4 : Jtk Tryz.prog 24 = true := by kernel_rfl
theorem Jp3 : Jtk Tryz.prog 27 = true := by kernel_rfl
theorem Jkf : Jep Tryz.prog 24 0 0 = true := by kernel_rfl
theorem Jke : Jep Tryz.prog 24 1 1 = true := by kernel_rfl
theorem Jkd : Jep Tryz.prog 24 2 2 = true := by kernel_rfl
theorem Jp2 : bldP Tryz.prog 24 [(0, 1), (1, 1), (2, 1)] #[.int .i64 0, .int .i64 0, .slice none 0 0] := ⟨by kernel_rfl, _, Tryz.underlying24, by kernel_rfl⟩
theorem Jhz : Jep Tryz.prog 117 0 0 = true := by kernel_rfl
theorem Jcu : Jep Tryz.prog 117 1 3 = true := by kernel_rfl
theorem Jhy : Jep Tryz.prog 117 2 4 = true := by kernel_rfl
theorem Jhx : Jep Tryz.prog 117 3 5 = true := by kernel_rfl
theorem Jhw : Jep Tryz.prog 117 4 6 = true := by kernel_rfl
theorem Jmq : bldP Tryz.prog 117 [(0, 3), (3, 1), (4, 1), (5, 1), (6, 1)] #[.int .i64 0, .int .i64 0, .slice none 0 0, .int .i64 0, .slice none 0 0, .slice none 0 0, .slice none 0 0] := ⟨by kernel_rfl, _, Tryz.underlying117, by kernel_rfl⟩
theorem Jvb : (Tryz.f11.name == "runtime.NumGoroutine") = false := by kernel_rfl
theorem Jva : (Tryz.f12.name == "runtime.NumGoroutine") = false := by kernel_rfl
theorem Ju9 : (Tryz.f13.name == "runtime.NumGoroutine") = false := by kernel_rfl
theorem Ju8 : (Tryz.f16.name == "runtime.NumGoroutine") = false := by kernel_rfl
theorem Ju7 : (Tryz.f18.name == "runtime.NumGoroutine") = false := by kernel_rfl
theorem Ju6 : (Tryz.f20.name == "runtime.NumGoroutine") = false := by kernel_rfl
theorem Ju5 : (Tryz.f22.name == "runtime.NumGoroutine") = false := by kernel_rfl
theorem Ju4 : (Tryz.f24.name == "runtime.NumGoroutine") = false := by kernel_rfl
theorem Ju3 : (Tryz.f26.name == "runtime.NumGoroutine") = false := by kernel_rfl
theorem Ju2 : (Tryz.f28.name == "runtime.NumGoroutine") = false := by kernel_rfl
theorem Ju1 : (Tryz.f30.name == "runtime.NumGoroutine") = false := by kernel_rfl
theorem Ju0 : (Tryz.f31.name == "runtime.NumGoroutine") = false := by kernel_rfl
theorem Juz : (Tryz.f33.name == "runtime.NumGoroutine") = false := by kernel_rfl
theorem Juy : (Tryz.f35.name == "runtime.NumGoroutine") = false := by kernel_rfl
theorem Jux : (Tryz.f40.name == "runtime.NumGoroutine") = false := by kernel_rfl
theorem Juw : (Tryz.f41.name == "runtime.NumGoroutine") = false := by kernel_rfl
theorem Juv : (Tryz.f42.name == "runtime.NumGoroutine") = false := by kernel_rfl
theorem Juu : (Tryz.f43.name == "runtime.NumGoroutine") = false := by kernel_rfl
theorem Jut : (Tryz.f44.name == "runtime.NumGoroutine") = false := by kernel_rfl
theorem Jus : (Tryz.f45.name == "runtime.NumGoroutine") = false := by kernel_rfl
theorem Jur : (Tryz.f46.name == "runtime.NumGoroutine") = false := by kernel_rfl
theorem Juq : (Tryz.f50.name == "runtime.NumGoroutine") = false := by kernel_rfl
theorem Jup : (Tryz.f52.name == "runtime.NumGoroutine") = false := by kernel_rfl
theorem Juo : (Tryz.f53.name == "runtime.NumGoroutine") = false := by kernel_rfl
theorem Jun : (Tryz.f54.name == "runtime.NumGoroutine") = false := by kernel_rfl
theorem Jum : (Tryz.f55.name == "runtime.NumGoroutine") = false := by kernel_rfl
theorem Jul : (Tryz.f56.name == "runtime.NumGoroutine") = false := by kernel_rfl
theorem Juk : (Tryz.f58.name == "runtime.NumGoroutine") = false := by kernel_rfl
theorem Juj : (Tryz.f60.name == "runtime.NumGoroutine") = false := by kernel_rfl
theorem Jui : (Tryz.f62.name == "runtime.NumGoroutine") = false := by kernel_rfl
theorem Juh : (Tryz.f65.name == "runtime.NumGoroutine") = false := by kernel_rfl
theorem Jug : (Tryz.f66.name == "runtime.NumGoroutine") = false := by kernel_rfl
theorem Juf : (Tryz.f67.name == "runtime.NumGoroutine") = false := by kernel_rfl
theorem Jue : (Tryz.f68.name == "runtime.NumGoroutine") = false := by kernel_rfl
theorem Jud : (Tryz.f71.name == "runtime.NumGoroutine") = false := by kernel_rfl
theorem Juc : (Tryz.f72.name == "runtime.NumGoroutine") = false := by kernel_rfl
theorem Jub : (Tryz.f77.name == "runtime.NumGoroutine") = false := by kernel_rfl
theorem Jua : (Tryz.f78.name == "runtime.NumGoroutine") = false := by kernel_rfl
theorem Jt9 : (Tryz.f79.name == "runtime.NumGoroutine") = false := by kernel_rfl
theorem Jt8 : (Tryz.f80.name == "runtime.NumGoroutine") = false := by kernel_rfl
theorem Jt7 : (Tryz.f82.name == "runtime.NumGoroutine") = false := by kernel_rfl
theorem Jt6 : (Tryz.f83.name == "runtime.NumGoroutine") = false := by kernel_rfl
theorem Jt5 : (Tryz.f84.name == "runtime.NumGoroutine") = false := by kernel_rfl
theorem Jt4 : (Tryz.f85.name == "runtime.NumGoroutine") = false := by kernel_rfl
theorem Jt3 : (Tryz.f86.name == "runtime.NumGoroutine") = false := by kernel_rfl
theorem Jt2 : (Tryz.f87.name == "runtime.NumGoroutine") = false := by kernel_rfl
theorem Jt1 : (Tryz.f88.name == "runtime.NumGoroutine") = false := by kernel_rfl
theorem Jt0 : (Tryz.f89.name == "runtime.NumGoroutine") = false := by kernel_rfl
theorem Jtz : (Tryz.f90.name == "runtime.NumGoroutine") = false := by kernel_rfl
theorem Jty : (Tryz.f92.name == "runtime.NumGoroutine") = false := by kernel_rfl
theorem Jtx : (Tryz.f94.name == "runtime.NumGoroutine") = false := by kernel_rfl
theorem Jtw : (Tryz.f95.name == "runtime.NumGoroutine") = false := by kernel_rfl
theorem Jtv : (Tryz.f97.name == "runtime.NumGoroutine") = false := by kernel_rfl
theorem Jtu : (Tryz.f98.name == "runtime.NumGoroutine") = false := by kernel_rfl
theorem Jtt : (Tryz.f99.name == "runtime.NumGoroutine") = false := by kernel_rfl
theorem Jpz : (Tryz.f102.name == "runtime.NumGoroutine") = false := by kernel_rfl
theorem Jpy : (Tryz.f103.name == "runtime.NumGoroutine") = false := by kernel_rfl
theorem Jpx : (Tryz.f104.name == "runtime.NumGoroutine") = false := by kernel_rfl
theorem Jpw : (Tryz.f105.name == "runtime.NumGoroutine") = false := by kernel_rfl
theorem Jpv : (Tryz.f106.name == "runtime.NumGoroutine") = false := by kernel_rfl
theorem Jpu : (Tryz.f107.name == "runtime.NumGoroutine") = false := by kernel_rfl
theorem Jpt : (Tryz.f108.name == "runtime.NumGoroutine") = false := by kernel_rfl
theorem Jps : (Tryz.f109.name == "runtime.NumGoroutine") = false := by kernel_rfl
theorem Jpr : (Tryz.f110.name == "runtime.NumGoroutine") = false := by kernel_rfl
theorem Jpq : (Tryz.f111.name == "runtime.NumGoroutine") = false := by kernel_rfl
theorem Jpp : (Tryz.f112.name == "runtime.NumGoroutine") = false := by kernel_rfl
theorem Jpo : (Tryz.f113.name == "runtime.NumGoroutine") = false := by kernel_rfl
theorem Jpn : (Tryz.f114.name == "runtime.NumGoroutine") = false := by kernel_rfl
theorem Jpm : (Tryz.f115.name == "runtime.NumGoroutine") = false := by kernel_rfl
theorem Jpl : (Tryz.f116.name == "runtime.NumGoroutine") = false := by kernel_rfl
theorem Jpk : (Tryz.f117.name == "runtime.NumGoroutine") = false := by kernel_rfl
theorem Jpj : (Tryz.f118.name == "runtime.NumGoroutine") = false := by kernel_rfl
theorem Jpi : (Tryz.f119.name == "runtime.NumGoroutine") = false := by kernel_rfl
theorem Jph : (Tryz.f120.name == "runtime.NumGoroutine") = false := by kernel_rfl
theorem Jpg : (Tryz.f121.name == "runtime.NumGoroutine") = false := by kernel_rfl
theorem Jpf : (Tryz.f122.name == "runtime.NumGoroutine") = false := by kernel_rfl
theorem Jpe : (Tryz.f123.name == "runtime.NumGoroutine") = false := by kernel_rfl
theorem Jpd : (Tryz.f124.name == "runtime.NumGoroutine") = false := by kernel_rfl
theorem Jpc : (Tryz.f125.name == "runtime.NumGoroutine") = false := by kernel_rfl
theorem Jpb : (Tryz.f126.name == "runtime.NumGoroutine") = false := by kernel_rfl
theorem Jpa : (Tryz.f127.name == "runtime.NumGoroutine") = false := by kernel_rfl
theorem Jo9 : (Tryz.f128.name == "runtime.NumGoroutine") = false := by kernel_rfl
theorem Jo8 : (Tryz.f129.name == "runtime.NumGoroutine") = false := by kernel_rfl
theorem Jo7 : (Tryz.f130.name == "runtime.NumGoroutine") = false := by kernel_rfl
theorem Jo6 : (Tryz.f131.name == "runtime.NumGoroutine") = false := by kernel_rfl
theorem Jo5 : (Tryz.f132.name == "runtime.NumGoroutine") = false := by kernel_rfl
theorem Jo4 : (Tryz.f133.name == "runtime.NumGoroutine") = false := by kernel_rfl
theorem Jo3 : (Tryz.f134.name == "runtime.NumGoroutine") = false := by kernel_rfl
theorem Jo2 : (Tryz.f135.name == "runtime.NumGoroutine") = false := by kernel_rfl
theorem Jo1 : (Tryz.f136.name == "runtime.NumGoroutine") = false := by kernel_rfl
theorem Jo0 : (Tryz.f137.name == "runtime.NumGoroutine") = false := by kernel_rfl
theorem Joz : (Tryz.f138.name == "runtime.NumGoroutine") = false := by kernel_rfl
theorem Joy : (Tryz.f139.name == "runtime.NumGoroutine") = false := by kernel_rfl
theorem Jox : (Tryz.f140.name == "runtime.NumGoroutine") = false := by kernel_rfl
theorem Jow : (Tryz.f141.name == "runtime.NumGoroutine") = false := by kernel_rfl
theorem Jov : (Tryz.f142.name == "runtime.NumGoroutine") = false := by kernel_rfl
theorem Jou : (Tryz.f143.name == "runtime.NumGoroutine") = false := by kernel_rfl
theorem Jot : (Tryz.f144.name == "runtime.NumGoroutine") = false := by kernel_rfl
theorem Jos : (Tryz.f145.name == "runtime.NumGoroutine") = false := by kernel_rfl
theorem Jor : (Tryz.f146.name == "runtime.NumGoroutine") = false := by kernel_rfl
end Go.Proofs.YtngdhnijkgjhcaaGreat
namespace Go.Proofs.YtngdhnijkgjhcaaGreat
open Go.RowKit
abbrev Jj4 := Jhz
abbrev Jaz := Jcu
abbrev Jfn := Jhy
abbrev YP := Jhx
abbrev Jj3 := Jhw
abbrev Qt := Jkf
abbrev Q8 := Jke
abbrev YM := Jkd
abbrev Qf := Jkc
abbrev JM := Jkb
abbrev Jyt := Jmq
abbrev XB24 := Jp2
abbrev Q6 := Jp1
abbrev XE128 := Jp0
abbrev JE := Jaf
abbrev JY := Jvd
abbrev Jhv := Jeu
abbrev Ju := Jvc
abbrev XE3 := Jmp
abbrev XE4 := Jyy
abbrev XF10 := Tryz.func10
abbrev XF102 := Tryz.func102
abbrev XF103 := Tryz.func103
abbrev XF104 := Tryz.func104
abbrev Jys := Tryz.func105
abbrev Jmf := Tryz.func106
abbrev Jyr := Tryz.func107
abbrev XF108 := Tryz.func108
abbrev XF109 := Tryz.func109
abbrev XF11 := Tryz.func11
abbrev XF110 := Tryz.func110
abbrev Jrv := Tryz.func111
abbrev Jit := Tryz.func112
abbrev XF113 := Tryz.func113
abbrev XF114 := Tryz.func114
abbrev XF115 := Tryz.func115
abbrev Jis := Tryz.func116
abbrev Jru := Tryz.func117
abbrev Jyq := Tryz.func118
abbrev Jir := Tryz.func119
abbrev XF12 := Tryz.func12
abbrev XF120 := Tryz.func120
abbrev Jrt := Tryz.func121
abbrev XF122 := Tryz.func122
abbrev Jrs := Tryz.func123
abbrev Jyp := Tryz.func124
abbrev Jrr := Tryz.func125
abbrev Jyo := Tryz.func126
abbrev XF127 := Tryz.func127
abbrev XF128 := Tryz.func128
abbrev Jyn := Tryz.func129
abbrev XF13 := Tryz.func13
abbrev XF130 := Tryz.func130
abbrev XF131 := Tryz.func131
abbrev XF132 := Tryz.func132
abbrev XF133 := Tryz.func133
abbrev Jym := Tryz.func134
abbrev Jrq := Tryz.func135
abbrev XF136 := Tryz.func136
abbrev XF137 := Tryz.func137
abbrev Jrp := Tryz.func138
abbrev XF139 := Tryz.func139
abbrev XF140 := Tryz.func140
abbrev XF141 := Tryz.func141
abbrev Jyl := Tryz.func142
abbrev XF143 := Tryz.func143
abbrev XF144 := Tryz.func144
abbrev XF145 := Tryz.func145
abbrev XF146 := Tryz.func146
abbrev XF16 := Tryz.func16
abbrev XF18 := Tryz.func18
abbrev Jon := Tryz.func20
abbrev XF22 := Tryz.func22
abbrev XF24 := Tryz.func24
abbrev XF26 := Tryz.func26
abbrev XF28 := Tryz.func28
abbrev XF30 := Tryz.func30
abbrev XF31 := Tryz.func31
abbrev XF33 := Tryz.func33
abbrev XF35 := Tryz.func35
abbrev XF40 := Tryz.func40
abbrev XF41 := Tryz.func41
abbrev XF42 := Tryz.func42
abbrev XF43 := Tryz.func43
abbrev XF44 := Tryz.func44
abbrev XF45 := Tryz.func45
abbrev XF46 := Tryz.func46
abbrev Jtp := Tryz.func50
abbrev XF52 := Tryz.func52
abbrev XF53 := Tryz.func53
abbrev XF54 := Tryz.func54
abbrev XF55 := Tryz.func55
abbrev Jto := Tryz.func56
abbrev XF58 := Tryz.func58
abbrev XF60 := Tryz.func60
abbrev XF62 := Tryz.func62
abbrev XF65 := Tryz.func65
abbrev XF66 := Tryz.func66
abbrev XF67 := Tryz.func67
abbrev XF68 := Tryz.func68
abbrev XF71 := Tryz.func71
abbrev XF72 := Tryz.func72
abbrev Jom := Tryz.func77
abbrev XF78 := Tryz.func78
abbrev XF79 := Tryz.func79
abbrev XF80 := Tryz.func80
abbrev XF82 := Tryz.func82
abbrev XF83 := Tryz.func83
abbrev XF84 := Tryz.func84
abbrev XF85 := Tryz.func85
abbrev XF86 := Tryz.func86
abbrev XF87 := Tryz.func87
abbrev XF88 := Tryz.func88
abbrev Jol := Tryz.func89
abbrev XF90 := Tryz.func90
abbrev XF92 := Tryz.func92
abbrev XF94 := Tryz.func94
abbrev XF95 := Tryz.func95
abbrev XF97 := Tryz.func97
abbrev XF98 := Tryz.func98
abbrev J2 := Jp4
abbrev JL := Jp3
abbrev XN102 := Jpz
abbrev XN103 := Jpy
abbrev XN104 := Jpx
abbrev XN105 := Jpw
abbrev Jro := Jpv
abbrev XN107 := Jpu
abbrev XN108 := Jpt
abbrev XN109 := Jps
abbrev XN11 := Jvb
abbrev XN110 := Jpr
abbrev Jyi := Jpq
abbrev Jme := Jpp
abbrev XN113 := Jpo
abbrev XN114 := Jpn
abbrev XN115 := Jpm
abbrev Jmd := Jpl
abbrev Jyh := Jpk
abbrev XN118 := Jpj
abbrev Jyg := Jpi
abbrev XN12 := Jva
abbrev XN120 := Jph
abbrev XN121 := Jpg
abbrev XN122 := Jpf
abbrev XN123 := Jpe
abbrev XN124 := Jpd
abbrev XN125 := Jpc
abbrev XN126 := Jpb
abbrev XN127 := Jpa
abbrev XN128 := Jo9
abbrev XN129 := Jo8
abbrev XN13 := Ju9
abbrev XN130 := Jo7
abbrev XN131 := Jo6
abbrev XN132 := Jo5
abbrev XN133 := Jo4
abbrev XN134 := Jo3
abbrev Jyf := Jo2
abbrev XN136 := Jo1
abbrev XN137 := Jo0
abbrev Jye := Joz
abbrev XN139 := Joy
abbrev XN140 := Jox
abbrev XN141 := Jow
abbrev XN142 := Jov
abbrev XN143 := Jou
abbrev XN144 := Jot
abbrev XN145 := Jos
abbrev XN146 := Jor
abbrev XN16 := Ju8
abbrev XN18 := Ju7
abbrev Jtn := Ju6
abbrev XN22 := Ju5
abbrev XN24 := Ju4
abbrev XN26 := Ju3
abbrev XN28 := Ju2
abbrev XN30 := Ju1
abbrev XN31 := Ju0
abbrev XN33 := Juz
abbrev XN35 := Juy
abbrev XN40 := Jux
abbrev XN41 := Juw
abbrev XN42 := Juv
abbrev XN43 := Juu
abbrev XN44 := Jut
abbrev XN45 := Jus
abbrev XN46 := Jur
abbrev XN50 := Juq
abbrev XN52 := Jup
abbrev XN53 := Juo
abbrev XN54 := Jun
abbrev XN55 := Jum
abbrev XN56 := Jul
abbrev XN58 := Juk
abbrev XN60 := Juj
abbrev XN62 := Jui
abbrev XN65 := Juh
abbrev XN66 := Jug
abbrev XN67 := Juf
abbrev XN68 := Jue
abbrev XN71 := Jud
abbrev XN72 := Juc
abbrev Jtm := Jub
abbrev XN78 := Jua
abbrev XN79 := Jt9
abbrev XN80 := Jt8
abbrev XN82 := Jt7
abbrev XN83 := Jt6
abbrev XN84 := Jt5
abbrev XN85 := Jt4
abbrev XN86 := Jt3
abbrev XN87 := Jt2
abbrev XN88 := Jt1
abbrev Jtl := Jt0
abbrev XN90 := Jtz
abbrev XN92 := Jty
abbrev XN94 := Jtx
abbrev XN95 := Jtw
abbrev XN97 := Jtv
abbrev XN98 := Jtu
abbrev Jct := Tryz.underlying104
abbrev XU106 := Tryz.underlying106
abbrev XU111 := Tryz.underlying111
abbrev Jhf := Tryz.underlying128
abbrev Js := Tryz.underlying22
abbrev Jy := Tryz.underlying25
abbrev XU3 := Tryz.underlying3
abbrev XU4 := Tryz.underlying4
abbrev Jfb := Tryz.underlying84
end Go.Proofs.YtngdhnijkgjhcaaGreat
set_option linter.unusedSimpArgs false
set_option linter.unusedVariables false
set_option maxRecDepth 4000
set_option maxHeartbeats 4000000
namespace Go.Proofs.YtngdhnijkgjhcaaGreat
open Go.RowKit
def Jhj (b : Bool) (Q : Int -> Prop) : Prop :=
  ((b = true) -> (Q (0 : Int))) /\ (b = false -> (Q (1 : Int)))
theorem Jqx {w : World} {Q : Int -> Prop} {b : Bool}  (hv : Jhj b Q) :
   Calls Tryz.prog 129 #[.bool b] w fun e w' => ∃ v Qr, e = .returned v /\ w.grownBy w' none /\ Rows w.heap.size none w' Qr /\ News w.heap.size Qr /\ ∃ (r0 : Int), v = .int .i64 r0 /\ Qr = [] /\ Q r0 := by
 refine Jk <| Jj (vs := [.bool b]) [2] Jyn rfl rfl rfl rfl ?_; have hS := Jr w; unfold Jhj at hv; refine Jd 9 <| Ji rfl (fun c11 => ?_) (fun c11 => ?_)
 .have hv := hv.1 (c11); refine Jd 4 <| W.ret <| ⟨_, rfl, Fin.nil ?_⟩
  exact (hS.pick [] rfl).fin rfl ⟨(0 : Int), rfl, rfl, hv⟩
 have hv := hv.2 (c11); refine Jl <| Jd 4 <| W.ret <| ⟨_, rfl, Fin.nil ?_⟩
 exact (hS.pick [] rfl).fin rfl ⟨(1 : Int), rfl, rfl, hv⟩
def YE (x : Int) (Q : Int -> Prop) : Prop :=
  ∃ (I14 : Int -> Prop) (μ15 : Int -> Nat), I14 (2 : Int) /\ ∀ (z13 : Int), (I14 z13 -> ((I64 (z13 * z13)) /\ ((((z13 * z13) <= x) -> ((z13 ≠ 0) /\ ((((x.tmod z13) = (0 : Int)) -> Q z13) /\ (¬ ((x.tmod z13) = (0 : Int)) -> ((I64 (z13 + (1 : Int))) /\ (I14 (z13 + (1 : Int)) /\ μ15 (z13 + (1 : Int)) < μ15 z13)))))) /\ (¬ ((z13 * z13) <= x) -> Q x))))
theorem Je9 {w : World} {Q : Int -> Prop} {x : Int}  (hv : YE x Q) :
   Calls Tryz.prog 136 #[.int .i64 x] w fun e w' => ∃ v Qr, e = .returned v /\ w.grownBy w' none /\ Rows w.heap.size none w' Qr /\ News w.heap.size Qr /\ ∃ (r0 : Int), v = .int .i64 r0 /\ Qr = [] /\ Q r0 := by
 refine Jk <| Jj (vs := [nI x]) [2] XF136 rfl rfl rfl rfl ?_; have hS := Jr w; unfold YE at hv; refine Jd 9 <| W.block ?_; obtain ⟨I14, μ15, hv, hk22⟩ := hv; refine JH (σ := Int) (fun z13 w1 => I14 z13 /\ St TT w none w1 []) (fun z13 => [(0, nI x), (2, nI 0), (3, nI z13)]) (fun z13 => μ15 z13) (2 : Int) ⟨hv, hS⟩ ⟨rfl, rfl, rfl, trivial⟩ ?_; rintro z13 w16 ⟨hv, hS⟩; have hv := hk22 z13 hv; refine Jd 5 ?_; obtain ⟨o17, hv⟩ := hv; refine WL.mul (r := (z13 * z13)) rfl rfl (wr o17) rfl <| Jb 3 <| Ji rfl (fun c18 => ?_) (fun c18 => ?_)
 .have hv := hv.1 (oT c18); refine Jl <| JB <| W.block <| Jd 4 ?_; obtain ⟨o19, hv⟩ := hv; refine ZU (r := (x.tmod z13)) rfl rfl o19 rfl rfl <| Jb 2 <| Ji rfl (fun c20 => ?_) (fun c20 => ?_)
  .have hv := hv.1 (oT c20); refine Jd 5 <| W.ret <| ⟨_, rfl, Fin.nil ?_⟩
   exact (hS.pick [] rfl).fin rfl ⟨z13, rfl, rfl, hv⟩
  have hv := hv.2 (oF c20); refine Jl <| Jd 2 ?_; obtain ⟨o21, hv⟩ := hv; refine WL.add (r := (z13 + (1 : Int))) rfl rfl (wr o21) rfl <| Jb 2 ?_; exact ⟨(z13 + (1 : Int)), ⟨rfl, rfl, rfl, trivial⟩, hv.2, rfl, hv.1, hS⟩
 have hv := hv.2 (oF c18); refine JG <| Jd 5 <| W.ret <| ⟨_, rfl, Fin.nil ?_⟩
 exact (hS.pick [] rfl).fin rfl ⟨x, rfl, rfl, hv⟩
def Jcf (x : Int) (Q : Bool -> Prop) : Prop :=
  (((2 : Int) <= x) -> (YE x (fun r13 => Q (decide (r13 = x))))) /\ (¬ ((2 : Int) <= x) -> Q false)
theorem Jnn {w : World} {Q : Bool -> Prop} {x : Int}  (hv : Jcf x Q) :
   Calls Tryz.prog 128 #[.int .i64 x] w fun e w' => ∃ v Qr, e = .returned v /\ w.grownBy w' none /\ Rows w.heap.size none w' Qr /\ News w.heap.size Qr /\ ∃ (r0 : Bool), v = .bool r0 /\ Qr = [] /\ Q r0 := by
 refine Jk <| Jj (vs := [nI x]) [2] XF128 rfl rfl rfl rfl ?_; have hS := Jr w; unfold Jcf at hv; refine Jd 8 <| Jm rfl rfl ?_; by_cases g11 : (2 : Int) <= x
 .have hv := hv.1 g11; rw [decide_eq_true g11]; refine Jb 3 <| SL.call hS (Je9  hv) XF136 rfl XN136 rfl rfl ?_; rintro _ _ w12 ⟨r13, rfl, rfl, hv⟩ hGw12 hS; have hS := hS.n0; refine Jb 7 <| W.ret <| ⟨_, rfl, Fin.nil ?_⟩
  exact (hS.pick [] rfl).fin rfl ⟨(decide (r13 = x)), rfl, rfl, hv⟩
 have hv := hv.2 g11; rw [decide_eq_false g11]; refine Jb 7 <| W.ret <| ⟨_, rfl, Fin.nil ?_⟩
 exact (hS.pick [] rfl).fin rfl ⟨false, rfl, rfl, hv⟩
def Ja4 (Pf : Int) (Mf : Int) (mf : List Int) (Q : Int -> Prop) : Prop :=
  ∃ J14 : Int -> Prop, (∃ (I21 : Int -> Int -> Prop) (μ22 : Int -> Int -> Nat), I21 (1 : Int) (0 : Int) /\ ∀ (z19 : Int) (z20 : Int), (I21 z19 z20 -> (((z20 < Mf) -> (((z19 <= (256 : Int)) -> ((I64 (z19 * Pf)) /\ ((I64 (z20 + (1 : Int))) /\ (I21 (z19 * Pf) (z20 + (1 : Int)) /\ μ22 (z19 * Pf) (z20 + (1 : Int)) < μ22 z19 z20)))) /\ (¬ (z19 <= (256 : Int)) -> J14 z19))) /\ (¬ (z20 < Mf) -> J14 z19)))) /\ ∀ (z13 : Int), (J14 z13 -> Q z13)
theorem Jbg {w : World} {Q : Int -> Prop} {Pf : Int} {Mf : Int} {mf : List Int} {Bf : Nat} {Af : Option Addr} {nf kf : Nat} (hf : Rd Bf w 1 Af nf kf (is mf)) (hv : Ja4 Pf Mf mf Q) :
   Calls Tryz.prog 112 #[.agg #[.int .i64 Pf, .int .i64 Mf, .slice Af nf kf]] w fun e w' => ∃ v Qr, e = .returned v /\ w.grownBy w' none /\ Rows w.heap.size none w' Qr /\ News w.heap.size Qr /\ ∃ (r0 : Int), v = .int .i64 r0 /\ Qr = [] /\ Q r0 := by
 have hnf := hf.ilen; subst hnf; refine Jk <| Jj (vs := [.agg #[nI Pf, nI Mf, nS Af mf kf]]) [2] Jit rfl rfl rfl rfl ?_; have hS := Jr w; unfold Ja4 at hv; refine Jd 2 <| JC (z := 3) (cs := [nI Pf, nI Mf, nS Af mf kf]) hS rfl rfl rfl rfl ?_; intro g11 w12 hS; refine Jb 2 <| Jd 9 ?_; obtain ⟨J14, hv, hk30⟩ := hv; refine QR (σ := Int) (fun z13 w1 => J14 z13 /\ St TT w none w1 [.row 24 3 (nA g11) 1 1 [nI Pf, nI Mf, nS Af mf kf]]) (fun z13 => [(2, nI 0), (3, nI z13)]) ?_ ?_
 .refine W.block ?_; obtain ⟨I21, μ22, hv, hk28⟩ := hv; refine JH (σ := Int × Int) (fun q w1 => match q with | (z19, z20) => I21 z19 z20 /\ St TT w none w1 [.row 24 3 (nA g11) 1 1 [nI Pf, nI Mf, nS Af mf kf]]) (fun q => match q with | (z19, z20) => [(1, nP g11), (2, nI 0), (3, nI z19), (4, nI z20)]) (fun q => match q with | (z19, z20) => μ22 z19 z20) ((1 : Int), (0 : Int)) ⟨hv, hS⟩ ⟨rfl, rfl, rfl, rfl, trivial⟩ ?_; rintro ⟨z19, z20⟩ w23 ⟨hv, hS⟩; have hv := hk28 z19 z20 hv; refine Jd 4 <| Je (off := 1) Q8 rfl rfl <| Jp 0 1 XU3 hS rfl rfl rfl ⟨rfl, rfl⟩ <| Q7 rfl rfl rfl <| Jm rfl rfl ?_; by_cases g24 : z20 < Mf
  .have hv := hv.1 g24; rw [decide_eq_true g24]; refine Jb 6 <| Ji rfl (fun c25 => ?_) (fun c25 => ?_)
   .have hv := hv.1 (oT c25); refine Jl <| JB <| W.block <| Jd 2 <| Je (off := 0) Qt rfl rfl <| Jp 0 0 XU3 hS rfl rfl rfl ⟨rfl, rfl⟩ ?_; obtain ⟨o26, hv⟩ := hv; refine WL.mul (r := (z19 * Pf)) rfl rfl (wr o26) rfl <| Jb 2 <| Jd 2 ?_; obtain ⟨o27, hv⟩ := hv; refine WL.add (r := (z20 + (1 : Int))) rfl rfl (wr o27) rfl <| Jb 2 ?_; exact ⟨((z19 * Pf), (z20 + (1 : Int))), ⟨rfl, rfl, rfl, rfl, trivial⟩, hv.2, rfl, hv.1, hS⟩
   have hv := hv.2 (oF c25); refine JG ?_; exact ⟨z19, ⟨rfl, rfl, trivial⟩, rfl, hv, hS⟩
  have hv := hv.2 g24; rw [decide_eq_false g24]; refine Jb 4 <| Yg rfl <| JG ?_; exact ⟨z19, ⟨rfl, rfl, trivial⟩, rfl, hv, hS⟩
 rintro z13 w29 ⟨hv, hS⟩; have hv := hk30 z13 hv; refine Jd 5 <| W.ret <| ⟨_, rfl, Fin.nil ?_⟩
 exact (hS.pick [] rfl).fin rfl ⟨z13, rfl, rfl, hv⟩
def Jab (p : Int) (n : Int) (x : Int) (Q : List Int -> Prop) : Prop :=
  (0 <= n /\ n * 8 <= 281474976710656 /\ n <= 281474976710656) /\ (∃ (I24 : List Int -> Int -> Int -> Prop) (μ25 : List Int -> Int -> Int -> Nat), I24 (List.replicate n.toNat (0 : Int)) x (0 : Int) /\ ∀ (x21 : List Int) (z22 : Int) (z23 : Int), (I24 x21 z22 z23 -> (((z23 < ((n.toNat : Nat) : Int)) -> ((p ≠ 0) /\ ((0 <= z23 /\ z23 < (n.toNat : Nat)) /\ ((p ≠ 0 /\ I64 (z22.tdiv p)) /\ ((I64 (z23 + (1 : Int))) /\ (I24 (si x21 z23 (z22.tmod p)) (z22.tdiv p) (z23 + (1 : Int)) /\ μ25 (si x21 z23 (z22.tmod p)) (z22.tdiv p) (z23 + (1 : Int)) < μ25 x21 z22 z23)))))) /\ (¬ (z23 < ((n.toNat : Nat) : Int)) -> Q x21))))
theorem Jei {w : World} {Q : List Int -> Prop} {p : Int} {n : Int} {x : Int}  (hv : Jab p n x Q) :
  Calls Tryz.prog 138 #[.int .i64 p, .int .i64 n, .int .i64 x] w fun e w' => ∃ v Qr, e = .returned v /\ w.grownBy w' none /\ Rows w.heap.size none w' Qr /\ News w.heap.size Qr /\ ∃ (x : List Int)  (A : Option Addr) (c : Nat), v = .slice A x.length c /\ Qr = [.row 3 1 A x.length c (is x)] /\ Q x := by
 refine Jk <| Jj (vs := [nI p, nI n, nI x]) [6] Jrp rfl rfl rfl rfl ?_; have hS := Jr w; unfold Jab at hv; refine Jd 7 ?_; obtain ⟨o11, hv⟩ := hv; refine QW (J := n) hS Js XE3 rfl rfl o11 (Ye _) rfl ?_; intro A12 w13 hS; refine Jb 2 <| Jd 4 <| WL.len Js rfl rfl <| Jb 2 <| W.block ?_; obtain ⟨I24, μ25, hv, hk33⟩ := hv; refine JH (σ := List Int × Int × Int) (fun q w1 => match q with | (x21, z22, z23) => I24 x21 z22 z23 /\ St TT w none w1 [.row 3 1 A12 n.toNat n.toNat (is x21)]) (fun q => match q with | (x21, z22, z23) => [(0, nI p), (2, nI z22), (6, .slice none 0 0), (7, .slice A12 n.toNat n.toNat), (12, nI ((n.toNat : Nat) : Int)), (13, nI z23)]) (fun q => match q with | (x21, z22, z23) => μ25 x21 z22 z23) (List.replicate n.toNat (0 : Int), x, (0 : Int)) ⟨hv, hS⟩ ⟨rfl, rfl, rfl, rfl, rfl, rfl, trivial⟩ ?_; rintro ⟨x21, z22, z23⟩ w26 ⟨hv, hS⟩; have hv := hk33 x21 z22 z23 hv; refine Jd 5 <| Ji rfl (fun c27 => ?_) (fun c27 => ?_)
 .have hv := hv.1 (oT c27); refine Jl <| JB <| W.block <| Jd 11 ?_; obtain ⟨o28, hv⟩ := hv; refine ZU (r := (z22.tmod p)) rfl rfl o28 rfl rfl ?_; obtain ⟨o29, hv⟩ := hv; refine Jo Js XE3 (hS.rd (i := 0) rfl) rfl rfl o29 rfl <| JJ (cs' := is (si x21 z23 (z22.tmod p))) 0 z23.toNat hS rfl XE3 rfl rfl rfl (Ym (hS.rd (i := 0) rfl) o29) (QG _ _ _) ?_; intro w30 hS; refine Ja <| Jd 3 ?_; obtain ⟨o31, hv⟩ := hv; refine Joo (r := (z22.tdiv p)) rfl rfl o31.1 (wr o31.2) rfl <| Jb 2 <| Jw ?_; obtain ⟨o32, hv⟩ := hv; refine WL.add (r := (z23 + (1 : Int))) rfl rfl (wr o32) rfl <| Jb 2 ?_; exact ⟨(si x21 z23 (z22.tmod p), (z22.tdiv p), (z23 + (1 : Int))), ⟨rfl, rfl, rfl, rfl, rfl, rfl, trivial⟩, hv.2, rfl, hv.1, hS⟩
 have hv := hv.2 (oF c27); refine JG <| Jd 5 <| W.ret ?_; have hm := (hS.rd (i := 0) rfl).ilen; have hS := hS.relen (i := 0) rfl hm.symm; refine ⟨_, rfl, Fin.nil ?_⟩; exact ⟨_, hS.ext, (hS.pick [0] rfl).rows, JR (hS.pick [0] rfl).rows rfl, ⟨x21, A12, n.toNat, (by rw [hm]), rfl, hv⟩⟩
def ZM (Pf : Int) (Mf : Int) (mf : List Int) (x : Int) (Q : Int -> Prop) : Prop :=
  (Pf ≠ 0) /\ ((I64 (Pf - (1 : Int))) /\ ((((x.tmod Pf) = (Pf - (1 : Int))) -> ((Pf ≠ 0) /\ ((I64 (x - (x.tmod Pf))) /\ (Q (x - (x.tmod Pf)))))) /\ (¬ ((x.tmod Pf) = (Pf - (1 : Int))) -> ((I64 (x + (1 : Int))) /\ (Q (x + (1 : Int)))))))
theorem Jjc {w : World} {Q : Int -> Prop} {Pf : Int} {Mf : Int} {mf : List Int} {x : Int} {Bf : Nat} {Af : Option Addr} {nf kf : Nat} (hf : Rd Bf w 1 Af nf kf (is mf)) (hv : ZM Pf Mf mf x Q) :
   Calls Tryz.prog 114 #[.agg #[.int .i64 Pf, .int .i64 Mf, .slice Af nf kf], .int .i64 x] w fun e w' => ∃ v Qr, e = .returned v /\ w.grownBy w' none /\ Rows w.heap.size none w' Qr /\ News w.heap.size Qr /\ ∃ (r0 : Int), v = .int .i64 r0 /\ Qr = [] /\ Q r0 := by
 have hnf := hf.ilen; subst hnf; refine Jk <| Jj (vs := [.agg #[nI Pf, nI Mf, nS Af mf kf], nI x]) [4] XF114 rfl rfl rfl rfl ?_; have hS := Jr w; unfold ZM at hv; refine Jd 2 <| JC (z := 3) (cs := [nI Pf, nI Mf, nS Af mf kf]) hS rfl rfl rfl rfl ?_; intro g11 w12 hS; refine Jb 2 <| Jd 2 ?_; obtain ⟨o17, hv⟩ := hv; obtain ⟨o21, hv⟩ := hv; refine Qa 8 [⟨[], [1], true⟩, ⟨[], [2], true⟩, ⟨[1], [], false⟩, ⟨[0, 2], [], true⟩, ⟨[], [2], true⟩, ⟨[4], [], false⟩, ⟨[5], [], true⟩, ⟨[3, 6], [], true⟩] [(5, nI x), (6, nP g11), (7, nI Pf), (8, nI (x.tmod Pf)), (9, nP g11), (10, nI Pf), (11, nI (Pf - (1 : Int))), (12, .bool (decide ((x.tmod Pf) = (Pf - (1 : Int)))))] Jz (by kernel_rfl) rfl rfl ?_ ?_
 . refine ⟨oA fun _ => rfl, fun _ _ _ => Je (off := 0) Qt rfl rfl <| Ja ⟨rfl, rfl⟩, fun _ hE _ => have hS := hS.grow (hE rfl); Jp 0 0 XU3 hS rfl rfl rfl ⟨rfl, rfl⟩ <| Ja ⟨rfl, Jg _⟩, fun _ _ _ => ZU (r := (x.tmod Pf)) rfl rfl o17 rfl rfl <| Ja ⟨rfl, rfl⟩, fun _ _ _ => Je (off := 0) Qt rfl rfl <| Ja ⟨rfl, rfl⟩, fun _ hE _ => have hS := hS.grow (hE rfl); Jp 0 0 XU3 hS rfl rfl rfl ⟨rfl, rfl⟩ <| Ja ⟨rfl, Jg _⟩, fun _ _ _ => WL.sub (r := (Pf - (1 : Int))) rfl rfl (wr o21) rfl <| Ja ⟨rfl, rfl⟩, oA fun _ => rfl, trivial⟩
 intro w23 hT; have hS := hS.grow hT; refine Jv (by decide +kernel) <| Ji rfl (fun c24 => ?_) (fun c24 => ?_)
 .have hv := hv.1 (oT c24); refine Jd 4 <| Je (off := 0) Qt rfl rfl <| Jp 0 0 XU3 hS rfl rfl rfl ⟨rfl, rfl⟩ ?_; obtain ⟨o25, hv⟩ := hv; refine ZU (r := (x.tmod Pf)) rfl rfl o25 rfl rfl ?_; obtain ⟨o26, hv⟩ := hv; refine WL.sub (r := (x - (x.tmod Pf))) rfl rfl (wr o26) rfl <| Jb 2 <| W.ret <| ⟨_, rfl, Fin.nil ?_⟩
  exact (hS.pick [] rfl).fin rfl ⟨(x - (x.tmod Pf)), rfl, rfl, hv⟩
 have hv := hv.2 (oF c24); refine Jl <| Jd 3 ?_; obtain ⟨o27, hv⟩ := hv; refine WL.add (r := (x + (1 : Int))) rfl rfl (wr o27) rfl <| Jb 2 <| W.ret <| ⟨_, rfl, Fin.nil ?_⟩
 exact (hS.pick [] rfl).fin rfl ⟨(x + (1 : Int)), rfl, rfl, hv⟩
def Zj (l : List Int) (Q : List Int -> Prop) : Prop :=
  ∀ b11 : Bool, (b11 = true -> l = []) -> (((b11 = true) -> (Q ([] : List Int))) /\ (b11 = false -> ((((0 : Nat) + (l.length : Nat) : Int) * 8 <= 140737488355328) /\ (Q (([] : List Int) ++ l)))))
theorem Z1 {w : World} {Q : List Int -> Prop} {l : List Int} {Bl : Nat} {Al : Option Addr} {nl kl : Nat} (hl : Rd Bl w 1 Al nl kl (is l)) (hv : Zj l Q) :
  Calls Tryz.prog 89 #[.slice Al nl kl] w fun e w' => ∃ v Qr, e = .returned v /\ w.grownBy w' none /\ Rows w.heap.size none w' Qr /\ News w.heap.size Qr /\ ∃ (x : List Int)  (A : Option Addr) (c : Nat), v = .slice A x.length c /\ Qr = [.row 3 1 A x.length c (is x)] /\ Q x := by
 have hnl := hl.ilen; subst hnl; refine Jk <| Jj (vs := [nS Al l kl]) [2] Jol rfl rfl rfl rfl ?_; have hS := Jr w; unfold Zj at hv; refine Jd 8 ?_; obtain ⟨b11, hb11⟩ : ∃ b, Al.isNone = b := ⟨_, rfl⟩
 have hv := hv b11 (fun h => Jvf (hS.ro hl) (hb11.trans h)); refine Jts hb11 Js rfl rfl rfl <| Ja <| Ji rfl (fun c12 => ?_) (fun c12 => ?_)
 .have hv := hv.1 (c12); refine Jd 4 <| W.ret ?_; have hS := hS.nil (e := 3) (z := 1); refine ⟨_, rfl, Fin.nil ?_⟩; exact (hS.pick [0] rfl).fin rfl ⟨([] : List Int), none, 0, rfl, rfl, hv⟩
 have hv := hv.2 (c12); refine Jl <| Jd 2 <| J3 (vs := is ([] : List Int)) hS Js XE3 rfl rfl rfl rfl (Qd _) rfl ?_; intro A13 w14 hS; refine Jm rfl rfl ?_; obtain ⟨o16, hv⟩ := hv; refine SL.append (cs := is ([] : List Int)) (cs' := is l) 0 ((([] : List Int) ++ l).length) (is (([] : List Int) ++ l)) hS rfl Js XE3 (hS.ro hl) (Qd _) rfl rfl (apk o16).1 (apk o16).2 (Jbj (hS.rd (i := 0) rfl) (hS.ro hl)) (Qx _ _) rfl ?_; intro A17 k18 w19 hS; refine Jb 2 <| W.ret <| ⟨_, rfl, Fin.nil ?_⟩
 exact (hS.pick [0] rfl).fin rfl ⟨([] : List Int) ++ l, A17, k18, rfl, rfl, hv⟩
def Jbq (Pf : Int) (Mf : Int) (mf : List Int) (Q : Int -> Prop) : Prop :=
  ((Pf < (2 : Int)) -> (Q (0 : Int))) /\ (¬ (Pf < (2 : Int)) -> (((Mf < (1 : Int)) -> (Q (0 : Int))) /\ (¬ (Mf < (1 : Int)) -> ((((8 : Int) < Mf) -> (Q (0 : Int))) /\ (¬ ((8 : Int) < Mf) -> (∃ (I22 : Int -> Int -> Prop) (μ23 : Int -> Int -> Nat), I22 (1 : Int) (0 : Int) /\ ∀ (z20 : Int) (z21 : Int), (I22 z20 z21 -> (((z21 < Mf) -> ((Pf ≠ 0 /\ I64 ((256 : Int).tdiv Pf)) /\ (((((256 : Int).tdiv Pf) < z20) -> (Q (0 : Int))) /\ (¬ (((256 : Int).tdiv Pf) < z20) -> ((I64 (z20 * Pf)) /\ ((I64 (z21 + (1 : Int))) /\ (I22 (z20 * Pf) (z21 + (1 : Int)) /\ μ23 (z20 * Pf) (z21 + (1 : Int)) < μ23 z20 z21))))))) /\ (¬ (z21 < Mf) -> Q z20)))))))))
theorem Jic {w : World} {Q : Int -> Prop} {Pf : Int} {Mf : Int} {mf : List Int} {Bf : Nat} {Af : Option Addr} {nf kf : Nat} (hf : Rd Bf w 1 Af nf kf (is mf)) (hv : Jbq Pf Mf mf Q) :
   Calls Tryz.prog 107 #[.agg #[.int .i64 Pf, .int .i64 Mf, .slice Af nf kf]] w fun e w' => ∃ v Qr, e = .returned v /\ w.grownBy w' none /\ Rows w.heap.size none w' Qr /\ News w.heap.size Qr /\ ∃ (r0 : Int), v = .int .i64 r0 /\ Qr = [] /\ Q r0 := by
 have hnf := hf.ilen; subst hnf; refine Jk <| Jj (vs := [.agg #[nI Pf, nI Mf, nS Af mf kf]]) [2] Jyr rfl rfl rfl rfl ?_; have hS := Jr w; unfold Jbq at hv; refine Jd 2 <| JC (z := 3) (cs := [nI Pf, nI Mf, nS Af mf kf]) hS rfl rfl rfl rfl ?_; intro g11 w12 hS; refine Jb 2 <| Jd 3 <| Je (off := 0) Qt rfl rfl <| Jp 0 0 XU3 hS rfl rfl rfl ⟨rfl, rfl⟩ <| Q7 rfl rfl rfl <| Jm rfl rfl ?_; by_cases g13 : Pf < (2 : Int)
 .have hv := hv.1 g13; rw [decide_eq_true g13]; refine Jb 10 <| JZ rfl <| Jd 4 <| W.ret <| ⟨_, rfl, Fin.nil ?_⟩
  exact (hS.pick [] rfl).fin rfl ⟨(0 : Int), rfl, rfl, hv⟩
 have hv := hv.2 g13; rw [decide_eq_false g13]; refine WL.take rfl <| Je (off := 1) Q8 rfl rfl <| WL.take rfl <| Jp 0 1 XU3 hS rfl rfl rfl ⟨rfl, rfl⟩ <| Jb 3 <| Jm rfl rfl ?_; by_cases g14 : Mf < (1 : Int)
 .have hv := hv.1 g14; rw [decide_eq_true g14]; refine Jb 5 <| JZ rfl <| Jd 4 <| W.ret <| ⟨_, rfl, Fin.nil ?_⟩
  exact (hS.pick [] rfl).fin rfl ⟨(0 : Int), rfl, rfl, hv⟩
 have hv := hv.2 g14; rw [decide_eq_false g14]; refine WL.take rfl <| Je (off := 1) Q8 rfl rfl <| WL.take rfl <| Jp 0 1 XU3 hS rfl rfl rfl ⟨rfl, rfl⟩ <| Jb 4 <| Ji rfl (fun c15 => ?_) (fun c15 => ?_)
 .have hv := hv.1 (oT c15); refine Jd 4 <| W.ret <| ⟨_, rfl, Fin.nil ?_⟩
  exact (hS.pick [] rfl).fin rfl ⟨(0 : Int), rfl, rfl, hv⟩
 have hv := hv.2 (oF c15); refine Jl <| Jd 9 <| W.block ?_; obtain ⟨I22, μ23, hv, hk30⟩ := hv; refine JH (σ := Int × Int) (fun q w1 => match q with | (z20, z21) => I22 z20 z21 /\ St TT w none w1 [.row 24 3 (nA g11) 1 1 [nI Pf, nI Mf, nS Af mf kf]]) (fun q => match q with | (z20, z21) => [(1, nP g11), (2, nI 0), (3, nI z20), (4, nI z21)]) (fun q => match q with | (z20, z21) => μ23 z20 z21) ((1 : Int), (0 : Int)) ⟨hv, hS⟩ ⟨rfl, rfl, rfl, rfl, trivial⟩ ?_; rintro ⟨z20, z21⟩ w24 ⟨hv, hS⟩; have hv := hk30 z20 z21 hv; refine Jd 4 <| Je (off := 1) Q8 rfl rfl <| Jp 0 1 XU3 hS rfl rfl rfl ⟨rfl, rfl⟩ <| Jb 2 <| Ji rfl (fun c25 => ?_) (fun c25 => ?_)
 .have hv := hv.1 (oT c25); refine Jl <| JB <| W.block <| Jd 4 <| Je (off := 0) Qt rfl rfl <| Jp 0 0 XU3 hS rfl rfl rfl ⟨rfl, rfl⟩ ?_; obtain ⟨o26, hv⟩ := hv; refine Joo (r := ((256 : Int).tdiv Pf)) rfl rfl o26.1 (wr o26.2) rfl <| Jb 2 <| Ji rfl (fun c27 => ?_) (fun c27 => ?_)
  .have hv := hv.1 (oT c27); refine Jd 4 <| W.ret <| ⟨_, rfl, Fin.nil ?_⟩
   exact (hS.pick [] rfl).fin rfl ⟨(0 : Int), rfl, rfl, hv⟩
  have hv := hv.2 (oF c27); refine Jl <| Jd 2 <| Je (off := 0) Qt rfl rfl <| Jp 0 0 XU3 hS rfl rfl rfl ⟨rfl, rfl⟩ ?_; obtain ⟨o28, hv⟩ := hv; refine WL.mul (r := (z20 * Pf)) rfl rfl (wr o28) rfl <| Jb 2 <| Jd 2 ?_; obtain ⟨o29, hv⟩ := hv; refine WL.add (r := (z21 + (1 : Int))) rfl rfl (wr o29) rfl <| Jb 2 ?_; exact ⟨((z20 * Pf), (z21 + (1 : Int))), ⟨rfl, rfl, rfl, rfl, trivial⟩, hv.2, rfl, hv.1, hS⟩
 have hv := hv.2 (oF c25); refine JG <| Jd 5 <| W.ret <| ⟨_, rfl, Fin.nil ?_⟩
 exact (hS.pick [] rfl).fin rfl ⟨z20, rfl, rfl, hv⟩
def Jdz (x : Int) (Q : Bool -> Prop) : Prop :=
  ∃ (I14 : Int -> Prop) (μ15 : Int -> Nat), I14 (2 : Int) /\ ∀ (z13 : Int), (I14 z13 -> (((z13 < x) -> ((z13 ≠ 0) /\ ((((x.tmod z13) = (0 : Int)) -> Q false) /\ (¬ ((x.tmod z13) = (0 : Int)) -> ((I64 (z13 + (1 : Int))) /\ (I14 (z13 + (1 : Int)) /\ μ15 (z13 + (1 : Int)) < μ15 z13)))))) /\ (¬ (z13 < x) -> Q true)))
theorem Jsk {w : World} {Q : Bool -> Prop} {x : Int}  (hv : Jdz x Q) :
   Calls Tryz.prog 108 #[.int .i64 x] w fun e w' => ∃ v Qr, e = .returned v /\ w.grownBy w' none /\ Rows w.heap.size none w' Qr /\ News w.heap.size Qr /\ ∃ (r0 : Bool), v = .bool r0 /\ Qr = [] /\ Q r0 := by
 refine Jk <| Jj (vs := [nI x]) [2] XF108 rfl rfl rfl rfl ?_; have hS := Jr w; unfold Jdz at hv; refine Jd 9 <| W.block ?_; obtain ⟨I14, μ15, hv, hk21⟩ := hv; refine JH (σ := Int) (fun z13 w1 => I14 z13 /\ St TT w none w1 []) (fun z13 => [(0, nI x), (2, .bool false), (3, nI z13)]) (fun z13 => μ15 z13) (2 : Int) ⟨hv, hS⟩ ⟨rfl, rfl, rfl, trivial⟩ ?_; rintro z13 w16 ⟨hv, hS⟩; have hv := hk21 z13 hv; refine Jd 7 <| Ji rfl (fun c17 => ?_) (fun c17 => ?_)
 .have hv := hv.1 (oT c17); refine Jl <| JB <| W.block <| Jd 4 ?_; obtain ⟨o18, hv⟩ := hv; refine ZU (r := (x.tmod z13)) rfl rfl o18 rfl rfl <| Jb 2 <| Ji rfl (fun c19 => ?_) (fun c19 => ?_)
  .have hv := hv.1 (oT c19); refine Jd 4 <| W.ret <| ⟨_, rfl, Fin.nil ?_⟩
   exact (hS.pick [] rfl).fin rfl ⟨false, rfl, rfl, hv⟩
  have hv := hv.2 (oF c19); refine Jl <| Jd 2 ?_; obtain ⟨o20, hv⟩ := hv; refine WL.add (r := (z13 + (1 : Int))) rfl rfl (wr o20) rfl <| Jb 2 ?_; exact ⟨(z13 + (1 : Int)), ⟨rfl, rfl, rfl, trivial⟩, hv.2, rfl, hv.1, hS⟩
 have hv := hv.2 (oF c17); refine JG <| Jd 4 <| W.ret <| ⟨_, rfl, Fin.nil ?_⟩
 exact (hS.pick [] rfl).fin rfl ⟨true, rfl, rfl, hv⟩
def Jcc (x : Int) (p : Int) (n : Int) (Q : List Int -> Prop) : Prop :=
  (0 <= n /\ n * 8 <= 281474976710656 /\ n <= 281474976710656) /\ (∃ (I24 : List Int -> Int -> Int -> Prop) (μ25 : List Int -> Int -> Int -> Nat), I24 (List.replicate n.toNat (0 : Int)) x (0 : Int) /\ ∀ (x21 : List Int) (z22 : Int) (z23 : Int), (I24 x21 z22 z23 -> (((z23 < n) -> ((p ≠ 0) /\ ((0 <= z23 /\ z23 < (n.toNat : Nat)) /\ ((p ≠ 0 /\ I64 (z22.tdiv p)) /\ ((I64 (z23 + (1 : Int))) /\ (I24 (si x21 z23 (z22.tmod p)) (z22.tdiv p) (z23 + (1 : Int)) /\ μ25 (si x21 z23 (z22.tmod p)) (z22.tdiv p) (z23 + (1 : Int)) < μ25 x21 z22 z23)))))) /\ (¬ (z23 < n) -> Q x21))))
theorem Jnk {w : World} {Q : List Int -> Prop} {x : Int} {p : Int} {n : Int}  (hv : Jcc x p n Q) :
  Calls Tryz.prog 95 #[.int .i64 x, .int .i64 p, .int .i64 n] w fun e w' => ∃ v Qr, e = .returned v /\ w.grownBy w' none /\ Rows w.heap.size none w' Qr /\ News w.heap.size Qr /\ ∃ (x : List Int)  (A : Option Addr) (c : Nat), v = .slice A x.length c /\ Qr = [.row 3 1 A x.length c (is x)] /\ Q x := by
 refine Jk <| Jj (vs := [nI x, nI p, nI n]) [6] XF95 rfl rfl rfl rfl ?_; have hS := Jr w; unfold Jcc at hv; refine Jd 7 ?_; obtain ⟨o11, hv⟩ := hv; refine QW (J := n) hS Js XE3 rfl rfl o11 (Ye _) rfl ?_; intro A12 w13 hS; refine Jb 2 <| Jd 5 <| W.block ?_; obtain ⟨I24, μ25, hv, hk33⟩ := hv; refine JH (σ := List Int × Int × Int) (fun q w1 => match q with | (x21, z22, z23) => I24 x21 z22 z23 /\ St TT w none w1 [.row 3 1 A12 n.toNat n.toNat (is x21)]) (fun q => match q with | (x21, z22, z23) => [(0, nI z22), (1, nI p), (2, nI n), (6, .slice none 0 0), (7, .slice A12 n.toNat n.toNat), (8, nI z23)]) (fun q => match q with | (x21, z22, z23) => μ25 x21 z22 z23) (List.replicate n.toNat (0 : Int), x, (0 : Int)) ⟨hv, hS⟩ ⟨rfl, rfl, rfl, rfl, rfl, rfl, trivial⟩ ?_; rintro ⟨x21, z22, z23⟩ w26 ⟨hv, hS⟩; have hv := hk33 x21 z22 z23 hv; refine Jd 7 <| Ji rfl (fun c27 => ?_) (fun c27 => ?_)
 .have hv := hv.1 (oT c27); refine Jl <| JB <| W.block <| Jd 6 ?_; obtain ⟨o28, hv⟩ := hv; refine ZU (r := (z22.tmod p)) rfl rfl o28 rfl rfl ?_; obtain ⟨o29, hv⟩ := hv; refine Jo Js XE3 (hS.rd (i := 0) rfl) rfl rfl o29 rfl <| JJ (cs' := is (si x21 z23 (z22.tmod p))) 0 z23.toNat hS rfl XE3 rfl rfl rfl (Ym (hS.rd (i := 0) rfl) o29) (QG _ _ _) ?_; intro w30 hS; refine Ja <| Jd 3 ?_; obtain ⟨o31, hv⟩ := hv; refine Joo (r := (z22.tdiv p)) rfl rfl o31.1 (wr o31.2) rfl <| Jb 2 <| Jd 2 ?_; obtain ⟨o32, hv⟩ := hv; refine WL.add (r := (z23 + (1 : Int))) rfl rfl (wr o32) rfl <| Jb 2 ?_; exact ⟨(si x21 z23 (z22.tmod p), (z22.tdiv p), (z23 + (1 : Int))), ⟨rfl, rfl, rfl, rfl, rfl, rfl, trivial⟩, hv.2, rfl, hv.1, hS⟩
 have hv := hv.2 (oF c27); refine JG <| Jd 5 <| W.ret ?_; have hm := (hS.rd (i := 0) rfl).ilen; have hS := hS.relen (i := 0) rfl hm.symm; refine ⟨_, rfl, Fin.nil ?_⟩; exact ⟨_, hS.ext, (hS.pick [0] rfl).rows, JR (hS.pick [0] rfl).rows rfl, ⟨x21, A12, n.toNat, (by rw [hm]), rfl, hv⟩⟩
end Go.Proofs.YtngdhnijkgjhcaaGreat
set_option linter.unusedSimpArgs false
set_option linter.unusedVariables false
namespace Go.Proofs.YtngdhnijkgjhcaaGreat
open Go.RowKit
theorem Jjz {w : World} {p : Addr} {A : Option Addr} {m c : Nat} (hm : m <= 9223372036854775807) :
    SeqJ Tryz.prog 146 #[.pointer (some p)] (fun w1 => w1.cell? p = some (.slice A m c) /\ ∃ l : List Int, ∃ B, Rd B w1 1 A m c (is l)) (fun i x w1 => ∃ v : Int, x = #[.int .i64 ((m - 1 - i : Nat) : Int), .int .i64 v] /\ w1.cell? ((JW A).add (m - 1 - i)) = some (.int .i64 v)) m w := by
  intro l J Jx Wn hW hJ hJx hM hY h0
  refine Jj (vs := [.func (.yield l) #[] #[], .pointer (some p)]) (R := fun _ w' => J m w' ∨ ∃ i, i <= m /\ Jx i w') [] Tryz.func146 rfl rfl rfl rfl ?_
  have hM0 := hM 0 Wn h0
  refine JB ?_
  refine Jw ?_
  refine Jn Tryz.underlying22 rfl rfl hM0.1 rfl ?_
  refine WL.len Tryz.underlying22 rfl rfl ?_
  refine WL.sub (r := (m : Int) - 1) rfl rfl (wi64 (by omega) (by omega) rfl) rfl ?_
  refine Qb rfl rfl ?_
  refine Ja ?_
  refine W.block ?_
  refine JH (σ := Nat) (fun i w1 => J i w1 /\ i <= m) (fun i => [(0, .func (.yield l) #[] #[]), (1, .pointer (some p)), (3, .int .i64 ((m : Int) - 1 - i))]) (fun i => m - i) 0 ⟨h0, Nat.zero_le _⟩ ⟨rfl, rfl, iv (by omega), trivial⟩ ?_
  rintro i w1 ⟨hi, hle⟩
  obtain ⟨hMp, xs, Bx, hR⟩ := hM i w1 hi
  refine JB ?_
  refine JB ?_
  refine Jw ?_
  refine Jm rfl rfl ?_
  refine Jj6 rfl rfl rfl ?_
  refine Ja ?_
  refine Ji rfl (fun c => ?_) (fun c => ?_)
  . have c := of_decide_eq_true c
    have hj : (m : Int) - 1 - i = ((m - 1 - i : Nat) : Int) := by omega
    rw [hj]
    refine Jl ?_
    refine JB ?_
    refine W.block ?_
    refine JB ?_
    refine Jw ?_
    refine Jm rfl rfl ?_
    refine Jm rfl rfl ?_
    refine Jn Tryz.underlying22 rfl rfl hMp rfl ?_
    refine Jm rfl rfl ?_
    refine Jb9 (m - 1 - i) Tryz.underlying22 Jmp rfl rfl rfl (by omega) hR rfl ?_
    have hcell := hR.at_ (Jxb (show m - 1 - i < xs.length by have := hR.ilen; omega))
    refine Jn Tryz.underlying3 rfl rfl hcell rfl ?_
    refine Jmg (vs := [.int .i64 ((m - 1 - i : Nat) : Int), .int .i64 (xs.getD (m - 1 - i) 0)]) rfl rfl rfl (hY i #[.int .i64 ((m - 1 - i : Nat) : Int), .int .i64 (xs.getD (m - 1 - i) 0)] w1 hi (by omega) ⟨_, rfl, hcell⟩) (fun e w' h => by rcases h with ⟨h, _⟩ | ⟨h, _⟩ <;> exact ⟨_, h⟩) ?_
    rintro v w2 (⟨hv, h⟩ | ⟨hv, h⟩)
    . cases hv
      refine Jc4 rfl rfl ?_
      refine Ja ?_
      refine Yg rfl ?_
      refine Jl ?_
      refine Jw ?_
      refine Jm rfl rfl ?_
      refine WL.sub (r := (m : Int) - 1 - ((i + 1 : Nat) : Int)) rfl rfl (wi64 (by omega) (by omega) (by omega)) rfl ?_
      refine Qb rfl rfl ?_
      refine Ja ?_
      exact ⟨i + 1, ⟨rfl, rfl, rfl, trivial⟩, by omega, rfl, h, by omega⟩
    . cases hv
      refine Jc4 rfl rfl ?_
      refine Ja ?_
      refine JZ rfl ?_
      refine W.ret ?_
      exact ⟨_, rfl, Fin.nil (.inr ⟨i + 1, by omega, h⟩)⟩
  . have c := of_decide_eq_false c
    refine JG ?_
    have : i = m := by omega
    subst this
    exact ⟨_, rfl, Fin.nil (.inl hi)⟩
theorem Jjq {w : World} {p ad : Addr} {q : Int} (hq : I64 q) (hp : w.cell? p = some (.pointer (some ad))) (ha : w.cell? (ad.add 3) = some (.int .i64 q)) :
  SeqJ Tryz.prog 139 #[.pointer (some p)] (fun _ => True) (fun i x _ => x = #[.int .i64 (i : Int)]) q.toNat w := by
 intro l J Jx Wn hW hJ hJx _ hY h0; have hp' : Wn.cell? p = some (.pointer (some ad)) := (hW.cell (World.block_lt_of_cell? w _ hp)).trans hp; have ha' : Wn.cell? (ad.add 3) = some (.int .i64 q) := (hW.cell (World.block_lt_of_cell? w _ ha)).trans ha; refine Jj (vs := [.func (.yield l) #[] #[], .pointer (some p)]) (R := fun _ w' => J q.toNat w' ∨ ∃ i, i <= q.toNat /\ Jx i w') [] Tryz.func139 rfl rfl rfl rfl ?_; refine JB ?_; refine Jw ?_; refine Jn Tryz.underlying84 rfl rfl hp' rfl ?_; refine Q2 rfl rfl ?_; refine Je (off := 3) Jcu rfl rfl ?_; refine Jn Tryz.underlying3 rfl rfl ha' rfl ?_; refine Jm rfl rfl ?_; refine Ja ?_; refine W.block ?_; refine JH (σ := Nat) (fun i w1 => J i w1 /\ i <= q.toNat) (fun i => [(0, .func (.yield l) #[] #[]), (7, .int .i64 q), (8, .int .i64 (i : Int))]) (fun i => q.toNat - i) 0 ⟨h0, Nat.zero_le _⟩ ⟨rfl, rfl, rfl, trivial⟩ ?_; rintro i w1 ⟨hi, hle⟩; refine JB ?_; refine Jw ?_; refine Q7 rfl rfl rfl ?_; refine Ja ?_; refine JB ?_; refine Ji rfl (fun c => ?_) (fun c => ?_)
 .have c := of_decide_eq_true c; refine Jl ?_; refine JB ?_; refine W.block ?_; refine JB ?_; refine Jw ?_; refine Jm rfl rfl ?_; refine Qb rfl rfl ?_; refine Ja ?_; refine JB ?_; refine Jw ?_; refine Jm rfl rfl ?_; refine Jm rfl rfl ?_; refine Jmg (vs := [.int .i64 (i : Int)]) rfl rfl rfl (hY i #[.int .i64 (i : Int)] w1 hi (by omega) rfl) (fun e w' h => by rcases h with ⟨h, _⟩ | ⟨h, _⟩ <;> exact ⟨_, h⟩) ?_; rintro v w2 (⟨hv, h⟩ | ⟨hv, h⟩)
  .cases hv; refine Jc4 rfl rfl ?_; refine Ja ?_; refine Yg rfl ?_; refine Jl ?_; refine Jw ?_; refine WL.add (r := ((i + 1 : Nat) : Int)) rfl rfl (wi64 (by omega) (by have := hq.2; omega) (by omega)) rfl ?_; refine Jm rfl rfl ?_; refine Ja ?_; exact ⟨i + 1, ⟨rfl, rfl, rfl, trivial⟩, by omega, rfl, h, by omega⟩
  .cases hv; refine Jc4 rfl rfl ?_; refine Ja ?_; refine JZ rfl ?_; refine W.ret ?_; exact ⟨_, rfl, Fin.nil (.inr ⟨i + 1, by omega, h⟩)⟩
 .have c := of_decide_eq_false c; refine JG ?_; have : i = q.toNat := by omega
  subst this; exact ⟨_, rfl, Fin.nil (.inl hi)⟩
end Go.Proofs.YtngdhnijkgjhcaaGreat
set_option linter.unusedSimpArgs false
set_option linter.unusedVariables false
namespace Go.Proofs.YtngdhnijkgjhcaaGreat
open Go.RowKit
structure GFv where
  P : Int
  M : Int
  mod : List Int
  q : Int
  exp : List Int
  log : List Int
  above : List Int
def GFR (B : Nat) (w : World) (ad : Addr) (F : GFv) : Prop := ∃ A1 k1 A2 k2 A3 k3 A4 k4,
  Rd B w 7 (some ad) 1 1 [.int .i64 F.P, .int .i64 F.M, .slice A1 F.mod.length k1, .int .i64 F.q, .slice A2 F.exp.length k2, .slice A3 F.log.length k3, .slice A4 F.above.length k4] /\
  Rd B w 1 A1 F.mod.length k1 (is F.mod) /\ Rd B w 1 A2 F.exp.length k2 (is F.exp) /\ Rd B w 1 A3 F.log.length k3 (is F.log) /\ Rd B w 1 A4 F.above.length k4 (is F.above)
theorem GFR.ext {B : Nat} {w w' : World} {ad : Addr} {F : GFv} (h : GFR B w ad F) (hg : w.grownBy w' none) : GFR B w' ad F := by
 obtain ⟨A1, k1, A2, k2, A3, k3, A4, k4, h1, h2, h3, h4, h5⟩ := h; exact ⟨A1, k1, A2, k2, A3, k3, A4, k4, h1.ext hg, h2.ext hg, h3.ext hg, h4.ext hg, h5.ext hg⟩
def GFX (lo B : Nat) (w : World) (ad : Addr) (F : GFv) : Prop := ∃ A1 k1 A2 k2 A3 k3 A4 k4,
  (Rd B w 7 (some ad) 1 1 [.int .i64 F.P, .int .i64 F.M, .slice A1 F.mod.length k1, .int .i64 F.q, .slice A2 F.exp.length k2, .slice A3 F.log.length k3, .slice A4 F.above.length k4] /\ lo <= ad.block) /\
  (Rd B w 1 A1 F.mod.length k1 (is F.mod) /\ ∀ g, bl A1 = some g -> lo <= g) /\ (Rd B w 1 A2 F.exp.length k2 (is F.exp) /\ ∀ g, bl A2 = some g -> lo <= g) /\ (Rd B w 1 A3 F.log.length k3 (is F.log) /\ ∀ g, bl A3 = some g -> lo <= g) /\ (Rd B w 1 A4 F.above.length k4 (is F.above) /\ ∀ g, bl A4 = some g -> lo <= g)
theorem GFX.gfr {lo B : Nat} {w : World} {ad : Addr} {F : GFv} (h : GFX lo B w ad F) : GFR B w ad F := by
 obtain ⟨A1, k1, A2, k2, A3, k3, A4, k4, h1, h2, h3, h4, h5⟩ := h; exact ⟨A1, k1, A2, k2, A3, k3, A4, k4, h1.1, h2.1, h3.1, h4.1, h5.1⟩
theorem Rd.steady {lo B : Nat} {w w' : World} {z : Nat} {A : Option Addr} {m c : Nat} {cs : List Value} (h : Rd B w z A m c cs) (hl : ∀ g, bl A = some g -> lo <= g) (hw : ∀ k, lo <= k -> k < B -> w'.heap[k]? = w.heap[k]?) : Rd B w' z A m c cs :=
 ⟨h.len, h.cap, h.max, fun hm => by
  obtain ⟨ad, e1, e2, e3⟩ := h.cells hm; refine ⟨ad, e1, e2, fun j u hu => (World.cell?_of_block (hw _ ?_ ?_)).trans (e3 j u hu)⟩
  .rw [QQ]; exact hl _ (by rw [e1]; rfl)
  .rw [QQ]; exact e2⟩
theorem GFX.steady {lo B : Nat} {ad : Addr} {F : GFv} : Jyz lo B (fun w => GFX lo B w ad F) := by
 rintro w w' hw ⟨A1, k1, A2, k2, A3, k3, A4, k4, h1, h2, h3, h4, h5⟩; exact ⟨A1, k1, A2, k2, A3, k3, A4, k4, ⟨h1.1.steady (fun g hg => by cases hg; exact h1.2) hw, h1.2⟩, ⟨h2.1.steady h2.2 hw, h2.2⟩, ⟨h3.1.steady h3.2 hw, h3.2⟩, ⟨h4.1.steady h4.2 hw, h4.2⟩, ⟨h5.1.steady h5.2 hw, h5.2⟩⟩
theorem gfx_mk {lo B : Nat} {w : World} {ad : Addr} {F : GFv} {A1 A2 A3 A4 : Option Addr} {k1 k2 k3 k4 n1 n2 n3 n4 : Nat}
  (h : Rd B w 7 (some ad) 1 1 [.int .i64 F.P, .int .i64 F.M, .slice A1 n1 k1, .int .i64 F.q, .slice A2 n2 k2, .slice A3 n3 k3, .slice A4 n4 k4]) (hl : lo <= ad.block)
  (h1 : Rd B w 1 A1 n1 k1 (is F.mod) /\ ∀ g, bl A1 = some g -> lo <= g) (h2 : Rd B w 1 A2 n2 k2 (is F.exp) /\ ∀ g, bl A2 = some g -> lo <= g) (h3 : Rd B w 1 A3 n3 k3 (is F.log) /\ ∀ g, bl A3 = some g -> lo <= g) (h4 : Rd B w 1 A4 n4 k4 (is F.above) /\ ∀ g, bl A4 = some g -> lo <= g) : GFX lo B w ad F := by
 have e1 := h1.1.ilen; have e2 := h2.1.ilen; have e3 := h3.1.ilen; have e4 := h4.1.ilen; subst e1; subst e2; subst e3; subst e4; exact ⟨A1, k1, A2, k2, A3, k3, A4, k4, ⟨h, hl⟩, h1, h2, h3, h4⟩
theorem St.base {X : World -> Prop} {w0 w : World} {R : List Rw} {i e z m c : Nat} {A : Option Addr} {cs : List Value} (h : St X w0 none w R) (hi : R[i]? = some (.row e z A m c cs)) : ∀ g, bl A = some g -> w0.heap.size <= g := fun g hg => ((h.rows.get hi).2 g hg).resolve_right (by simp)
theorem GFR.norm {B : Nat} {w : World} {ad : Addr} {F : GFv} (h : GFR B w ad F) : GFR w.heap.size w ad F := by
 obtain ⟨A1, k1, A2, k2, A3, k3, A4, k4, h1, h2, h3, h4, h5⟩ := h; exact ⟨A1, k1, A2, k2, A3, k3, A4, k4, h1.norm, h2.norm, h3.norm, h4.norm, h5.norm⟩
end Go.Proofs.YtngdhnijkgjhcaaGreat
set_option linter.unusedSimpArgs false
set_option linter.unusedVariables false
set_option maxRecDepth 4000
set_option maxHeartbeats 4000000
namespace Go.Proofs.YtngdhnijkgjhcaaGreat
open Go.RowKit
def Jhk (x : Int) (Pf : Int) (Mf : Int) (mf : List Int) (Q : Bool -> Prop) : Prop :=
  ((x < (0 : Int)) -> Q true) /\ (¬ (x < (0 : Int)) -> (Q (decide (Pf <= x))))
theorem Jso {w : World} {Q : Bool -> Prop} {x : Int} {Pf : Int} {Mf : Int} {mf : List Int} {af : Addr} {Bf Cf : Nat} {Af : Option Addr} {nf kf : Nat} (hcf : Rd Cf w 3 (some af) 1 1 [.int .i64 Pf, .int .i64 Mf, .slice Af nf kf]) (hmf : Rd Bf w 1 Af nf kf (is mf)) (hv : Jhk x Pf Mf mf Q) :
   Calls Tryz.prog 130 #[.int .i64 x, .pointer (some af)] w fun e w' => ∃ v Qr, e = .returned v /\ w.grownBy w' none /\ Rows w.heap.size none w' Qr /\ News w.heap.size Qr /\ ∃ (r0 : Bool), v = .bool r0 /\ Qr = [] /\ Q r0 := by
 have hnf := hmf.ilen; subst hnf; refine Jk <| Jj (vs := [nI x, .pointer (some af)]) [3] XF130 rfl rfl rfl rfl ?_; have hS := Jr w; unfold Jhk at hv; refine Jd 8 <| Jm rfl rfl ?_; by_cases g11 : x < (0 : Int)
 .have hv := hv.1 g11; rw [decide_eq_true g11]; refine Jb 7 <| W.ret <| ⟨_, rfl, Fin.nil ?_⟩
  exact (hS.pick [] rfl).fin rfl ⟨true, rfl, rfl, hv⟩
 have hv := hv.2 g11; rw [decide_eq_false g11]; refine Jb 3 <| Je (off := 0) Qt rfl rfl <| WL.take rfl <| Jn XU3 rfl rfl (Rd.at_ (hS.ro hcf) (j := 0) rfl) rfl <| Jb 5 <| W.ret <| ⟨_, rfl, Fin.nil ?_⟩
 exact (hS.pick [] rfl).fin rfl ⟨(decide (Pf <= x)), rfl, rfl, hv⟩
def Jc6 (x : Int) (Q : Bool -> Prop) : Prop :=
  Q (decide (x ≠ (0 : Int)))
theorem Jlg {w : World} {Q : Bool -> Prop} {x : Int}  (hv : Jc6 x Q) :
  Calls Tryz.prog 143 #[.int .i64 x] w fun e w' => ∃ v Qr, e = .returned v /\ w.grownBy w' none /\ Rows w.heap.size none w' Qr /\ News w.heap.size Qr /\ ∃ (r0 : Bool), v = .bool r0 /\ Qr = [] /\ Q r0 := by
 refine Jk <| Jj (vs := [nI x]) [2] XF143 rfl rfl rfl rfl ?_; have hS := Jr w; unfold Jc6 at hv; refine Jd 10 <| W.ret <| ⟨_, rfl, Fin.nil ?_⟩
 exact (hS.pick [] rfl).fin rfl ⟨(decide (x ≠ (0 : Int))), rfl, rfl, hv⟩
def Zh (l : List Int) (p : Int -> (Bool -> Prop) -> Prop) (Q : Int -> Prop) : Prop :=
  ∃ (I14 : Int -> Prop) (μ15 : Int -> Nat), I14 (0 : Int) /\ ∀ (z13 : Int), (I14 z13 -> (((z13 < (l.length : Int)) -> ((0 <= z13 /\ z13 < (l.length : Nat)) /\ (p (gi l z13) (fun b20 => ((b20 = true) -> Q z13) /\ (b20 = false -> ((I64 (z13 + (1 : Int))) /\ (I14 (z13 + (1 : Int)) /\ μ15 (z13 + (1 : Int)) < μ15 z13))))))) /\ (¬ (z13 < (l.length : Int)) -> (Q (-1 : Int)))))
theorem Jgm {w : World} {Q : Int -> Prop} {l : List Int} {p : Int -> (Bool -> Prop) -> Prop} {Bl : Nat} {Al : Option Addr} {nl kl : Nat} (hl : Rd Bl w 1 Al nl kl (is l)) {cfp : Nat} {cgp : Func} {ccp : Code} {csp : List Value} (hcfp : Tryz.prog.funcs[cfp]? = some cgp) (hcbp : cgp.body = some ccp) (hcnp : (cgp.name == "runtime.NumGoroutine") = false) (hclp : ∀ (wc : World) (xc : Int) (Qc : Bool -> Prop), w.grownBy wc none -> p xc Qc -> Calls Tryz.prog cfp (.int .i64 xc :: csp).toArray wc fun e w' => ∃ v Qr, e = .returned v /\ wc.grownBy w' none /\ Rows wc.heap.size none w' Qr /\ News wc.heap.size Qr /\ ∃ b : Bool, v = .bool b /\ Qr = [] /\ Qc b) (hv : Zh l p Q) :
   Calls Tryz.prog 85 #[.slice Al nl kl, .func (.func cfp) #[] csp.toArray] w fun e w' => ∃ v Qr, e = .returned v /\ w.grownBy w' none /\ Rows w.heap.size none w' Qr /\ News w.heap.size Qr /\ ∃ (r0 : Int), v = .int .i64 r0 /\ Qr = [] /\ Q r0 := by
 have hnl := hl.ilen; subst hnl; refine Jk <| Jj (vs := [nS Al l kl, .func (.func cfp) #[] csp.toArray]) [4] XF85 rfl rfl rfl rfl ?_; have hS := Jr w; unfold Zh at hv; refine Jd 8 <| WL.len Js rfl rfl <| Jb 2 <| W.block ?_; obtain ⟨I14, μ15, hv, hk23⟩ := hv; refine JH (σ := Int) (fun z13 w1 => I14 z13 /\ St TT w none w1 []) (fun z13 => [(0, nS Al l kl), (1, .func (.func cfp) #[] csp.toArray), (4, nI 0), (7, nI (l.length : Int)), (8, nI z13)]) (fun z13 => μ15 z13) (0 : Int) ⟨hv, hS⟩ ⟨rfl, rfl, rfl, rfl, rfl, trivial⟩ ?_; rintro z13 w16 ⟨hv, hS⟩; have hv := hk23 z13 hv; refine Jd 5 <| Ji rfl (fun c17 => ?_) (fun c17 => ?_)
 .have hv := hv.1 (oT c17); refine Jl <| JB <| W.block <| Jd 10 ?_; obtain ⟨o18, hv⟩ := hv; refine Jo Js XE3 (hS.ro hl) rfl rfl o18 rfl <| Jn XU3 rfl rfl (JT (hS.ro hl) o18) rfl <| Jy3 (vs := [nI (gi l z13)]) (cs := csp) hS (hclp _ _ _ hS.ext hv) rfl hcfp hcbp hcnp rfl rfl ?_; rintro _ _ w19 ⟨b20, rfl, rfl, hv⟩ hGw19 hS
  change St _ _ _ _ [] at hS
  refine Ja <| Ji rfl (fun c21 => ?_) (fun c21 => ?_)
  .have hv := hv.1 (c21); refine Jd 5 <| W.ret <| ⟨_, rfl, Fin.nil ?_⟩
   exact (hS.pick [] rfl).fin rfl ⟨z13, rfl, rfl, hv⟩
  have hv := hv.2 (c21); refine Jl <| Jw ?_; obtain ⟨o22, hv⟩ := hv; refine WL.add (r := (z13 + (1 : Int))) rfl rfl (wr o22) rfl <| Jb 2 ?_; exact ⟨(z13 + (1 : Int)), ⟨rfl, rfl, rfl, rfl, rfl, trivial⟩, hv.2, rfl, hv.1, hS⟩
 have hv := hv.2 (oF c17); refine JG <| Jd 4 <| W.ret <| ⟨_, rfl, Fin.nil ?_⟩
 exact (hS.pick [] rfl).fin rfl ⟨(-1 : Int), rfl, rfl, hv⟩
def Q4 (l : List Int) (p : Int -> (Bool -> Prop) -> Prop) (Q : Bool -> Prop) : Prop :=
  Zh l p (fun r12 => Q (decide ((0 : Int) <= r12)))
theorem ZE {w : World} {Q : Bool -> Prop} {l : List Int} {p : Int -> (Bool -> Prop) -> Prop} {Bl : Nat} {Al : Option Addr} {nl kl : Nat} (hl : Rd Bl w 1 Al nl kl (is l)) {cfp : Nat} {cgp : Func} {ccp : Code} {csp : List Value} (hcfp : Tryz.prog.funcs[cfp]? = some cgp) (hcbp : cgp.body = some ccp) (hcnp : (cgp.name == "runtime.NumGoroutine") = false) (hclp : ∀ (wc : World) (xc : Int) (Qc : Bool -> Prop), w.grownBy wc none -> p xc Qc -> Calls Tryz.prog cfp (.int .i64 xc :: csp).toArray wc fun e w' => ∃ v Qr, e = .returned v /\ wc.grownBy w' none /\ Rows wc.heap.size none w' Qr /\ News wc.heap.size Qr /\ ∃ b : Bool, v = .bool b /\ Qr = [] /\ Qc b) (hv : Q4 l p Q) :
  Calls Tryz.prog 78 #[.slice Al nl kl, .func (.func cfp) #[] csp.toArray] w fun e w' => ∃ v Qr, e = .returned v /\ w.grownBy w' none /\ Rows w.heap.size none w' Qr /\ News w.heap.size Qr /\ ∃ (r0 : Bool), v = .bool r0 /\ Qr = [] /\ Q r0 := by
 have hnl := hl.ilen; subst hnl; refine Jk <| Jj (vs := [nS Al l kl, .func (.func cfp) #[] csp.toArray]) [4] XF78 rfl rfl rfl rfl ?_; have hS := Jr w; unfold Q4 at hv; refine Jd 8 <| SL.call hS (Jgm (hS.ro hl) hcfp hcbp hcnp (fun wc xc Qc hg hv => hclp wc xc Qc (Jb3 hS.ext hg) hv) hv) XF85 rfl XN85 rfl rfl ?_; rintro _ _ w11 ⟨r12, rfl, rfl, hv⟩ hGw11 hS; have hS := hS.n0; refine Jb 3 <| W.ret <| ⟨_, rfl, Fin.nil ?_⟩
 exact (hS.pick [] rfl).fin rfl ⟨(decide ((0 : Int) <= r12)), rfl, rfl, hv⟩
def Jaa (p : Int) (l : List Int) (o : List Int) (Q : Bool -> Prop) : Prop :=
  Zj o (fun x12 => (I64 ((x12.length : Int) - (1 : Int))) /\ (∃ (I23 : List Int -> Int -> Prop) (μ24 : List Int -> Int -> Nat), I23 x12 ((x12.length : Int) - (1 : Int)) /\ ∀ (x21 : List Int) (z22 : Int), (I23 x21 z22 -> ((((l.length : Int) <= z22) -> (∃ (I33 : List Int -> Int -> Prop) (μ34 : List Int -> Int -> Nat), I33 x21 (0 : Int) /\ ∀ (x31 : List Int) (z32 : Int), (I33 x31 z32 -> (((z32 < (l.length : Int)) -> ((0 <= z32 /\ z32 < (l.length : Nat)) /\ ((I64 (z22 - (l.length : Int))) /\ ((I64 ((z22 - (l.length : Int)) + z32)) /\ ((0 <= ((z22 - (l.length : Int)) + z32) /\ ((z22 - (l.length : Int)) + z32) < (x12.length : Nat)) /\ ((I64 (p - (gi l z32))) /\ ((0 <= z22 /\ z22 < (x12.length : Nat)) /\ ((I64 ((p - (gi l z32)) * (gi x31 z22))) /\ ((I64 ((gi x31 ((z22 - (l.length : Int)) + z32)) + ((p - (gi l z32)) * (gi x31 z22)))) /\ ((p ≠ 0) /\ ((0 <= ((z22 - (l.length : Int)) + z32) /\ ((z22 - (l.length : Int)) + z32) < (x12.length : Nat)) /\ ((I64 (z32 + (1 : Int))) /\ (I33 (si x31 ((z22 - (l.length : Int)) + z32) (((gi x31 ((z22 - (l.length : Int)) + z32)) + ((p - (gi l z32)) * (gi x31 z22))).tmod p)) (z32 + (1 : Int)) /\ μ34 (si x31 ((z22 - (l.length : Int)) + z32) (((gi x31 ((z22 - (l.length : Int)) + z32)) + ((p - (gi l z32)) * (gi x31 z22))).tmod p)) (z32 + (1 : Int)) < μ34 x31 z32))))))))))))) /\ (¬ (z32 < (l.length : Int)) -> ((I64 (z22 - (1 : Int))) /\ (I23 x31 (z22 - (1 : Int)) /\ μ24 x31 (z22 - (1 : Int)) < μ24 x21 z22))))))) /\ (¬ ((l.length : Int) <= z22) -> ((0 <= (l.length : Int) /\ (l.length : Int) <= (x12.length : Nat)) /\ (Q4 (x21.take (l.length : Int).toNat) (fun xc Qc => Jc6 xc  Qc) (fun r71 => Q (!r71)))))))))
theorem Jno {w : World} {Q : Bool -> Prop} {p : Int} {l : List Int} {o : List Int} {Bl : Nat} {Al : Option Addr} {nl kl : Nat} (hl : Rd Bl w 1 Al nl kl (is l)) {Bo : Nat} {Ao : Option Addr} {no ko : Nat} (ho : Rd Bo w 1 Ao no ko (is o)) (hv : Jaa p l o Q) :
   Calls Tryz.prog 137 #[.int .i64 p, .slice Al nl kl, .slice Ao no ko] w fun e w' => ∃ v Qr, e = .returned v /\ w.grownBy w' none /\ Rows w.heap.size none w' Qr /\ News w.heap.size Qr /\ ∃ (r0 : Bool), v = .bool r0 /\ Qr = [] /\ Q r0 := by
 have hnl := hl.ilen; subst hnl; have hno := ho.ilen; subst hno; refine Jk <| Jj (vs := [nI p, nS Al l kl, nS Ao o ko]) [6] XF137 rfl rfl rfl rfl ?_; have hS := Jr w; unfold Jaa at hv; refine Jd 7 <| SL.call hS (Z1 (hS.ro ho) hv) Jol rfl Jtl rfl rfl ?_; rintro _ _ w11 ⟨x12, A13, k14, rfl, rfl, hv⟩ hGw11 hS; have hS := hS.n1; refine Jb 2 <| Jd 4 <| WL.len Js rfl rfl ?_; obtain ⟨o16, hv⟩ := hv; refine WL.sub (r := ((x12.length : Int) - (1 : Int))) rfl rfl (wr o16) rfl <| Jb 2 <| W.block ?_; obtain ⟨I23, μ24, hv, hk72⟩ := hv; refine JH (σ := List Int × Int) (fun q w1 => match q with | (x21, z22) => I23 x21 z22 /\ St TT w none w1 [.row 3 1 A13 x12.length k14 (is x21)]) (fun q => match q with | (x21, z22) => [(0, nI p), (1, nS Al l kl), (6, .bool false), (7, nS A13 x12 k14), (8, nI z22)]) (fun q => match q with | (x21, z22) => μ24 x21 z22) (x12, ((x12.length : Int) - (1 : Int))) ⟨hv, hS⟩ ⟨rfl, rfl, rfl, rfl, rfl, trivial⟩ ?_; rintro ⟨x21, z22⟩ w25 ⟨hv, hS⟩; have hv := hk72 x21 z22 hv; refine Jd 5 <| WL.len Js rfl rfl <| Jb 2 <| Ji rfl (fun c26 => ?_) (fun c26 => ?_)
 .have hv := hv.1 (oT c26); refine Jl <| JB <| W.block <| Jd 3 <| WL.len Js rfl rfl <| Jb 2 <| W.block ?_; obtain ⟨I33, μ34, hv, hk68⟩ := hv; refine JH (σ := List Int × Int) (fun q w1 => match q with | (x31, z32) => I33 x31 z32 /\ St TT w none w1 [.row 3 1 A13 x12.length k14 (is x31)]) (fun q => match q with | (x31, z32) => [(0, nI p), (1, nS Al l kl), (6, .bool false), (7, nS A13 x12 k14), (8, nI z22), (20, .bool (decide ((l.length : Int) <= z22))), (23, nS Al l kl), (24, nI (l.length : Int)), (25, nI z32)]) (fun q => match q with | (x31, z32) => μ34 x31 z32) (x21, (0 : Int)) ⟨hv, hS⟩ ⟨rfl, rfl, rfl, rfl, rfl, rfl, rfl, rfl, rfl, trivial⟩ ?_; rintro ⟨x31, z32⟩ w35 ⟨hv, hS⟩; have hv := hk68 x31 z32 hv; refine Jd 5 <| Ji rfl (fun c36 => ?_) (fun c36 => ?_)
  .have hv := hv.1 (oT c36); refine Jl <| JB <| W.block <| Jd 3 ?_; obtain ⟨o37, hv⟩ := hv; refine Jo Js XE3 (hS.ro hl) rfl rfl o37 rfl <| Jn XU3 rfl rfl (JT (hS.ro hl) o37) rfl <| Jb 3 <| Jd 4 <| WL.len Js rfl rfl ?_; obtain ⟨o38, hv⟩ := hv; refine WL.sub (r := (z22 - (l.length : Int))) rfl rfl (wr o38) rfl <| Jm rfl rfl ?_; obtain ⟨o39, hv⟩ := hv; refine WL.add (r := ((z22 - (l.length : Int)) + z32)) rfl rfl (wr o39) rfl <| Jb 2 ?_; obtain ⟨o45, hv⟩ := hv; obtain ⟨o50, hv⟩ := hv; obtain ⟨o54, hv⟩ := hv; obtain ⟨o57, hv⟩ := hv; obtain ⟨o59, hv⟩ := hv; obtain ⟨o62, hv⟩ := hv; refine Qa 17 [⟨[], [7], true⟩, ⟨[], [11], true⟩, ⟨[], [7], true⟩, ⟨[], [11], true⟩, ⟨[2, 3], [], true⟩, ⟨[4], [], false⟩, ⟨[], [0], true⟩, ⟨[], [10], true⟩, ⟨[6, 7], [], true⟩, ⟨[], [7], true⟩, ⟨[], [8], true⟩, ⟨[9, 10], [], true⟩, ⟨[11], [], false⟩, ⟨[8, 12], [], true⟩, ⟨[5, 13], [], true⟩, ⟨[], [0], true⟩, ⟨[14, 15], [], true⟩] [(36, nS A13 x12 k14), (37, nI ((z22 - (l.length : Int)) + z32)), (38, nS A13 x12 k14), (39, nI ((z22 - (l.length : Int)) + z32)), (40, .pointer (some ((JW A13).add (((z22 - (l.length : Int)) + z32).toNat)))), (41, nI (gi x31 ((z22 - (l.length : Int)) + z32))), (42, nI p), (43, nI (gi l z32)), (44, nI (p - (gi l z32))), (45, nS A13 x12 k14), (46, nI z22), (47, .pointer (some ((JW A13).add z22.toNat))), (48, nI (gi x31 z22)), (49, nI ((p - (gi l z32)) * (gi x31 z22))), (50, nI ((gi x31 ((z22 - (l.length : Int)) + z32)) + ((p - (gi l z32)) * (gi x31 z22)))), (51, nI p), (52, nI (((gi x31 ((z22 - (l.length : Int)) + z32)) + ((p - (gi l z32)) * (gi x31 z22))).tmod p))] Jz (by kernel_rfl) rfl rfl ?_ ?_
   .refine ⟨oA fun _ => rfl, oA fun _ => rfl, oA fun _ => rfl, oA fun _ => rfl, fun _ _ _ => Jo Js XE3 (hS.rd (i := 0) rfl) rfl rfl o45 rfl <| Ja ⟨rfl, rfl⟩, fun _ hE _ => have hS := hS.grow (hE rfl); Jn XU3 rfl rfl (JT (hS.rd (i := 0) rfl) o45) rfl <| Ja ⟨rfl, Jg _⟩, oA fun _ => rfl, oA fun _ => rfl, fun _ _ _ => WL.sub (r := (p - (gi l z32))) rfl rfl (wr o50) rfl <| Ja ⟨rfl, rfl⟩, oA fun _ => rfl, oA fun _ => rfl, fun _ _ _ => Jo Js XE3 (hS.rd (i := 0) rfl) rfl rfl o54 rfl <| Ja ⟨rfl, rfl⟩, fun _ hE _ => have hS := hS.grow (hE rfl); Jn XU3 rfl rfl (JT (hS.rd (i := 0) rfl) o54) rfl <| Ja ⟨rfl, Jg _⟩, fun _ _ _ => WL.mul (r := ((p - (gi l z32)) * (gi x31 z22))) rfl rfl (wr o57) rfl <| Ja ⟨rfl, rfl⟩, fun _ _ _ => WL.add (r := ((gi x31 ((z22 - (l.length : Int)) + z32)) + ((p - (gi l z32)) * (gi x31 z22)))) rfl rfl (wr o59) rfl <| Ja ⟨rfl, rfl⟩, oA fun _ => rfl, fun _ _ _ => ZU (r := (((gi x31 ((z22 - (l.length : Int)) + z32)) + ((p - (gi l z32)) * (gi x31 z22))).tmod p)) rfl rfl o62 rfl rfl <| Ja ⟨rfl, rfl⟩, trivial⟩
   intro w63 hT; have hS := hS.grow hT; refine Jf 17 (by decide +kernel) rfl ?_; obtain ⟨o64, hv⟩ := hv; refine Jo Js XE3 (hS.rd (i := 0) rfl) rfl rfl o64 rfl <| Ja <| Jf 18 (by decide +kernel) rfl <| JJ (cs' := is (si x31 ((z22 - (l.length : Int)) + z32) (((gi x31 ((z22 - (l.length : Int)) + z32)) + ((p - (gi l z32)) * (gi x31 z22))).tmod p))) 0 ((z22 - (l.length : Int)) + z32).toNat hS rfl XE3 rfl rfl rfl (Ym (hS.rd (i := 0) rfl) o64) (QG _ _ _) ?_; intro w65 hS; refine Ja <| Jv (by decide +kernel) <| Jw ?_; obtain ⟨o66, hv⟩ := hv; refine WL.add (r := (z32 + (1 : Int))) rfl rfl (wr o66) rfl <| Jb 2 ?_; exact ⟨(si x31 ((z22 - (l.length : Int)) + z32) (((gi x31 ((z22 - (l.length : Int)) + z32)) + ((p - (gi l z32)) * (gi x31 z22))).tmod p), (z32 + (1 : Int))), ⟨rfl, rfl, rfl, rfl, rfl, rfl, rfl, rfl, rfl, trivial⟩, hv.2, rfl, hv.1, hS⟩
  have hv := hv.2 (oF c36); refine JG <| Jd 2 ?_; obtain ⟨o67, hv⟩ := hv; refine WL.sub (r := (z22 - (1 : Int))) rfl rfl (wr o67) rfl <| Jb 2 ?_; exact ⟨(x31, (z22 - (1 : Int))), ⟨rfl, rfl, rfl, rfl, rfl, trivial⟩, hv.2, rfl, hv.1, hS⟩
 have hv := hv.2 (oF c26); refine JG <| Jd 4 <| WL.len Js rfl rfl ?_; obtain ⟨o69, hv⟩ := hv; refine Jfu Js XE3 (hS.rd (i := 0) rfl) rfl rfl o69 rfl (x21.take (l.length : Int).toNat).length (Jqs (hS.rd (i := 0) rfl) o69) <| SL.call hS (ZE (Rd.pre (hS.rd (i := 0) rfl) o69) XF143 rfl XN143 (fun wc xc Qc hg hv => Jlg  hv) hv) XF78 rfl XN78 rfl rfl ?_; rintro _ _ w70 ⟨r71, rfl, rfl, hv⟩ hGw70 hS; have hS := hS.n0; refine Jb 3 <| W.ret <| ⟨_, rfl, Fin.nil ?_⟩
 exact (hS.pick [] rfl).fin rfl ⟨(!r71), rfl, rfl, hv⟩
def Yh (Pf : Int) (Mf : Int) (mf : List Int) (Q : Bool -> Prop) : Prop :=
  Zj mf (fun x14 => (((x14.length : Nat) + (1 : Nat) : Int) * 8 <= 140737488355328) /\ (∃ (I36 : Int -> Int -> Prop) (μ37 : Int -> Int -> Nat), I36 (1 : Int) Pf /\ ∀ (z34 : Int) (z35 : Int), (I36 z34 z35 -> ((I64 ((2 : Int) * z34)) /\ (((((2 : Int) * z34) <= Mf) -> (∃ (I44 : Int -> Prop) (μ45 : Int -> Nat), I44 (0 : Int) /\ ∀ (z43 : Int), (I44 z43 -> (((z43 < z35) -> (∃ (x55 : List Int), Jab Pf z34 z43 (fun q => q = x55) /\ (∃ (r65 : Bool), Jaa Pf x55 (x14 ++ ([(1 : Int)] : List Int)) (fun q => q = r65) /\ (((r65 = true) -> Q false) /\ (r65 = false -> ((I64 (z43 + (1 : Int))) /\ (I44 (z43 + (1 : Int)) /\ μ45 (z43 + (1 : Int)) < μ45 z43))))))) /\ (¬ (z43 < z35) -> ((I64 (z34 + (1 : Int))) /\ ((I64 (z35 * Pf)) /\ (I36 (z34 + (1 : Int)) (z35 * Pf) /\ μ37 (z34 + (1 : Int)) (z35 * Pf) < μ37 z34 z35)))))))) /\ (¬ (((2 : Int) * z34) <= Mf) -> Q true))))))
theorem Jeh {w : World} {Q : Bool -> Prop} {Pf : Int} {Mf : Int} {mf : List Int} {Bf : Nat} {Af : Option Addr} {nf kf : Nat} (hf : Rd Bf w 1 Af nf kf (is mf)) (hv : Yh Pf Mf mf Q) :
   Calls Tryz.prog 131 #[.agg #[.int .i64 Pf, .int .i64 Mf, .slice Af nf kf]] w fun e w' => ∃ v Qr, e = .returned v /\ w.grownBy w' none /\ Rows w.heap.size none w' Qr /\ News w.heap.size Qr /\ ∃ (r0 : Bool), v = .bool r0 /\ Qr = [] /\ Q r0 := by
 have hnf := hf.ilen; subst hnf; refine Jk <| Jj (vs := [.agg #[nI Pf, nI Mf, nS Af mf kf]]) [2] XF131 rfl rfl rfl rfl ?_; have hS := Jr w; unfold Yh at hv; refine Jd 2 <| JC (z := 3) (cs := [nI Pf, nI Mf, nS Af mf kf]) hS rfl rfl rfl rfl ?_; intro g11 w12 hS; refine Jb 2 <| Jd 2 <| Je (off := 2) YM rfl rfl <| Jp 0 2 Js hS rfl rfl rfl ⟨rfl, rfl⟩ <| SL.call hS (Z1 (hS.ro hf) hv) Jol rfl Jtl rfl rfl ?_; rintro _ _ w13 ⟨x14, A15, k16, rfl, rfl, hv⟩ hGw13 hS; have hS := hS.n1; refine J3 (vs := is ([(1 : Int)] : List Int)) hS Js XE3 rfl rfl rfl rfl (Qd _) rfl ?_; intro A18 w19 hS; obtain ⟨o21, hv⟩ := hv; refine SL.append (cs := is x14) (cs' := is ([(1 : Int)] : List Int)) 1 ((x14 ++ ([(1 : Int)] : List Int)).length) (is (x14 ++ ([(1 : Int)] : List Int))) hS rfl Js XE3 (hS.rd (i := 0) rfl) (Qd _) rfl rfl (apk o21).1 (apk o21).2 (Jbj (hS.rd (i := 1) rfl) (hS.rd (i := 0) rfl)) (Qx _ _) rfl ?_; intro A22 k23 w24 hS; refine Jb 2 <| Jd 2 <| Qa 4 [⟨[], [1], true⟩, ⟨[0], [], false⟩, ⟨[], [], true⟩, ⟨[1], [], true⟩] [(12, nP g11), (13, nI Pf), (4, nI 1), (5, nI Pf)] Jz (by kernel_rfl) rfl rfl ?_ ?_
 . refine ⟨fun _ _ _ => Je (off := 0) Qt rfl rfl <| Ja ⟨rfl, rfl⟩, fun _ hE _ => have hS := hS.grow (hE rfl); Jp 2 0 XU3 hS rfl rfl rfl ⟨rfl, rfl⟩ <| Ja ⟨rfl, Jg _⟩, oA fun _ => rfl, oA fun _ => rfl, trivial⟩
 intro w29 hT; have hS := hS.grow hT; refine Jv (by decide +kernel) <| W.block ?_; obtain ⟨I36, μ37, hv, hk83⟩ := hv; refine JH (σ := Int × Int) (fun q w1 => match q with | (z34, z35) => I36 z34 z35 /\ St TT w none w1 [.row 3 1 A18 1 1 (is ([(1 : Int)] : List Int)), .row 3 1 A22 ((x14 ++ ([(1 : Int)] : List Int)).length) k23 (is (x14 ++ ([(1 : Int)] : List Int))), .row 24 3 (nA g11) 1 1 [nI Pf, nI Mf, nS Af mf kf]]) (fun q => match q with | (z34, z35) => [(1, nP g11), (2, .bool false), (3, .slice A22 ((x14 ++ ([(1 : Int)] : List Int)).length) k23), (4, nI z34), (5, nI z35)]) (fun q => match q with | (z34, z35) => μ37 z34 z35) ((1 : Int), Pf) ⟨hv, hS⟩ ⟨rfl, rfl, rfl, rfl, rfl, trivial⟩ ?_; rintro ⟨z34, z35⟩ w38 ⟨hv, hS⟩; have hv := hk83 z34 z35 hv; refine Jd 4 ?_; obtain ⟨o39, hv⟩ := hv; refine WL.mul (r := ((2 : Int) * z34)) rfl rfl (wr o39) rfl <| Je (off := 1) Q8 rfl rfl <| Jp 2 1 XU3 hS rfl rfl rfl ⟨rfl, rfl⟩ <| Jb 2 <| Ji rfl (fun c40 => ?_) (fun c40 => ?_)
 .have hv := hv.1 (oT c40); refine Jl <| JB <| W.block <| Jd 5 <| W.block ?_; obtain ⟨I44, μ45, hv, hk82⟩ := hv; refine JH (σ := Int) (fun z43 w1 => I44 z43 /\ St TT w none w1 [.row 3 1 A18 1 1 (is ([(1 : Int)] : List Int)), .row 3 1 A22 ((x14 ++ ([(1 : Int)] : List Int)).length) k23 (is (x14 ++ ([(1 : Int)] : List Int))), .row 24 3 (nA g11) 1 1 [nI Pf, nI Mf, nS Af mf kf]]) (fun z43 => [(1, nP g11), (2, .bool false), (3, .slice A22 ((x14 ++ ([(1 : Int)] : List Int)).length) k23), (4, nI z34), (5, nI z35), (18, .bool (decide (((2 : Int) * z34) <= Mf))), (25, nI z35), (26, nI z43)]) (fun z43 => μ45 z43) (0 : Int) ⟨hv, hS⟩ ⟨rfl, rfl, rfl, rfl, rfl, rfl, rfl, rfl, trivial⟩ ?_; rintro z43 w46 ⟨hv, hS⟩; have hv := hk82 z43 hv; refine Jd 5 <| Ji rfl (fun c47 => ?_) (fun c47 => ?_)
  .have hv := hv.1 (oT c47); refine Jl <| JB <| W.block <| Jd 6 ?_; obtain ⟨x55, o62, hv⟩ := hv; obtain ⟨r65, o67, hv⟩ := hv; have hS0 := hS; refine QC 9 (fun iA => [false, false, false, false, false, false, true, false, false].getD iA false) (fun _ => none) (fun _ v u => u = v) [⟨[], [1], true⟩, ⟨[0], [], false⟩, ⟨[], [1], true⟩, ⟨[2], [], false⟩, ⟨[], [4], true⟩, ⟨[], [6], true⟩, ⟨[3, 4, 5], [], false⟩, ⟨[], [3], true⟩, ⟨[1, 6, 7], [], false⟩] [.k 29 (nP g11), .k 30 (nI Pf), .k 31 (nP g11), .k 32 (nI Pf), .k 33 (nI z34), .k 34 (nI z43), eS w46 35 3 x55.length (is x55), .k 36 (.slice A22 ((x14 ++ ([(1 : Int)] : List Int)).length) k23), .k 37 (.bool r65)] (fun _ => vbD) Jz (by kernel_rfl) rfl rfl (fun _ _ _ _ _ _ _ h => h) ?_ ?_
   . refine ⟨fun _ _ _ => Je (off := 0) Qt rfl rfl <| Ja ⟨rfl, rfl⟩, fun _ hE _ => have hS := hS.grow (hE rfl); Jp 2 0 XU3 hS rfl rfl rfl ⟨rfl, rfl⟩ <| Ja ⟨rfl, Jg _⟩, fun _ _ _ => Je (off := 0) Qt rfl rfl <| Ja ⟨rfl, rfl⟩, fun _ hE _ => have hS := hS.grow (hE rfl); Jp 2 0 XU3 hS rfl rfl rfl ⟨rfl, rfl⟩ <| Ja ⟨rfl, Jg _⟩, oB (fun _ => rfl) rfl, oB (fun _ => rfl) rfl, ?_, oB (fun _ => rfl) rfl, ?_, trivial⟩
     .intro w54 hE; have hE := hE rfl; have hS := hS.grow hE; intro RR; refine WL.call Jrp rfl Jye rfl rfl (JQ (Jei  o62)) ?_; rintro _ w59 ⟨_, hGw59, hRww59, hNww59, x55q, A56, k57, rfl, rfl, he⟩; subst he; have hO60 := (hRww59.get (i := 0) rfl).1; have hN61 : ∀ g, bl A56 = some g -> _ <= g := fun g hg => Nat.le_trans hE.size (hNww59.1 g hg); exact Ja ⟨_, rfl, hGw59, ⟨A56, k57, rfl, hO60, hN61⟩, (fun _ => fun g hg => ⟨hNww59.1 g hg, (hO60.bl_ge g hg).2⟩), (fun j h => by cases h)⟩
     intro w64 hE; have hS := hS.grow (hE rfl); rintro _ ⟨A56_6, k57_6, rfl, hO60_6, hN61_6⟩; intro RR; refine WL.call XF137 rfl XN137 rfl rfl (JQ (Jno hO60_6.rd (hS.rd (i := 1) rfl) o67)) ?_; rintro _ w66 ⟨_, hGw66, hRww66, hNww66, r65q, rfl, rfl, he⟩; subst he; exact Ja ⟨rfl, hGw66⟩
   intro vals w68 hT hVs hAp hCp; have hS := hS.grow hT; obtain ⟨A56_6, k57_6, hv6, hO60_6, hN61_6⟩ := hVs 6 (by decide); refine QV [(6, nS A56_6 x55 k57_6)] ⟨hv6, trivial⟩ <| Jv (by decide +kernel) <| Ji rfl (fun c69 => ?_) (fun c69 => ?_)
   .have hv := hv.1 (c69); refine Jd 4 <| W.ret <| ⟨_, rfl, Fin.nil ?_⟩
    exact (hS.pick [] rfl).fin rfl ⟨false, rfl, rfl, hv⟩
   have hv := hv.2 (c69); refine Jl <| Jw ?_; obtain ⟨o70, hv⟩ := hv; refine WL.add (r := (z43 + (1 : Int))) rfl rfl (wr o70) rfl <| Jb 2 ?_; exact ⟨(z43 + (1 : Int)), ⟨rfl, rfl, rfl, rfl, rfl, rfl, rfl, rfl, trivial⟩, hv.2, rfl, hv.1, hS⟩
  have hv := hv.2 (oF c47); refine JG ?_; obtain ⟨o73, hv⟩ := hv; obtain ⟨o78, hv⟩ := hv; refine Qa 8 [⟨[], [4], true⟩, ⟨[0], [], true⟩, ⟨[], [5], true⟩, ⟨[], [1], true⟩, ⟨[3], [], false⟩, ⟨[2, 4], [], true⟩, ⟨[1], [], true⟩, ⟨[5], [], true⟩] [(19, nI z34), (20, nI (z34 + (1 : Int))), (21, nI z35), (22, nP g11), (23, nI Pf), (24, nI (z35 * Pf)), (4, nI (z34 + (1 : Int))), (5, nI (z35 * Pf))] Jz (by kernel_rfl) rfl rfl ?_ ?_
  . refine ⟨oA fun _ => rfl, fun _ _ _ => WL.add (r := (z34 + (1 : Int))) rfl rfl (wr o73) rfl <| Ja ⟨rfl, rfl⟩, oA fun _ => rfl, fun _ _ _ => Je (off := 0) Qt rfl rfl <| Ja ⟨rfl, rfl⟩, fun _ hE _ => have hS := hS.grow (hE rfl); Jp 2 0 XU3 hS rfl rfl rfl ⟨rfl, rfl⟩ <| Ja ⟨rfl, Jg _⟩, fun _ _ _ => WL.mul (r := (z35 * Pf)) rfl rfl (wr o78) rfl <| Ja ⟨rfl, rfl⟩, oA fun _ => rfl, oA fun _ => rfl, trivial⟩
  intro w81 hT; have hS := hS.grow hT; refine Jv (by decide +kernel) ?_; exact ⟨((z34 + (1 : Int)), (z35 * Pf)), ⟨rfl, rfl, rfl, rfl, rfl, trivial⟩, hv.2, rfl, hv.1, hS⟩
 have hv := hv.2 (oF c40); refine JG <| Jd 4 <| W.ret <| ⟨_, rfl, Fin.nil ?_⟩
 exact (hS.pick [] rfl).fin rfl ⟨true, rfl, rfl, hv⟩
def Jft (Pf : Int) (Mf : Int) (mf : List Int) (Q : Int -> Prop) : Prop :=
  (((256 : Int) < Pf) -> (Q (1 : Int))) /\ (¬ ((256 : Int) < Pf) -> (Jcf Pf (fun r15 => (((!r15) = true) -> (Q (1 : Int))) /\ ((!r15) = false -> (((Mf < (1 : Int)) -> (Q (1 : Int))) /\ (¬ (Mf < (1 : Int)) -> (Ja4 Pf Mf mf (fun r19 => (((256 : Int) < r19) -> (Q (1 : Int))) /\ (¬ ((256 : Int) < r19) -> (((Mf = (1 : Int)) -> (Jhj (decide ((mf.length : Int) = (0 : Int))) (fun r23 => Q r23))) /\ (¬ (Mf = (1 : Int)) -> ((((mf.length : Int) ≠ Mf) -> (Q (1 : Int))) /\ (¬ ((mf.length : Int) ≠ Mf) -> (Q4 mf (fun xc Qc => Jhk xc Pf Mf mf Qc) (fun r26 => ((r26 = true) -> (Q (1 : Int))) /\ (r26 = false -> (Yh Pf Mf mf (fun r29 => Jhj r29 (fun r31 => Q r31)))))))))))))))))))
theorem Jw1 {w : World} {Q : Int -> Prop} {Pf : Int} {Mf : Int} {mf : List Int} {Bf : Nat} {Af : Option Addr} {nf kf : Nat} (hf : Rd Bf w 1 Af nf kf (is mf)) (hv : Jft Pf Mf mf Q) :
   Calls Tryz.prog 110 #[.agg #[.int .i64 Pf, .int .i64 Mf, .slice Af nf kf]] w fun e w' => ∃ v Qr, e = .returned v /\ w.grownBy w' none /\ Rows w.heap.size none w' Qr /\ News w.heap.size Qr /\ ∃ (r0 : Int), v = .int .i64 r0 /\ Qr = [] /\ Q r0 := by
 have hnf := hf.ilen; subst hnf; refine Jk <| Jj (vs := [.agg #[nI Pf, nI Mf, nS Af mf kf]]) [2] XF110 rfl rfl rfl rfl ?_; have hS := Jr w; unfold Jft at hv; refine Jd 2 <| JC (z := 3) (cs := [nI Pf, nI Mf, nS Af mf kf]) hS rfl rfl rfl rfl ?_; intro g11 w12 hS; refine Jb 2 <| Jd 3 <| Je (off := 0) Qt rfl rfl <| Jp 0 0 XU3 hS rfl rfl rfl ⟨rfl, rfl⟩ <| Jfo rfl rfl rfl <| Jm rfl rfl ?_; by_cases g13 : (256 : Int) < Pf
 .have hv := hv.1 g13; rw [decide_eq_true g13]; refine Jb 16 <| JZ rfl <| Jd 4 <| W.ret <| ⟨_, rfl, Fin.nil ?_⟩
  exact (hS.pick [] rfl).fin rfl ⟨(1 : Int), rfl, rfl, hv⟩
 have hv := hv.2 g13; rw [decide_eq_false g13]; refine WL.take rfl <| Je (off := 0) Qt rfl rfl <| WL.take rfl <| Jp 0 0 XU3 hS rfl rfl rfl ⟨rfl, rfl⟩ <| WL.take rfl <| SL.call hS (Jnn  hv) XF128 rfl XN128 rfl rfl ?_; rintro _ _ w14 ⟨r15, rfl, rfl, hv⟩ hGw14 hS; have hS := hS.n0; refine Jb 3 <| Jm rfl rfl ?_; rcases g16 : (!r15) with _ | _
 .have hv := hv.2 g16; refine WL.take rfl <| Je (off := 1) Q8 rfl rfl <| WL.take rfl <| Jp 0 1 XU3 hS rfl rfl rfl ⟨rfl, rfl⟩ <| Jb 3 <| Jm rfl rfl ?_; by_cases g17 : Mf < (1 : Int)
  .have hv := hv.1 g17; rw [decide_eq_true g17]; refine Jb 5 <| JZ rfl <| Jd 4 <| W.ret <| ⟨_, rfl, Fin.nil ?_⟩
   exact (hS.pick [] rfl).fin rfl ⟨(1 : Int), rfl, rfl, hv⟩
  have hv := hv.2 g17; rw [decide_eq_false g17]; refine WL.take rfl <| Jh (cs := [nI Pf, nI Mf, nS Af mf kf]) JY J2 rfl rfl (Jc (hS.own (i := 0) rfl)) rfl <| WL.take rfl <| SL.call hS (Jbg (hS.ro hf) hv) Jit rfl Jme rfl rfl ?_; rintro _ _ w18 ⟨r19, rfl, rfl, hv⟩ hGw18 hS; have hS := hS.n0; refine Jb 4 <| Ji rfl (fun c20 => ?_) (fun c20 => ?_)
  .have hv := hv.1 (oT c20); refine Jd 4 <| W.ret <| ⟨_, rfl, Fin.nil ?_⟩
   exact (hS.pick [] rfl).fin rfl ⟨(1 : Int), rfl, rfl, hv⟩
  have hv := hv.2 (oF c20); refine Jl <| Jd 3 <| Je (off := 1) Q8 rfl rfl <| Jp 0 1 XU3 hS rfl rfl rfl ⟨rfl, rfl⟩ <| Jb 2 <| Ji rfl (fun c21 => ?_) (fun c21 => ?_)
  .have hv := hv.1 (oT c21); refine Jd 2 <| Je (off := 2) YM rfl rfl <| Jp 0 2 Js hS rfl rfl rfl ⟨rfl, rfl⟩ <| WL.len Js rfl rfl <| Jca rfl rfl rfl <| SL.call hS (Jqx  hv) Jyn rfl XN129 rfl rfl ?_; rintro _ _ w22 ⟨r23, rfl, rfl, hv⟩ hGw22 hS; have hS := hS.n0; refine Jb 2 <| W.ret <| ⟨_, rfl, Fin.nil ?_⟩
   exact (hS.pick [] rfl).fin rfl ⟨r23, rfl, rfl, hv⟩
  have hv := hv.2 (oF c21); refine Jl <| Jd 3 <| Je (off := 2) YM rfl rfl <| Jp 0 2 Js hS rfl rfl rfl ⟨rfl, rfl⟩ <| WL.len Js rfl rfl <| Je (off := 1) Q8 rfl rfl <| Jp 0 1 XU3 hS rfl rfl rfl ⟨rfl, rfl⟩ <| Ja0 rfl rfl rfl <| Jm rfl rfl ?_; by_cases g24 : (mf.length : Int) ≠ Mf
  .have hv := hv.1 g24; rw [decide_eq_true g24]; refine Jb 6 <| JZ rfl <| Jd 4 <| W.ret <| ⟨_, rfl, Fin.nil ?_⟩
   exact (hS.pick [] rfl).fin rfl ⟨(1 : Int), rfl, rfl, hv⟩
  have hv := hv.2 g24; rw [decide_eq_false g24]; refine WL.take rfl <| Je (off := 2) YM rfl rfl <| WL.take rfl <| Jp 0 2 Js hS rfl rfl rfl ⟨rfl, rfl⟩ <| WL.take rfl <| QI (vs := [nP g11]) rfl rfl <| WL.take rfl <| SL.call hS (ZE (hS.ro hf) XF130 rfl XN130 (fun wc xc Qc hg hv => Jso ((hS.rd (i := 0) rfl).ext hg) ((hS.ro hf).ext hg) hv) hv) XF78 rfl XN78 rfl rfl ?_; rintro _ _ w25 ⟨r26, rfl, rfl, hv⟩ hGw25 hS; have hS := hS.n0; refine Jb 2 <| Ji rfl (fun c27 => ?_) (fun c27 => ?_)
  .have hv := hv.1 (c27); refine Jd 4 <| W.ret <| ⟨_, rfl, Fin.nil ?_⟩
   exact (hS.pick [] rfl).fin rfl ⟨(1 : Int), rfl, rfl, hv⟩
  have hv := hv.2 (c27); refine Jl <| Jd 2 <| Jh (cs := [nI Pf, nI Mf, nS Af mf kf]) JY J2 rfl rfl (Jc (hS.own (i := 0) rfl)) rfl <| SL.call hS (Jeh (hS.ro hf) hv) XF131 rfl XN131 rfl rfl ?_; rintro _ _ w28 ⟨r29, rfl, rfl, hv⟩ hGw28 hS; have hS := hS.n0; refine SL.call hS (Jqx  hv) Jyn rfl XN129 rfl rfl ?_; rintro _ _ w30 ⟨r31, rfl, rfl, hv⟩ hGw30 hS; have hS := hS.n0; refine Jb 2 <| W.ret <| ⟨_, rfl, Fin.nil ?_⟩
  exact (hS.pick [] rfl).fin rfl ⟨r31, rfl, rfl, hv⟩
 have hv := hv.1 g16; refine Jb 10 <| JZ rfl <| Jd 4 <| W.ret <| ⟨_, rfl, Fin.nil ?_⟩
 exact (hS.pick [] rfl).fin rfl ⟨(1 : Int), rfl, rfl, hv⟩
def Jc5 (Fg : GFv) (Q : Unit -> Prop) : Prop :=
  Q ()
theorem Jlf {w : World} {Q : Unit -> Prop} {Fg : GFv} {ag : Addr} {Bg : Nat} (hgg : GFR Bg w ag Fg) (hv : Jc5 Fg Q) :
  Calls Tryz.prog 132 #[.pointer (some ag)] w fun e w' => ∃ v Qr, e = .returned v /\ w.grownBy w' none /\ Rows w.heap.size none w' Qr /\ News w.heap.size Qr /\ ∃ g : Nat, v = .func (.func 139) #[] #[.pointer (some ⟨g, 0, none⟩)] /\ Qr = [.row 84 1 (some ⟨g, 0, none⟩) 1 1 [.pointer (some ag)]] /\ Q () := by
 have hgg_ := hgg; obtain ⟨Ag_mod, kg_mod, Ag_exp, kg_exp, Ag_log, kg_log, Ag_above, kg_above, hg_c, hg_mod, hg_exp, hg_log, hg_above⟩ := hgg_; refine Jk <| Jj (vs := [.pointer (some ag)]) [2] XF132 rfl rfl rfl rfl ?_; have hS := Jr w; unfold Jc5 at hv; refine Jd 2 <| JC (z := 1) (cs := [.pointer (some ag)]) hS rfl rfl rfl rfl ?_; intro g11 w12 hS; refine Jb 2 <| Jd 2 <| QI (vs := [nP g11]) rfl rfl <| Jb 2 <| W.ret <| ⟨_, rfl, Fin.nil ?_⟩
 exact (hS.pick [0] rfl).fin rfl ⟨g11, rfl, rfl, hv⟩
def Jc8 (l : List Int) (Q : Unit -> Prop) : Prop :=
  Q ()
theorem Jli {w : World} {Q : Unit -> Prop} {l : List Int} {Bl : Nat} {Al : Option Addr} {nl kl : Nat} (hl : Rd Bl w 1 Al nl kl (is l)) (hv : Jc8 l Q) :
  Calls Tryz.prog 145 #[.slice Al nl kl] w fun e w' => ∃ v Qr, e = .returned v /\ w.grownBy w' none /\ Rows w.heap.size none w' Qr /\ News w.heap.size Qr /\ ∃ g : Nat, v = .func (.func 146) #[] #[.pointer (some ⟨g, 0, none⟩)] /\ Qr = [.row 22 1 (some ⟨g, 0, none⟩) 1 1 [.slice Al nl kl]] /\ Q () := by
 have hnl := hl.ilen; subst hnl; refine Jk <| Jj (vs := [nS Al l kl]) [2] XF145 rfl rfl rfl rfl ?_; have hS := Jr w; unfold Jc8 at hv; refine Jd 2 <| JC (z := 1) (cs := [nS Al l kl]) hS rfl rfl rfl rfl ?_; intro g11 w12 hS; refine Jb 2 <| Jd 2 <| QI (vs := [nP g11]) rfl rfl <| Jb 2 <| W.ret <| ⟨_, rfl, Fin.nil ?_⟩
 exact (hS.pick [0] rfl).fin rfl ⟨g11, rfl, rfl, hv⟩
def Zi (p : Int) (l : List Int) (Q : Int -> Prop) : Prop :=
  Jc8 l (fun _ => ∃ (I22 : Nat -> Int -> Prop), I22 0 (0 : Int) /\ (∀ i18 : Nat, i18 < l.length -> ∀ (z21 : Int), I22 i18 z21 -> ((I64 (z21 * p)) /\ ((I64 ((z21 * p) + (gi l ((l.length - 1 - i18 : Nat) : Int)))) /\ (I22 (i18 + 1) ((z21 * p) + (gi l ((l.length - 1 - i18 : Nat) : Int))))))) /\ (∀ (z21 : Int), I22 l.length z21 -> Q z21))
theorem Jht {w : World} {Q : Int -> Prop} {p : Int} {l : List Int} {Bl : Nat} {Al : Option Addr} {nl kl : Nat} (hl : Rd Bl w 1 Al nl kl (is l)) (hv : Zi p l Q) :
   Calls Tryz.prog 141 #[.int .i64 p, .slice Al nl kl] w fun e w' => ∃ v Qr, e = .returned v /\ w.grownBy w' none /\ Rows w.heap.size none w' Qr /\ News w.heap.size Qr /\ ∃ (r0 : Int), v = .int .i64 r0 /\ Qr = [] /\ Q r0 := by
 have hnl := hl.ilen; subst hnl; refine Jk <| Jj (vs := [nI p, nS Al l kl]) [4] XF141 rfl rfl rfl rfl ?_; have hS := Jr w; unfold Zi at hv; refine Jd 2 <| JC (z := 1) (cs := [nI p]) hS rfl rfl rfl rfl ?_; intro g11 w12 hS; refine Jb 2 <| Jd 2 <| SL.alloc (cs := [nI 0]) hS XE3 rfl rfl ?_; intro g13 w14 hS; refine JJ (cs' := [nI 0]) 0 0 hS rfl XE3 rfl rfl rfl (Qv rfl) rfl ?_; intro w15 hS; refine Ja <| Jd 4 <| SL.call hS (Jli (hS.ro hl) hv) XF145 rfl XN145 rfl rfl ?_; rintro _ _ w16 ⟨g17, rfl, rfl, hv⟩ hGw16 hS; have hS := hS.n1; refine Ja <| W.block ?_; obtain ⟨I22, hv, hk29, hd30⟩ := hv; refine Jmr (σ := Int) (fun i q => match q with | z21 => I22 i z21) (fun z21 => [.row 22 1 (some ⟨g17, 0, none⟩) 1 1 [.slice Al l.length kl], .row 3 1 (some ⟨g13, 0, none⟩) 1 1 [.int .i64 z21], .row 3 1 (some ⟨g11, 0, none⟩) 1 1 [.int .i64 p]]) (fun _ _ => False) (fun vs => [(2, .pointer (some ⟨g11, 0, none⟩)), (4, .int .i64 0), (5, .pointer (some ⟨g13, 0, none⟩)), (7, vs.getD 1 undef)]) (0 : Int) hS hv (fun q => by obtain z21 := q; exact trivial) rfl XF146 rfl XN146 (Jjz (A := Al) (m := l.length) (c := kl) (Rd.m64 (hS.ro hl))) (Below.refl _ _) (fun _ _ _ h => by obtain ⟨_, h, _⟩ := h; rw [h]; rfl) (fun i x => Qat) (by decide) (fun _ q _ _ hS => by obtain z21 := q; exact ⟨Jc (hS.own (i := 0) rfl) 0 _ rfl, _, _, (hS.ro hl)⟩) ?_ ?_ ?_ ?_
 .intro lq vsq W1q hlq
  match vsq, hlq with
  | [a0, a1], _ =>
    refine Jd 3 ?_; exact ⟨rfl, rfl, ⟨rfl, rfl, rfl, rfl, trivial⟩⟩
 .rintro lq i18 _ z21 w23 hi ⟨vb, rfl, hcell⟩ hI hS; have hvb : vb = (gi l ((l.length - 1 - i18 : Nat) : Int)) := bw_val (hS.ro hl) (by omega) hcell; subst hvb; have hv := hk29 i18 hi z21 hI; refine W.block <| Jw <| Jp 1 0 XU3 hS rfl rfl rfl ⟨rfl, rfl⟩ <| Jp 2 0 XU3 hS rfl rfl rfl ⟨rfl, rfl⟩ ?_; obtain ⟨o24, hv⟩ := hv; refine WL.mul (r := (z21 * p)) rfl rfl (wr o24) rfl <| Jm rfl rfl ?_; obtain ⟨o25, hv⟩ := hv; refine WL.add (r := ((z21 * p) + (gi l ((l.length - 1 - i18 : Nat) : Int)))) rfl rfl (wr o25) rfl <| JJ (cs' := [nI ((z21 * p) + (gi l ((l.length - 1 - i18 : Nat) : Int)))]) 1 0 hS rfl XE3 rfl rfl rfl (Qv rfl) rfl ?_; intro w26 hS; refine Ja ?_; exact ⟨((z21 * p) + (gi l ((l.length - 1 - i18 : Nat) : Int))), hv, hS⟩
 .rintro D27 z21 w28 hv hD hS; have hv := hd30 z21 hv; refine Jd 2 <| Jp 2 0 XU3 hS rfl rfl rfl ⟨rfl, rfl⟩ <| Jb 2 <| W.ret ?_; have hS := hS.pick [0] rfl; obtain ⟨hDD27, hS⟩ := hS.taken trivial; refine ⟨_, rfl, Fin.cons hDD27 (Fin.nil ?_)⟩; exact (hS.pick [] rfl).fin rfl ⟨z21, rfl, rfl, hv⟩
 rintro _ e _ _ _ hv; exact hv.elim
end Go.Proofs.YtngdhnijkgjhcaaGreat
