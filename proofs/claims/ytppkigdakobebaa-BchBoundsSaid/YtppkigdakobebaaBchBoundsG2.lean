/- Contracts of functions of the program, and what they lean on: Draw6, Mx, Mx2, Draw8, Draw7, Mx3, Gk, Draw9, Sx, Draw10, Nt, Xl, Draw11, Xm, Bl2, Xo, Xp, Sg, Facts, Ab, D1, D8, D12, D13. -/
import Derived.Test.YtppkigdakobebaaBchBoundsG1
import Derived.Deep.MidRow
import Derived.Laws.StructEq
import Derived.Test.YtppkigdakobebaaProg
set_option linter.unusedSimpArgs false
set_option linter.unusedVariables false
namespace Go.Proofs.Ytppkigdakobebaa
open Go.RowKit
/-! ### regions that draw their order, where some operations may come late -/
def Zz : List Nat -> List (List Nat)
  | [] => [[]]
  | x :: l => Zz l ++ (Zz l).map (x :: ·)
theorem Yr (p : Nat -> Bool) : ∀ l : List Nat, l.filter p ∈ Zz l
 | [] => by simp [Zz]
 | x :: l => by
  have ih := Yr p l; rw [List.filter_cons]; cases h : p x
  .simp only [Bool.false_eq_true, if_false]; exact List.mem_append_left _ ih
  .simp only [if_true]; exact List.mem_append_right _ (List.mem_map.2 ⟨_, ih, rfl⟩)
def Zx (n : Nat) (l : List Oper) (ps : List Plan) (m : Nat) (fs : List Nat) : Bool :=
  ps.length == m && Nat.ble m l.length && (List.range l.length).all (fun i => (JJ l i).all (fun j => Nat.blt j i)) &&
    (List.range l.length).all (fun i => Nat.blt i m || (List.range m).all (fun j => fs.contains j || (ZB l 6 (JJ l i)).contains j)) && (List.range m).all fun i =>
    (match ps[i]? with
     | none => false
     | some p => p.on.all (fun j => (JJ l i).contains j) && p.slots.all (fun t => (List.range m).all fun k => k == i || Jv l k != some t || (JJ l k).contains i)) &&
    (match Jv l i with
     | none => false
     | some d => Nat.blt d n && (List.range m).all fun k => k == i || Jv l k != some d)
def Jal (n : Nat) (l : List Oper) (ps : List Plan) (m : Nat) (fs : List Nat) (o9 : Nat) : Bool :=
  ps.length == m && Nat.ble m l.length && (List.range l.length).all (fun i => (JJ l i).all (fun j => Nat.blt j i)) &&
    (List.range l.length).all (fun i => (Nat.blt i m && i != o9) || (List.range m).all (fun j => fs.contains j || (ZB l 6 (JJ l i)).contains j)) && (List.range m).all fun i =>
    (match ps[i]? with
     | none => false
     | some p => p.on.all (fun j => (JJ l i).contains j) && p.slots.all (fun t => (List.range m).all fun k => k == i || Jv l k != some t || (JJ l k).contains i)) &&
    (match Jv l i with
     | none => false
     | some d => Nat.blt d n && (List.range m).all fun k => k == i || Jv l k != some d)
def obsH (P : Program) (n : Nat) (ro : Option Nat) (df : List Deferred) (l : List Oper) (al : Nat -> Bool) (cp : Nat -> Option Nat) (ph : Nat -> Value -> Value -> Prop) (V : Nat -> Value -> World -> Prop) (D : Nat -> Value -> World -> Nat -> Prop) (w0 : World) (L : Fr) (o9 : Nat) : Nat -> List Oper -> List Plan -> List Fr -> Prop
  | i, o :: os, p :: ps, b :: bs => (b.map (·.1) = p.slots /\ sub b L /\ (i ≠ o9 -> obA P n ro df l al cp ph V D w0 i o p b)) /\ obsH P n ro df l al cp ph V D w0 L o9 (i + 1) os ps bs
  | _, [], [], [] => True
  | _, _, _, _ => False
theorem Jas {P : Program} {n : Nat} {ro : Option Nat} {df : List Deferred} {l : List Oper} {al : Nat -> Bool} {cp : Nat -> Option Nat} {ph : Nat -> Value -> Value -> Prop} {V : Nat -> Value -> World -> Prop} {D : Nat -> Value -> World -> Nat -> Prop} {w0 : World} {L : Fr} {o9 : Nat} : ∀ (os : List Oper) (ps : List Plan) (bs : List Fr) (i : Nat),
  obsH P n ro df l al cp ph V D w0 L o9 i os ps bs -> ∀ k o p, os[k]? = some o -> ps[k]? = some p -> ∃ b, b.map (·.1) = p.slots /\ sub b L /\ (i + k ≠ o9 -> obA P n ro df l al cp ph V D w0 (i + k) o p b)
 | [], _, _, _, _, k, _, _, ho, _ => by simp at ho
 | o :: os, [], _, _, h, _, _, _, _, hp => by simp at hp
 | o :: os, p :: ps, [], _, h, _, _, _, _, _ => by exact h.elim
 | o :: os, p :: ps, b :: bs, i, h, 0, _, _, ho, hp => by cases ho; cases hp; exact ⟨b, h.1⟩
 | o :: os, p :: ps, b :: bs, i, h, k + 1, o', p', ho, hp => by
  obtain ⟨b', h'⟩ := Jas os ps bs (i + 1) h.2 k o' p' (by simpa using ho) (by simpa using hp); exact ⟨b', by rw [show i + (k + 1) = i + 1 + k by omega]; exact h'⟩
theorem Jcq {P : Program} {n id : Nat} {ro : Option Nat} {df : List Deferred} {l : List Oper} {N : Jy} {B : JL} {L : Fr} {w0 : World} (m : Nat) (fs : List Nat) (o9 : Nat) (al : Nat -> Bool) (cp : Nat -> Option Nat) (ph : Nat -> Value -> Value -> Prop) (ps : List Plan) (bs : List Fr) (V : Nat -> Value -> World -> Prop) (D : Nat -> Value -> World -> Nat -> Prop)
  (hm : P.follows .mixedOrders = true) (hB : Jal n l ps m fs o9 = true)
  (hV : ∀ j v w1 w2, V j v w1 -> w1.grownBy w2 none -> V j v w2)
  (hD : ∀ j v w1 w2, V j v w1 -> w1.grownBy w2 none -> ∀ g, D j v w2 g -> D j v w1 g)
  (hcp : (List.range m).all (fun i => match cp i with | none => true | some j => (JJ l i).contains j) = true)
  (hobs : obsH P n ro df l al cp ph V D w0 L o9 0 (l.take m) ps bs)
  (hN2 : ∀ X ∈ Zz fs, (o9 < m -> X.contains o9 = true) -> ∀ (vals : Nat -> Value) w', w0.grownBy w' none -> (∀ i, i < m -> X.contains i = false -> V i (vals i) w') -> (∀ j k, j ≠ k -> j < m -> k < m -> X.contains j = false -> X.contains k = false -> al j = true -> al k = true -> ∀ g, D j (vals j) w' g -> ¬ D k (vals k) w' g) -> (∀ i j, i < m -> X.contains i = false -> cp i = some j -> ph i (vals j) (vals i)) -> ∀ q, q = (((List.range l.length).map fun k => Nat.blt k m && !(X.contains k)).filter (!·)).length ->
   WA P n ro df l N q ((List.range l.length).map fun k => Nat.blt k m && !(X.contains k)) ((((List.range m).filterMap fun i => if X.contains i = true then none else (Jv l i).map fun t => (t, vals i))) ++ L) w') : W P n ro df (.region id l.toArray true) N B L w0 := by
 simp only [Jal, Bool.and_eq_true, Bool.or_eq_true, List.all_eq_true, List.mem_range, beq_iff_eq, List.contains_iff_mem] at hB; obtain ⟨⟨⟨⟨hlen, hlm0⟩, hlt0⟩, htail⟩, hB⟩ := hB; have hlm : m <= l.length := by simpa [Nat.ble_eq] using hlm0
 refine ⟨fun a ha => wpIn_mono (Q := Yx n df N B) (wpIn_region_any hm ?_) Yv⟩; have hon_lt : ∀ k, k < l.length -> ∀ j ∈ JJ l k, j < k := fun k hk j hj => by simpa [Nat.blt_eq] using hlt0 k hk j hj
 have fin0 : ∀ (c : Nat) (listed : Array Bool) (vals : Nat -> Value) (a : Act) (w : World), listed.size = l.length -> (listed.toList.filter (!·)).length = c -> (∀ k, listed.getD k false = true -> k < m /\ k ≠ o9) ->
   DInv n df l ps V (fun _ => True) w0 L (l.length + 1) (fun k => listed.getD k false) vals a w -> Ap al cp ph D (fun k => listed.getD k false) vals w -> (∀ k, k < m -> k ∉ fs -> listed.getD k false = true) -> wpAnyIn (J7 ro) 0 P .any l.toArray (Yx n df N B) c listed a w := by
  intro c listed vals a w hsz hf hnm I hap hcase; have hXm : ∀ k, k < m -> (fs.filter fun k => !listed.getD k false).contains k = !listed.getD k false := fun k hk => by
   cases hb : listed.getD k false with
   | true =>
    cases hc : (fs.filter fun k => !listed.getD k false).contains k with
    | false => rfl
    | true => rw [List.contains_iff_mem, List.mem_filter, hb] at hc; exact absurd hc.2 (by decide)
   | false =>
    show _ = true; rw [List.contains_iff_mem, List.mem_filter, hb]; refine ⟨Classical.byContradiction fun h => ?_, rfl⟩; have := hcase k hk h; rw [hb] at this; cases this
  have hXs := Yr (fun k => !listed.getD k false) fs; generalize hXe : (fs.filter fun k => !listed.getD k false) = X at hXm hXs; have hX : listed = ((List.range l.length).map fun k => Nat.blt k m && !(X.contains k)).toArray := by
   apply Array.ext
   .simp [hsz]
   .intro k h1 h2; have hk : k < l.length := by omega
    have hv : listed.getD k false = listed[k] := by simp [Array.getD_eq_getD_getElem?, h1]
    rw [<- hv]; simp only [List.getElem_toArray, List.getElem_map, List.getElem_range]; rcases Nat.lt_or_ge k m with h | h
    .rw [hXm k h, Bool.not_not]; have : Nat.blt k m = true := by rw [Nat.blt_eq]; exact h
     rw [this]; rfl
    .have hb : listed.getD k false = false := by
      cases hb : listed.getD k false with
      | false => rfl
      | true => have := hnm k hb; omega
     have : Nat.blt k m = false := by
      cases hc : Nat.blt k m with
      | false => rfl
      | true => rw [Nat.blt_eq] at hc; omega
     rw [hb, this]; rfl
  have hlk : ∀ k, k < m -> X.contains k = false -> listed.getD k false = true := fun k hk h => by
   have := hXm k hk; rw [h] at this; cases hb : listed.getD k false with
   | true => rfl
   | false => rw [hb] at this; cases this
  have hw := I.wd (by simp [Array.getD_eq_getD_getElem?, show ¬ l.length + 1 < listed.size by omega]); have hvs : ∀ j, j < m -> X.contains j = false -> V j (vals j) w := fun j hj hne => I.vs j (hlk j hj hne) (by omega); have hX9 : o9 < m -> X.contains o9 = true := fun ho9 => by
   rw [hXm o9 ho9]; cases hb : listed.getD o9 false with
   | false => rfl
   | true => exact absurd rfl (hnm o9 hb).2
  have hW := hN2 X hXs hX9 vals w hw hvs (fun j k hjk hj hk hjf hkf h1 h2 => hap.ap j k hjk (hlk j hj hjf) (hlk k hk hkf) h1 h2) (fun i j hi hif h => hap.cp_ i j (hlk i hi hif) h) c (by rw [<- @List.toList_toArray _ ((List.range l.length).map fun k => Nat.blt k m && !(X.contains k)), <- hX]; omega); have hHas : Has n df a ((((List.range m).filterMap fun i => if X.contains i = true then none else (Jv l i).map fun t => (t, vals i))) ++ L) := by
   refine ⟨I.nd, I.sz, fun t v hv => ?_⟩; rw [QT] at hv; cases hc : lk ((List.range m).filterMap fun i => if X.contains i = true then none else (Jv l i).map fun t => (t, vals i)) t with
   | some u =>
    rw [hc] at hv; cases hv; have := Zk hc; simp only [List.mem_filterMap, List.mem_range] at this; obtain ⟨k, hk, he⟩ := this; cases hkf : X.contains k with
    | true => rw [if_pos hkf] at he; cases he
    | false =>
     rw [if_neg (by rw [hkf]; decide)] at he; simp only [Option.map_eq_some_iff] at he; obtain ⟨t', ht', he⟩ := he; cases he; exact I.new k t (hlk k hk hkf) ht'
   | none =>
    rw [hc] at hv; refine I.old t v hv fun k hk hd => ?_; have hkm := (hnm k hk).1; have hkf : X.contains k = false := by rw [hXm k hkm, hk]; rfl
    have hm2 : (t, vals k) ∈ (List.range m).filterMap fun i => if X.contains i = true then none else (Jv l i).map fun t => (t, vals i) := by
     simp only [List.mem_filterMap, List.mem_range]; exact ⟨k, hkm, by rw [if_neg (by rw [hkf]; decide)]; simp [hd]⟩
    obtain ⟨u, hu⟩ := Ja7 hm2; rw [hc] at hu; cases hu
  rw [hX]; exact hW.out a hHas B
 have key : ∀ (fuel : Nat) (listed : Array Bool) (vals : Nat -> Value) (a : Act) (w : World), listed.size = l.length -> (listed.toList.filter (!·)).length = fuel + (l.length - m) -> (∀ k, listed.getD k false = true -> k < m /\ k ≠ o9) ->
   DInv n df l ps V (fun _ => True) w0 L (l.length + 1) (fun k => listed.getD k false) vals a w -> Ap al cp ph D (fun k => listed.getD k false) vals w -> wpAnyIn (J7 ro) 0 P .any l.toArray (Yx n df N B) (fuel + (l.length - m)) listed a w := by
  intro fuel
  induction fuel with
  | zero =>
   intro listed vals a w hsz hf hnm I hap; have hall : ∀ k, k < m -> listed.getD k false = true := fun k hk => by
    cases hb : listed.getD k false with
    | true => rfl
    | false =>
     exfalso; have hcnt : ∀ (x : List Bool) (m : Nat), m <= x.length -> (∀ j, m <= j -> j < x.length -> x[j]? = some false) -> (x.length - m) + ((x.take m).filter (!·)).length = (x.filter (!·)).length := by
      intro x m hmx hfalse; have h1 : x = x.take m ++ x.drop m := (List.take_append_drop m x).symm; have h2 : (x.drop m).filter (!·) = x.drop m := by
       rw [List.filter_eq_self]; intro b hb; obtain ⟨j, hj, rfl⟩ := List.mem_iff_getElem.1 hb; have := hfalse (m + j) (by omega) (by simp at hj; omega); rw [List.getElem_drop]; rw [List.getElem?_eq_getElem (by simp at hj; omega)] at this
       simpa using this
      conv => rhs; rw [h1]
      rw [List.filter_append, List.length_append, h2, List.length_drop]; omega
     have hx := hcnt listed.toList m (by simp; omega) (fun j h1 h2 => by
      have hj : j < listed.size := by simpa using h2
      cases hbj : listed.getD j false with
      | true => have := hnm j hbj; omega
      | false =>
       simp [Array.getD_eq_getD_getElem?, hj] at hbj; simp [hj, hbj])
     have hsz2 : listed.toList.length = l.length := by simpa using hsz
     have hzero : ((listed.toList.take m).filter (!·)).length = 0 := by omega
     have hz := ZL hzero k (by simp; omega); rw [List.getElem?_take, if_pos hk] at hz; have hk2 : k < listed.size := by omega
     simp [Array.getD_eq_getD_getElem?, hk2] at hb; simp [hk2, hb] at hz
   exact fin0 _ listed vals a w hsz hf hnm I hap (fun k hk _ => hall k hk)
  | succ fuel ih =>
   intro listed vals a w hsz hf hnm I hap; rw [show fuel + 1 + (l.length - m) = (fuel + (l.length - m)) + 1 by omega] at hf ⊢; have hlist : ∀ k, listed.getD k true = false -> k < l.length /\ listed.getD k false = false := fun k hk => by
    rcases Nat.lt_or_ge k listed.size with h | h
    .simp [Array.getD_eq_getD_getElem?, h] at hk ⊢; exact ⟨by omega, hk⟩
    .simp [Array.getD_eq_getD_getElem?, Array.getElem?_eq_none h] at hk
   by_cases hcase : ∀ k, k < m -> k ∉ fs -> listed.getD k false = true
   .exact fin0 _ listed vals a w hsz hf hnm I hap hcase
   .refine ⟨?_, ?_⟩
    .intro hr
     -- the first that has not come up yet is ready
     exfalso; have hex : ∃ k, k < l.length /\ listed.getD k false = false := by
      by_cases hc : ∃ k, k < l.length /\ listed.getD k false = false
      .exact hc
      .have hfe : listed.toList.filter (!·) = [] := by
        rw [List.filter_eq_nil_iff]; intro b hb; obtain ⟨k, hk, rfl⟩ := List.mem_iff_getElem.1 hb; have hk' : k < listed.size := by simpa using hk
        have : ¬ listed.getD k false = false := fun h => hc ⟨k, by omega, h⟩; simp [Array.getD_eq_getD_getElem?, hk'] at this; simp [this]
       rw [hfe] at hf; simp at hf
     have hmin : ∀ m, (∃ k, k <= m /\ k < l.length /\ listed.getD k false = false) -> ∃ k, k < l.length /\ listed.getD k false = false /\ ∀ j, j < k -> listed.getD j false = true := by
      intro m
      induction m with
      | zero => rintro ⟨k, hk, h1, h2⟩; exact ⟨k, h1, h2, fun j hj => by omega⟩
      | succ m ihm =>
       rintro ⟨k, hk, h1, h2⟩; by_cases hc : ∃ j, j <= m /\ j < l.length /\ listed.getD j false = false
       .exact ihm hc
       .refine ⟨k, h1, h2, fun j hj => ?_⟩; cases hb : listed.getD j false with
        | true => rfl
        | false => exact absurd ⟨j, by omega, by omega, hb⟩ hc
     obtain ⟨k0, hk0, hk0'⟩ := hex; obtain ⟨k, h1, h2, h3⟩ := hmin k0 ⟨k0, Nat.le_refl _, hk0, hk0'⟩; have hin : k ∈ Region.ready .any l.toArray listed := by
      refine mem_ready.2 ⟨?_, l[k], by simp [h1], fun e he hb => ?_⟩
      .have : k < listed.size := by omega
       simp [Array.getD_eq_getD_getElem?, this] at h2 ⊢; exact h2
      .have hon : e.on ∈ JJ l k := by
        simp only [JJ, List.getElem?_eq_getElem h1, List.mem_map, List.mem_filter]; exact ⟨e, ⟨by simpa using he, hb⟩, rfl⟩
       exact h3 e.on (hon_lt k h1 _ hon)
     rw [hr] at hin; cases hin
    .intro i hi; obtain ⟨h1, o, ho, hpre⟩ := mem_ready.1 hi; obtain ⟨hil0, hun⟩ := hlist i h1; have ho' : l[i]? = some o := by simpa using ho
     have hpre' : ∀ j ∈ JJ l i, listed.getD j false = true := fun j hj => by
      simp only [JJ, ho', List.mem_map, List.mem_filter] at hj; obtain ⟨e, ⟨he, hb⟩, rfl⟩ := hj; exact hpre e (by simpa using he) hb
     have hil : i < m /\ i ≠ o9 := by
      by_cases h : i < m /\ i ≠ o9
      .exact h
      .exfalso; refine hcase fun k hk hkf => ?_; rcases htail i hil0 with h2 | h2
       .simp [Nat.blt_eq] at h2; omega
       .rcases h2 k hk with h3 | h3
        .exact absurd h3 hkf
        .exact Y7 (p := fun k => listed.getD k false = true) I.cl 6 (JJ l i) hpre' k h3
     have hi9 := hil.2; have hil := hil.1; obtain ⟨hp, hd⟩ := hB i hil; have hpi : i < ps.length := by omega
     rw [List.getElem?_eq_getElem hpi] at hp; generalize hpe : ps[i] = p at hp; simp only [Bool.and_eq_true, List.all_eq_true, Bool.or_eq_true, List.mem_range, beq_iff_eq, bne_iff_ne, ne_eq, List.contains_iff_mem] at hp; obtain ⟨hon, hsl⟩ := hp; obtain ⟨b, hbs, hsub, hob⟩ := Jas (l.take m) ps bs 0 hobs i o p (by rw [List.getElem?_take, if_pos hil]; exact ho') (by rw [List.getElem?_eq_getElem hpi, hpe]); rw [Nat.zero_add] at hob; have hw0 : p.pure = false -> w0.grownBy w none := fun _ => I.wd (by
      cases hb : listed.getD (l.length + 1) false with
      | false => rfl
      | true => have := I.lt _ hb; omega)
     have hT := Jaj vals p.on b (hob hi9 w hw0) (fun j hj => I.vs j (hpre' j (hon j hj)) (by have := hon_lt i hil0 j (hon j hj); omega)); generalize hF : (List.map (fun j => ((Jv l j).getD 0, vals j)) p.on).reverse ++ b = F at hT; have hdst : ∀ j, j < m -> ∃ d, Jv l j = some d /\ d < n := fun j hj => by
      have := (hB j hj).2; cases hd : Jv l j with
      | none => rw [hd] at this; simp at this
      | some d => rw [hd] at this; simp only [Bool.and_eq_true] at this; exact ⟨d, rfl, by simpa [Nat.blt_eq] using this.1⟩
     have hHF : Has n df a (F ++ (List.range n).map fun t => (t, a.tmps.getD t undef)) := by
      refine ⟨I.nd, I.sz, fun t v hv => ?_⟩; rw [QT] at hv; cases hc : lk F t with
      | some u =>
       rw [hc] at hv; cases hv; have hm := Zk hc; rw [<- hF] at hm; rcases List.mem_append.1 hm with hm | hm
       .simp only [List.mem_reverse, List.mem_map] at hm; obtain ⟨j, hj, he⟩ := hm; cases he; obtain ⟨d, hd', _⟩ := hdst j (hnm j (hpre' j (hon j hj))).1; rw [hd']; exact I.new j d (hpre' j (hon j hj)) hd'
       .have hL := sub_at hsub hm; have hts : t ∈ p.slots := by rw [<- hbs]; exact List.mem_map.2 ⟨_, hm, rfl⟩
        refine I.old t v hL fun k hk hdk => ?_; rcases hsl t hts k (hnm k hk).1 with (h | h) | h
        .subst h; rw [hun] at hk; cases hk
        .exact h hdk
        .have := I.cl k hk i h; rw [hun] at this; cases this
      | none =>
       rw [hc] at hv; have hm := Zk hv; simp only [List.mem_map, List.mem_range] at hm; obtain ⟨t', ht', he⟩ := hm; cases he; have : t < a.tmps.size := by rw [I.sz]; exact ht'
       simp [Array.getD_eq_getD_getElem?, this]
     have hW := (hT ((List.range n).map fun t => (t, a.tmps.getD t undef))).out a hHF (fun _ _ _ _ => False); have fin' : ∀ a' w', wpListIn (J7 ro) 0 P l.toArray (Yx n df (fun _ L' w' => ∃ u, L' = ((Jv l i).getD 0, u) :: (F ++ (List.range n).map fun t => (t, a.tmps.getD t undef)) /\ (if p.pure then w' = w else w.grownBy w' none) /\ V i u w' /\ (al i = true -> ∀ g, D i u w' g -> w.heap.size <= g /\ g < w'.heap.size) /\ (∀ j, cp i = some j -> ∃ u', lk (F ++ (List.range n).map fun t => (t, a.tmps.getD t undef)) ((Jv l j).getD 0) = some u' /\ ph i u' u)) (fun _ _ _ _ => False)) [] a' w' ->
       wpAnyIn (J7 ro) 0 P .any l.toArray (Yx n df N B) (fuel + (l.length - m)) (listed.setIfInBounds i true) a' w' := by
      intro a' w' hq; obtain ⟨L', hL', hq⟩ := hq; have hisz : i < listed.size := by omega
      have hset : ∀ k, (listed.setIfInBounds i true).getD k false = true -> k = i ∨ listed.getD k false = true := fun k hk => by
       rw [ZJ _ _ _ hisz] at hk; simp only [Bool.or_eq_true, decide_eq_true_eq] at hk; exact hk.imp Eq.symm (fun h => h)
      have hset' : ∀ k, k = i ∨ listed.getD k false = true -> (listed.setIfInBounds i true).getD k false = true := fun k hk => by
       rw [ZJ _ _ _ hisz]; simp only [Bool.or_eq_true, decide_eq_true_eq]; exact hk.imp Eq.symm (fun h => h)
      have hcount : ((listed.setIfInBounds i true).toList.filter (!·)).length = fuel + (l.length - m) := by
       have hg : listed.toList[i]? = some false := by
        simp [Array.getD_eq_getD_getElem?, hisz] at hun; simp [hisz, hun]
       have := Z7 listed.toList i hg; rw [Array.toList_setIfInBounds]; omega
      have hm0' : ∀ k, (listed.setIfInBounds i true).getD k false = true -> k < m /\ k ≠ o9 := fun k hk => by
       rcases hset k hk with rfl | h
       .exact ⟨hil, hi9⟩
       .exact hnm k h
      have hcl : ∀ k, (listed.setIfInBounds i true).getD k false = true -> ∀ j ∈ JJ l k, (listed.setIfInBounds i true).getD j false = true := fun k hk j hj => by
       rcases hset k hk with rfl | h
       .exact hset' j (.inr (hpre' j hj))
       .exact hset' j (.inr (I.cl k h j hj))
      have hlt : ∀ k, (listed.setIfInBounds i true).getD k false = true -> k < l.length := fun k hk => by
       rcases hset k hk with rfl | h
       .exact hil0
       .exact I.lt k h
      have hsome : ∀ t, t < n -> ∃ v, lk (F ++ (List.range n).map fun t => (t, a.tmps.getD t undef)) t = some v := fun t ht => by
       rw [QT]; cases lk F t with
       | some u => exact ⟨u, rfl⟩
       | none => exact ⟨_, Jc4 a n t ht⟩
      obtain ⟨u, rfl, hww, hVu, hfr, hcu⟩ := hq; obtain ⟨d, hdd, hdn⟩ := hdst i hil; rw [hdd] at hL' hd; simp only [Option.getD_some] at hL'; simp only [Bool.and_eq_true, List.all_eq_true, List.mem_range, Bool.or_eq_true, beq_iff_eq, bne_iff_ne, ne_eq] at hd; have hsame' : ∀ t v, t ≠ d -> a.tmps[t]? = some v -> a'.tmps[t]? = some v := fun t v hne hv => by
       have ht : t < n := by have := (Array.getElem?_eq_some_iff.1 hv).1; rw [I.sz] at this; exact this
       obtain ⟨v', hv'⟩ := hsome t ht; have h2 := hHF.at_ t v' hv'; rw [hv] at h2; cases h2; exact hL'.at_ t v (by rw [YP (Ne.symm hne)]; exact hv')
      have hnew : a'.tmps[d]? = some u := hL'.at_ d u (QA _ _ _); have hgw : w.grownBy w' none := by
       by_cases hp' : p.pure = true
       .rw [if_pos hp'] at hww; subst hww; exact Ji _
       .rw [if_neg hp'] at hww; exact hww
      have hVk : ∀ k, listed.getD k false = true -> k ≠ l.length + 1 -> V k (vals k) w' := fun k h hne => hV k _ w w' (I.vs k h hne) hgw; have hDk : ∀ k, listed.getD k false = true -> ∀ g, D k (vals k) w' g -> D k (vals k) w g := fun k h => hD k _ w w' (I.vs k h (by have := hnm k h; omega)) hgw; refine ih _ (fun k => if k = i then u else vals k) a' w' (by simpa using hsz) hcount hm0' ⟨hL'.nd, hL'.sz, fun t v ht hk => ?_, fun k t hk ht => ?_, fun h => ?_, fun h => trivial, fun k hk hne => ?_, hcl, hlt⟩ ⟨fun k hk ha g hg => ?_, fun j k hjk hj hk ha1 ha2 g hg => ?_, fun x y hx hc => ?_⟩
      .exact hsame' t v (fun e' => hk i (hset' i (.inl rfl)) (by rw [hdd, e'])) (I.old t v ht fun k h => hk k (hset' k (.inr h)))
      .by_cases ek : k = i
       .subst ek; rw [hdd] at ht; cases ht; simpa using hnew
       .rw [if_neg ek]; rcases hset k hk with h | h
        .exact absurd h ek
        .refine hsame' t _ (fun e' => ?_) (I.new k t h ht); rcases hd.2 k (hnm k h).1 with h' | h'
         .exact ek h'
         .exact h' (by rw [ht, e'])
      .refine Zc (I.wd ?_) hgw; cases hb : listed.getD (l.length + 1) false with
       | false => rfl
       | true => have := I.lt _ hb; omega
      .by_cases ek : k = i
       .subst ek; simpa using hVu
       .rw [if_neg ek]; rcases hset k hk with h | h
        .exact absurd h ek
        .exact hVk k h hne
      .by_cases ek : k = i
       .subst ek; rw [if_pos rfl] at hg; exact (hfr ha g hg).2
       .rw [if_neg ek] at hg; exact Nat.lt_of_lt_of_le (hap.lt k ((hset k hk).resolve_left ek) ha g (hDk k ((hset k hk).resolve_left ek) g hg)) hgw.size
      .by_cases ej : j = i
       .subst ej; rw [if_pos rfl] at hg; rw [if_neg (Ne.symm hjk)]; have h3 := (hfr ha1 g hg).1; intro h4; have := hap.lt k ((hset k hk).resolve_left (Ne.symm hjk)) ha2 g (hDk k ((hset k hk).resolve_left (Ne.symm hjk)) g h4); omega
       .rw [if_neg ej] at hg; have hj' := (hset j hj).resolve_left ej; by_cases ek : k = i
        .subst ek; rw [if_pos rfl]; intro h4; have h3 := (hfr ha2 g h4).1; have := hap.lt j hj' ha1 g (hDk j hj' g hg); omega
        .rw [if_neg ek]; exact fun h4 => hap.ap j k hjk hj' ((hset k hk).resolve_left ek) ha1 ha2 g (hDk j hj' g hg) (hDk k ((hset k hk).resolve_left ek) g h4)
      .by_cases ex : x = i
       .subst ex; obtain ⟨uy, h1, huy⟩ := hcu y hc; have hym : y ∈ JJ l x := by
         have := List.all_eq_true.1 hcp x (List.mem_range.2 hil); rw [hc] at this
         simpa using this
        have hyd := hpre' y hym; obtain ⟨dy, hdy, _⟩ := hdst y (hnm y hyd).1; rw [hdy] at h1; have h2 := hHF.at_ _ _ h1; have h3 := I.new y dy hyd hdy; simp only [Option.getD_some] at h2; rw [h3] at h2; have hyx : y ≠ x := fun e => by rw [e, hun] at hyd; cases hyd
        rw [if_pos rfl, if_neg hyx]
        first | (rw [Option.some.inj h2] at huy ⊢; exact huy) | (rw [Option.some.inj h2]; exact huy) | (rw [<- Option.some.inj h2]; exact huy)
       .have hx' := (hset x hx).resolve_left ex; have h1 := hap.cp_ x y hx' hc; have hym : y ∈ JJ l x := by
         have := List.all_eq_true.1 hcp x (List.mem_range.2 (hnm x hx').1); rw [hc] at this
         simpa using this
        have hyd := I.cl x hx' y hym; have hyi : y ≠ i := fun e => by rw [e, hun] at hyd; cases hyd
        rw [if_neg ex, if_neg hyi]; exact h1
     unfold wpOpIn; rw [ho]; simp only [wpListIn] at hW; by_cases hwant : Region.wanted o (yielded l.toArray a.tmps) = true
     .rw [if_pos hwant] at hW; simp only [hwant, if_true]; exact (Qx fin' (fun e a w hne h => by cases e <;> first | exact absurd rfl hne | (obtain ⟨_, _, _, h⟩ := h; exact h.elim)) hW)
     .rw [if_neg hwant] at hW; simp only [hwant, if_false, Bool.false_eq_true]; exact ⟨fun _ _ => trivial, fin' _ _ hW.2⟩
 have hsz0 : ((Array.replicate l.toArray.size false).toList.filter (!·)).length = m + (l.length - m) := by simp; omega
 have := key m (Array.replicate l.toArray.size false) (fun _ => undef) a { w0 with drawn := w0.drawn + 1 } (by simp) hsz0 (fun k h => by rw [Qa] at h; cases h) {
  nd := ha.nd, sz := ha.sz
  old := fun t v h _ => ha.at_ t v h
  new := fun k t h => by rw [Qa] at h; cases h
  wd := fun _ => ⟨rfl, rfl, rfl, Nat.le_refl _, fun _ _ _ => rfl⟩
  ws := fun h => trivial
  vs := fun k h => by rw [Qa] at h; cases h
  cl := fun k h => by rw [Qa] at h; cases h
  lt := fun k h => by rw [Qa] at h; cases h } (Ap.mk (fun k h => by rw [Qa] at h; cases h) (fun j k _ h => by rw [Qa] at h; cases h) (fun i j h => by rw [Qa] at h; cases h))
 rw [show m + (l.length - m) = l.toArray.size by simp; omega] at this; exact this
theorem Jbt {n m : Nat} {l : List Oper} {ps : List Plan} {fs : List Nat} (h : Zx n l ps m fs = true) : Jal n l ps m fs m = true := by
 have e : ∀ i, (Nat.blt i m && i != m) = Nat.blt i m := fun i => by
  cases hb : Nat.blt i m with
  | false => rfl
  | true =>
   have h1 : i < m := by rw [Nat.blt_eq] at hb; exact hb
   simp only [Bool.true_and, bne_iff_ne, ne_eq]; omega
 unfold Jal; simp only [e]; exact h
theorem Jar {P : Program} {n : Nat} {ro : Option Nat} {df : List Deferred} {l : List Oper} {al : Nat -> Bool} {cp : Nat -> Option Nat} {ph : Nat -> Value -> Value -> Prop} {V : Nat -> Value -> World -> Prop} {D : Nat -> Value -> World -> Nat -> Prop} {w0 : World} {L : Fr} {o9 : Nat} : ∀ (os : List Oper) (ps : List Plan) (bs : List Fr) (i : Nat),
  Ja5 P n ro df l al cp ph V D w0 L i os ps bs -> obsH P n ro df l al cp ph V D w0 L o9 i os ps bs
 | [], [], [], _, _ => trivial
 | [], _ :: _, _, _, h => h.elim
 | [], [], _ :: _, _, h => h.elim
 | _ :: _, [], _, _, h => h.elim
 | _ :: _, _ :: _, [], _, h => h.elim
 | o :: os, p :: ps, b :: bs, i, h => ⟨⟨h.1.1, h.1.2.1, fun _ => h.1.2.2⟩, Jar os ps bs (i + 1) h.2⟩
theorem ZR {P : Program} {n id : Nat} {ro : Option Nat} {df : List Deferred} {l : List Oper} {N : Jy} {B : JL} {L : Fr} {w0 : World} (m : Nat) (fs : List Nat) (al : Nat -> Bool) (cp : Nat -> Option Nat) (ph : Nat -> Value -> Value -> Prop) (ps : List Plan) (bs : List Fr) (V : Nat -> Value -> World -> Prop) (D : Nat -> Value -> World -> Nat -> Prop)
  (hm : P.follows .mixedOrders = true) (hB : Zx n l ps m fs = true)
  (hV : ∀ j v w1 w2, V j v w1 -> w1.grownBy w2 none -> V j v w2)
  (hD : ∀ j v w1 w2, V j v w1 -> w1.grownBy w2 none -> ∀ g, D j v w2 g -> D j v w1 g)
  (hcp : (List.range m).all (fun i => match cp i with | none => true | some j => (JJ l i).contains j) = true)
  (hobs : Ja5 P n ro df l al cp ph V D w0 L 0 (l.take m) ps bs)
  (hN2 : ∀ X ∈ Zz fs, ∀ (vals : Nat -> Value) w', w0.grownBy w' none -> (∀ i, i < m -> X.contains i = false -> V i (vals i) w') -> (∀ j k, j ≠ k -> j < m -> k < m -> X.contains j = false -> X.contains k = false -> al j = true -> al k = true -> ∀ g, D j (vals j) w' g -> ¬ D k (vals k) w' g) -> (∀ i j, i < m -> X.contains i = false -> cp i = some j -> ph i (vals j) (vals i)) -> ∀ q, q = (((List.range l.length).map fun k => Nat.blt k m && !(X.contains k)).filter (!·)).length ->
   WA P n ro df l N q ((List.range l.length).map fun k => Nat.blt k m && !(X.contains k)) ((((List.range m).filterMap fun i => if X.contains i = true then none else (Jv l i).map fun t => (t, vals i))) ++ L) w') : W P n ro df (.region id l.toArray true) N B L w0 :=
 Jcq m fs m al cp ph ps bs V D hm (Jbt hB) hV hD hcp (Jar _ _ _ _ hobs) (fun X hX _ => hN2 X hX)
end Go.Proofs.Ytppkigdakobebaa
namespace Go.Proofs.Ytppkigdakobebaa
open Go.RowKit
section
variable {b : Nat} {mr : Option Nat} {w w' : World} {R L : List Rw}
theorem Rows.perm {L L' : List Rw} (hp : L.Perm L') : Rows b mr w L -> Rows b mr w L' := by
 induction hp with
 | nil => exact id
 | cons x hp ih => exact fun h => ⟨h.1, fun s hs => h.2.1 s (hp.mem_iff.2 hs), ih h.2.2⟩
 | swap x y l =>
  exact fun h => ⟨h.2.2.1, fun s hs => by
   rcases List.mem_cons.1 hs with rfl | hs
   .exact (h.2.1 _ (List.mem_cons_self ..)).symm
   .exact h.2.2.2.1 s hs, h.1, fun s hs => h.2.1 s (List.mem_cons_of_mem _ hs), h.2.2.2.2⟩
 | trans _ _ ih1 ih2 => exact fun h => ih2 (ih1 h)
theorem Jcs : ∀ {L : List Rw}, Rows b mr w (L ++ R) -> Rows b mr w L /\ (∀ r ∈ L, ∀ s ∈ R, r.Apt s) /\ Rows b mr w R
 | [], h => ⟨trivial, fun _ h => by simp at h, h⟩
 | r :: L, h => by
  obtain ⟨h1, h2, h3⟩ := Jcs (L := L) h.2.2; refine ⟨⟨h.1, fun s hs => h.2.1 s (List.mem_append_left _ hs), h1⟩, fun q hq s hs => ?_, h3⟩; rcases List.mem_cons.1 hq with rfl | hq
  .exact h.2.1 s (List.mem_append_right _ hs)
  .exact h2 q hq s hs
def Rw.isRow : Rw -> Bool
  | .row .. => true
  | _ => false
def grp (L : List Rw) : Rw := .mu (fun g => ∃ r ∈ L, r.at_ g) (fun w => Rows 0 none w L)
theorem Own.block {w w' : World} {b e z m c : Nat} {A : Option Addr} {cs : List Value} (h : Own b w e z A m c cs) (hk : ∀ g, bl A = some g -> w'.heap[g]? = w.heap[g]?) : Own b w' e z A m c cs :=
 ⟨h.1, h.2.imp id fun ⟨g, cap, cur, h1, h2, h3, h4⟩ => ⟨g, cap, cur, h1, h2, (hk g (by cases h1; rfl)).trans h3, h4⟩⟩
theorem Rows.low : ∀ {L : List Rw}, (∀ r ∈ L, r.isRow = true) -> Rows b mr w L -> Rows 0 none w L
 | [], _, _ => trivial
 | r :: L, hr, h => by
  refine ⟨?_, h.2.1, Rows.low (fun q hq => hr q (List.mem_cons_of_mem _ hq)) h.2.2⟩; have h1 := hr r (List.mem_cons_self ..); have h2 := h.1; cases r with
  | row e z A m c cs => exact ⟨h2.1, fun g _ => .inl (Nat.zero_le _)⟩
  | _ => cases h1
end
section
variable {X : World -> Prop} {w0 w w' : World} {mr : Option Nat} {R L : List Rw}
theorem St.perm {L' : List Rw} (h : St X w0 mr w L) (hp : L.Perm L') : St X w0 mr w L' := ⟨h.ext, h.rows.perm hp, h.x, h.cl, h.lt⟩
end
abbrev Hs := Nat -> Option Addr × Nat
def JX (hs : Hs) (ls : LL) : List Value := ls.mapIdx fun i l => .slice (hs i).1 l.length (hs i).2
def inr (eI : Nat) (hs : Hs) (ls : LL) : List Rw := ls.mapIdx fun i l => .row eI 1 (hs i).1 l.length (hs i).2 (is l)
def mx (eS eI : Nat) (A : Option Addr) (m c : Nat) (hs : Hs) (ls : LL) : Rw := grp (.row eS 1 A m c (JX hs ls) :: inr eI hs ls)
theorem Z6 (hs : Hs) (ls : LL) : (JX hs ls).length = ls.length := by simp [JX]
theorem Jaw {α : Type} {ls : List α} {i : Nat} {d : α} (h : i < ls.length) : ls[i]? = some (ls.getD i d) := by
 rw [List.getElem?_eq_getElem h, List.getD_eq_getElem?_getD, List.getElem?_eq_getElem h]; rfl
theorem inr_at (eI : Nat) (hs : Hs) (ls : LL) {i : Nat} (hi : i < ls.length) : (inr eI hs ls)[i]? = some (.row eI 1 (hs i).1 (ls.getD i []).length (hs i).2 (is (ls.getD i []))) := by
 simp only [inr, List.getElem?_mapIdx, Jaw (d := []) hi, Option.map_some]
theorem Jba (hs : Hs) (ls : LL) {i : Nat} (hi : i < ls.length) : (JX hs ls)[i]? = some (.slice (hs i).1 (ls.getD i []).length (hs i).2) := by
 simp only [JX, List.getElem?_mapIdx, Jaw (d := []) hi, Option.map_some]
theorem Jan {α : Type} : ∀ {l : List α} {i : Nat} {a : α}, l[i]? = some a -> l.Perm (a :: l.eraseIdx i)
 | [], _, _, h => by simp at h
 | x :: l, 0, a, h => by cases h; exact List.Perm.refl _
 | x :: l, i + 1, a, h => ((Jan (l := l) (i := i) (by simpa using h)).cons x).trans (List.Perm.swap _ _ _)
section
variable {X : World -> Prop} {w0 w w' : World} {mr : Option Nat} {R : List Rw} {eS eI m c : Nat} {A : Option Addr} {hs : Hs} {ls : LL}
theorem St.mxrows {i : Nat} (h : St X w0 mr w R) (hi : R[i]? = some (mx eS eI A m c hs ls)) : Rows 0 none w (.row eS 1 A m c (JX hs ls) :: inr eI hs ls) := (h.rows.get hi).1
theorem St.mxout {i : Nat} (h : St X w0 mr w R) (hi : R[i]? = some (mx eS eI A m c hs ls)) : Rd w.heap.size w 1 A m c (JX hs ls) := (h.mxrows hi).1.1.rd
theorem Al.mk {w : World} (eI : Nat) (f : Nat -> Nat) : ∀ (ls : LL) (hs : Hs), Rows 0 none w (inr eI hs ls) -> Al w (JX hs ls) ls
 | [], _, _ => trivial
 | l :: ls, hs, h => by
  simp only [inr, List.mapIdx_cons] at h; simp only [JX, List.mapIdx_cons]; exact ⟨⟨_, _, _, rfl, h.1.1.rd⟩, Al.mk eI f ls (fun i => hs (i + 1)) h.2.2⟩
theorem St.rl {i : Nat} (h : St X w0 mr w R) (hi : R[i]? = some (mx eS eI A m c hs ls)) : Rl w A m c ls := ⟨_, _, h.mxout hi, Al.mk eI id ls hs (h.mxrows hi).2.2⟩
end
end Go.Proofs.Ytppkigdakobebaa
namespace Go.Proofs.Ytppkigdakobebaa
open Go.RowKit
def apHs (m : Nat) (hs hs' : Hs) : Hs := fun i => if i < m then hs i else hs' (i - m)
section
variable {X : World -> Prop} {w0 w w' : World} {mr : Option Nat} {R : List Rw} {eS eI m c : Nat} {A : Option Addr} {hs : Hs} {ls : LL}
theorem St.at_ {i : Nat} {r : Rw} (h : St X w0 mr w R) (hi : R[i]? = some r) : St X w0 mr w (r :: R.eraseIdx i) := h.perm (Jan hi)
end
section
variable {P : Program} {n : Nat} {ro : Option Nat} {df : List Deferred} {N : Jy} {L : Fr} {w w0 : World} {ops : Array Oper} {rest : List Oper}
variable {d : Nat} {ty : TypeId} {pos : String} {af : Array Edge} {X : World -> Prop} {mr : Option Nat} {R : List Rw} {eS eI m c : Nat} {A : Option Addr} {hs : Hs} {ls : LL}
end
end Go.Proofs.Ytppkigdakobebaa
namespace Go.Proofs.Ytppkigdakobebaa
open Go.RowKit
theorem Ja8 (m n : Nat) (h : m <= n) : (List.range n).map (fun k => Nat.blt k m && !(([] : List Nat).contains k)) = List.replicate m true ++ List.replicate (n - m) false := by
 apply List.ext_getElem
 .simp; omega
 intro k h1 h2; simp only [List.getElem_map, List.getElem_range, List.getElem_append, List.length_replicate, List.getElem_replicate, List.contains_nil, Bool.not_false, Bool.and_true]; split
 .simpa [Nat.blt_eq] using ‹k < m›
 .rw [Bool.eq_false_iff]; intro hh; exact absurd (Nat.blt_eq.mp hh) ‹_›
theorem Z3 (m n : Nat) : ((List.replicate m true ++ List.replicate (n - m) false).filter (!·)).length = n - m := by simp
theorem Jdi {P : Program} {n id : Nat} {ro : Option Nat} {df : List Deferred} {l : List Oper} {N : Jy} {B : JL} {L : Fr} {w0 : World} (m : Nat) (al : Nat -> Bool) (cp : Nat -> Option Nat) (ph : Nat -> Value -> Value -> Prop) (ps : List Plan) (bs : List Fr) (V : Nat -> Value -> World -> Prop) (D : Nat -> Value -> World -> Nat -> Prop)
  (hm : P.follows .mixedOrders = true) (hB : Zy n l ps m = true)
  (hV : ∀ j v w1 w2, V j v w1 -> w1.grownBy w2 none -> V j v w2)
  (hD : ∀ j v w1 w2, V j v w1 -> w1.grownBy w2 none -> ∀ g, D j v w2 g -> D j v w1 g)
  (hcp : (List.range m).all (fun i => match cp i with | none => true | some j => (JJ l i).contains j) = true)
  (hobs : Ja5 P n ro df l al cp ph V D w0 L 0 (l.take m) ps bs)
  (hN : ∀ (vals : Nat -> Value) w', w0.grownBy w' none -> (∀ i, i < m -> V i (vals i) w') -> (∀ j k, j ≠ k -> j < m -> k < m -> al j = true -> al k = true -> ∀ g, D j (vals j) w' g -> ¬ D k (vals k) w' g) -> (∀ i j, i < m -> cp i = some j -> ph i (vals j) (vals i)) ->
   WA P n ro df l N (l.length - m) (List.replicate m true ++ List.replicate (l.length - m) false) ((((List.range m).filterMap fun i => (Jv l i).map fun t => (t, vals i))) ++ L) w') : W P n ro df (.region id l.toArray true) N B L w0 := by
 have hG : Zx n l ps m [] = true := by
  unfold Zx; unfold Zy at hB; simp only [List.contains_nil, Bool.false_or]; exact hB
 have hlm : m <= l.length := by simp only [Zy, Bool.and_eq_true] at hB; simpa [Nat.ble_eq] using hB.1.1.1.2
 refine ZR m [] al cp ph ps bs V D hm hG hV hD hcp hobs fun X hX vals w' hw h1 h2 h3 q hq => ?_; obtain rfl : X = [] := by simpa [Zz] using hX
 rw [Ja8 m l.length hlm] at hq ⊢; rw [Z3] at hq; subst hq; have := hN vals w' hw (fun i hi => h1 i hi rfl) (fun j k hjk hj hk => h2 j k hjk hj hk rfl rfl) (fun i j hi => h3 i j hi rfl)
 simpa using this
end Go.Proofs.Ytppkigdakobebaa
namespace Go.Proofs.Ytppkigdakobebaa
open Go.RowKit
/-! ### regions that draw their order, all of whose values are known -/
theorem ZP {P : Program} {n : Nat} {ro : Option Nat} {df : List Deferred} {ops : Array Oper} {o : Oper} {N N' : Jy} {L : Fr} {w : World} (h : ∀ df L w, N df L w -> N' df L w) (hw : WL P n ro df ops [o] N L w) : WL P n ro df ops [o] N' L w :=
  ⟨fun a ha B => by
    have hW := hw.out a ha B
    have f : ∀ e a w, Yx n df N B e a w -> Yx n df N' B e a w := by
      intro e a w hh
      cases e <;> first | exact hh | (obtain ⟨L, h1, h2⟩ := hh; exact ⟨L, h1, h _ _ _ h2⟩)
    simp only [wpListIn] at hW ⊢
    by_cases hwant : Region.wanted o (yielded ops a.tmps) = true
    . rw [if_pos hwant] at hW ⊢
      exact Qx (fun a w hh => f _ _ _ hh) (fun e a w _ hh => f _ _ _ hh) hW
    . rw [if_neg hwant] at hW ⊢
      exact ⟨hW.1, f _ _ _ hW.2⟩⟩
def F0 : Nat × Value := (0, .int .i64 0)
def Y4 (F : Fr) : List Nat -> Fr -> Fr
  | [], A => A
  | j :: js, A => Y4 F js (F.getD j F0 :: A)
def obV (P : Program) (n : Nat) (ro : Option Nat) (df : List Deferred) (l : List Oper) (F : Fr) (w0 : World) (i : Nat) (o : Oper) (p : Plan) (b : Fr) : Prop :=
  ∀ w, (p.pure = false -> w0.grownBy w none) -> ∀ R : Fr, WL P n ro df l.toArray [o] (fun _ L' w' => L' = F.getD i F0 :: (Y4 F p.on b ++ R) /\ (if p.pure then w' = w else w.grownBy w' none)) (Y4 F p.on b ++ R) w
def obsV (P : Program) (n : Nat) (ro : Option Nat) (df : List Deferred) (l : List Oper) (F : Fr) (w0 : World) (L : Fr) : Nat -> List Oper -> List Plan -> List Fr -> Prop
  | i, o :: os, p :: ps, b :: bs => (b.map (·.1) = p.slots /\ sub b L /\ obV P n ro df l F w0 i o p b) /\ obsV P n ro df l F w0 L (i + 1) os ps bs
  | _, [], [], [] => True
  | _, _, _, _ => False
def eqV (F : Fr) : Nat -> Value -> World -> Prop := fun i v _ => v = (F.getD i F0).2
theorem Jai {l : List Oper} {F : Fr} {w : World} {K : Fr -> Prop} : ∀ (js : List Nat) (A : Fr), (∀ j ∈ js, (Jv l j).getD 0 = (F.getD j F0).1) -> K (Y4 F js A) -> Ja3 l (eqV F) w K js A
 | [], _, _, h => h
 | j :: js, A, hd, h => by
  intro u hu; have hu : u = (F.getD j F0).2 := hu; have e : ((Jv l j).getD 0, u) = F.getD j F0 := by rw [hd j List.mem_cons_self, hu]
  rw [e]; exact Jai js _ (fun k hk => hd k (List.mem_cons_of_mem _ hk)) h
theorem Jat {P : Program} {n : Nat} {ro : Option Nat} {df : List Deferred} {l : List Oper} {F : Fr} {w0 : World} {L : Fr} {m : Nat} (hd : ∀ j, j < m -> (Jv l j).getD 0 = (F.getD j F0).1) : ∀ (os : List Oper) (ps : List Plan) (bs : List Fr) (i : Nat), i + os.length <= m -> (∀ p ∈ ps, ∀ j ∈ p.on, j < m) ->
  obsV P n ro df l F w0 L i os ps bs -> Ja5 P n ro df l (fun _ => false) (fun _ => none) (fun _ v u => u = v) (eqV F) (fun _ _ _ _ => False) w0 L i os ps bs
 | [], [], [], _, _, _, _ => trivial
 | [], [], _ :: _, _, _, _, h => h.elim
 | [], _ :: _, _, _, _, _, h => h.elim
 | _ :: _, [], _, _, _, _, h => h.elim
 | _ :: _, _ :: _, [], _, _, _, h => h.elim
 | o :: os, p :: ps, b :: bs, i, hi, hp, h => by
  simp only [List.length_cons] at hi; refine ⟨⟨h.1.1, h.1.2.1, fun w hw => Jai _ _ (fun j hj => hd j (hp p List.mem_cons_self j hj)) fun R => ZP (fun df' L' w' ⟨h1, h2⟩ => ?_) (h.1.2.2 w hw R)⟩, Jat hd os ps bs (i + 1) (by omega) (fun q hq => hp q (List.mem_cons_of_mem _ hq)) h.2⟩; refine ⟨(F.getD i F0).2, ?_, h2, rfl, (fun h => Bool.noConfusion h), (fun j h => by cases h)⟩; rw [h1, hd i (by omega)]
theorem ZK {l : List Oper} {vals : Nat -> Value} : ∀ (is : List Nat) (F : Fr), is.map (Jv l) = F.map (fun q => some q.1) -> is.map vals = F.map (·.2) -> (is.filterMap fun i => (Jv l i).map fun t => (t, vals i)) = F
 | [], [], _, _ => rfl
 | [], _ :: _, h, _ => by simp at h
 | _ :: _, [], h, _ => by simp at h
 | i :: is, (t, v) :: F, h, h' => by
  simp only [List.map_cons, List.cons.injEq] at h h'; rw [List.filterMap_cons, h.1]; simp only [Option.map_some]; rw [ZK is F h.2 h'.2, h'.1]
theorem Jdj {P : Program} {n id : Nat} {ro : Option Nat} {df : List Deferred} {l : List Oper} {N : Jy} {B : JL} {L : Fr} {w0 : World} (m : Nat) (ps : List Plan) (bs : List Fr) (F : Fr)
  (hm : P.follows .mixedOrders = true) (hB : (Zy n l ps m && ps.all fun p => p.on.all (Nat.blt · m)) = true) (hlen : F.length = m) (hds : (List.range m).map (Jv l) = F.map (fun q => some q.1))
  (hobs : obsV P n ro df l F w0 L 0 (l.take m) ps bs)
  (hN : ∀ w', w0.grownBy w' none -> WA P n ro df l N (l.length - m) (List.replicate m true ++ List.replicate (l.length - m) false) (F ++ L) w') : W P n ro df (.region id l.toArray true) N B L w0 := by
 rw [Bool.and_eq_true] at hB; obtain ⟨hB, hp⟩ := hB; have hd : ∀ j, j < m -> (Jv l j).getD 0 = (F.getD j F0).1 := by
  intro j hj; have h := congrArg (fun x : List (Option Nat) => x[j]?) hds; simp only [List.getElem?_map, List.getElem?_range hj, Option.map_some] at h; rw [List.getElem?_eq_getElem (by omega : j < F.length)] at h; simp only [Option.map_some, Option.some.injEq] at h; rw [List.getD_eq_getElem?_getD, List.getElem?_eq_getElem (by omega : j < F.length), h]; rfl
 refine Jdi m (fun _ => false) (fun _ => none) (fun _ v u => u = v) ps bs (eqV F) (fun _ _ _ _ => False) hm hB (fun _ _ _ _ h _ => h) (fun _ _ _ _ _ _ _ h => h) (by simp) (Jat hd _ _ _ _ (by simp [List.length_take]; omega) (fun p hp' j hj => ?_) hobs) ?_
 .have := List.all_eq_true.1 hp p hp'
  simpa [Nat.blt_eq] using List.all_eq_true.1 this j hj
 .intro vals w' hw hV _ _; rw [ZK (List.range m) F hds ?_]
  .exact hN w' hw
  .refine List.ext_getElem (by simp [hlen]) fun k h1 h2 => ?_; simp only [List.getElem_map, List.getElem_range]; simp only [List.length_map, List.length_range] at h1 h2; rw [show vals k = (F.getD k F0).2 from hV k h1, List.getD_eq_getElem?_getD, List.getElem?_eq_getElem h2]; rfl
end Go.Proofs.Ytppkigdakobebaa
namespace Go.Proofs.Ytppkigdakobebaa
open Go.RowKit
theorem Jco {P : Program} {n : Nat} {ro : Option Nat} {df : List Deferred} {l : List Oper} {N : Jy} {fuel : Nat} {listed : List Bool} {L : Fr} {w : World} {o : Oper} (i : Nat) (hr : Region.ready .any l.toArray listed.toArray = [i]) (ho : l[i]? = some o)
  (h : WL P n ro df l.toArray [o] (fun _ L' w' => WA P n ro df l N fuel (listed.set i true) L' w') L w) : WA P n ro df l N (fuel + 1) listed L w :=
 WA.step [i] hr rfl fun j hj => by simp only [List.mem_cons, List.not_mem_nil, or_false] at hj; subst hj; exact ⟨_, ho, h⟩
theorem Jf {P : Program} {n : Nat} {ro : Option Nat} {df : List Deferred} {l : List Oper} {N : Jy} {fuel : Nat} {listed : List Bool} {L : Fr} {w : World} {o : Oper} (i : Nat) (ho : l[i]? = some o)
 (h : WL P n ro df l.toArray [o] (fun _ L' w' => WA P n ro df l N fuel (listed.set i true) L' w') L w) (hr : Region.ready .any l.toArray listed.toArray = [i] := by decide +kernel) : WA P n ro df l N (fuel + 1) listed L w := Jco i hr ho h
theorem Qj {P : Program} {n : Nat} {ro : Option Nat} {df : List Deferred} {l : List Oper} {N : Jy} {fuel : Nat} {listed : List Bool} {L : Fr} {w : World} {o p : Oper} (i j : Nat) (ho : l[i]? = some o) (hp : l[j]? = some p)
  (h : WL P n ro df l.toArray [o] (fun _ L' w' => WA P n ro df l N fuel (listed.set i true) L' w') L w) (h2 : WL P n ro df l.toArray [p] (fun _ L' w' => WA P n ro df l N fuel (listed.set j true) L' w') L w) (hr : Region.ready .any l.toArray listed.toArray = [i, j] := by decide +kernel) : WA P n ro df l N (fuel + 1) listed L w :=
 WA.step [i, j] hr rfl fun k hk => by
  simp only [List.mem_cons, List.not_mem_nil, or_false] at hk; rcases hk with rfl | rfl
  .exact ⟨_, ho, h⟩
  .exact ⟨_, hp, h2⟩
theorem Jcp {P : Program} {n : Nat} {ro : Option Nat} {df : List Deferred} {l : List Oper} {N : Jy} {fuel : Nat} {listed : List Bool} {L : Fr} {w : World} {o p q : Oper} (i j k : Nat) (ho : l[i]? = some o) (hp : l[j]? = some p) (hq : l[k]? = some q)
  (h : WL P n ro df l.toArray [o] (fun _ L' w' => WA P n ro df l N fuel (listed.set i true) L' w') L w) (h2 : WL P n ro df l.toArray [p] (fun _ L' w' => WA P n ro df l N fuel (listed.set j true) L' w') L w) (h3 : WL P n ro df l.toArray [q] (fun _ L' w' => WA P n ro df l N fuel (listed.set k true) L' w') L w) (hr : Region.ready .any l.toArray listed.toArray = [i, j, k] := by decide +kernel) : WA P n ro df l N (fuel + 1) listed L w :=
 WA.step [i, j, k] hr rfl fun r hk => by
  simp only [List.mem_cons, List.not_mem_nil, or_false] at hk; rcases hk with rfl | rfl | rfl
  .exact ⟨_, ho, h⟩
  .exact ⟨_, hp, h2⟩
  .exact ⟨_, hq, h3⟩
theorem JH {P : Program} {n : Nat} {ro : Option Nat} {df : List Deferred} {l : List Oper} {N : Jy} {listed : List Bool} {L : Fr} {w : World} (h : N df L w) (hr : Region.ready .any l.toArray listed.toArray = [] := by decide +kernel) : WA P n ro df l N 0 listed L w := Jdf hr h
structure RlH (w : World) (A : Option Addr) (n k : Nat) (hs : Hs) (ls : LL) : Prop where
  out : ∃ B, Rd B w 1 A n k (JX hs ls)
  at__ : ∀ i, i < ls.length -> ∃ B, Rd B w 1 (hs i).1 (ls.getD i []).length (hs i).2 (is (ls.getD i []))
theorem Al.heads {w : World} : ∀ {vs : List Value} {ls : LL}, Al w vs ls -> ∃ hs : Hs, vs = JX hs ls /\ ∀ i, i < ls.length -> ∃ B, Rd B w 1 (hs i).1 (ls.getD i []).length (hs i).2 (is (ls.getD i []))
 | [], [], _ => ⟨fun _ => (none, 0), rfl, fun i hi => absurd hi (Nat.not_lt_zero i)⟩
 | v :: vs, l :: ls, ⟨⟨A, k, B, h1, h2⟩, h3⟩ => by
  obtain ⟨hs, e, h⟩ := Al.heads h3; refine ⟨fun i => match i with | 0 => (A, k) | i + 1 => hs i, ?_, ?_⟩
  .rw [JX, List.mapIdx_cons, h1, e]; rfl
  .intro i hi; cases i with
   | zero => exact ⟨B, h2⟩
   | succ i => exact h i (by simpa using hi)
 | [], _ :: _, h => h.elim
 | _ :: _, [], h => h.elim
theorem Rl.heads {w : World} {A : Option Addr} {n k : Nat} {ls : LL} (h : Rl w A n k ls) : ∃ hs : Hs, RlH w A n k hs ls := by
 obtain ⟨B, cs, h1, h2⟩ := h.ex; obtain ⟨hs, e, h3⟩ := h2.heads; subst e; exact ⟨hs, ⟨B, h1⟩, h3⟩
section
variable {w w' : World} {A : Option Addr} {n k : Nat} {hs : Hs} {ls : LL}
theorem RlH.len (h : RlH w A n k hs ls) : ls.length = n := by
 obtain ⟨B, h1⟩ := h.out; have := h1.len; rw [Z6] at this; omega
theorem Jcb : ∀ {ls : LL} {hs : Hs}, (∀ i, i < ls.length -> ∃ B, Rd B w 1 (hs i).1 (ls.getD i []).length (hs i).2 (is (ls.getD i []))) -> Al w (JX hs ls) ls
 | [], _, _ => trivial
 | l :: ls, hs, h => by
  simp only [JX, List.mapIdx_cons]; obtain ⟨B, h0⟩ := h 0 (by simp); exact ⟨⟨_, _, B, rfl, h0⟩, Jcb (ls := ls) (hs := fun i => hs (i + 1)) (fun i hi => h (i + 1) (by simpa using hi))⟩
theorem RlH.rl (h : RlH w A n k hs ls) : Rl w A n k ls := by
 obtain ⟨B, h1⟩ := h.out; exact ⟨B, _, h1, Jcb h.at__⟩
theorem RlH.ext (h : RlH w A n k hs ls) (hg : w.grownBy w' none) : RlH w' A n k hs ls := by
 obtain ⟨B, h1⟩ := h.out; exact ⟨⟨B, h1.ext hg⟩, fun i hi => by obtain ⟨B, h2⟩ := h.at__ i hi; exact ⟨B, h2.ext hg⟩⟩
theorem RlH.cell (h : RlH w A n k hs ls) {I : Int} (hI : 0 <= I /\ I < (n : Nat)) : w.cell? ((Qc A).add I.toNat) = some (.slice (hs I.toNat).1 (gl ls I).length (hs I.toNat).2) := by
 have hl := h.len; obtain ⟨B, h1⟩ := h.out; exact h1.at_ (Jba hs ls (by omega))
theorem RlH.row (h : RlH w A n k hs ls) {I : Int} (hI : 0 <= I /\ I < (n : Nat)) : Rd w.heap.size w 1 (hs I.toNat).1 (gl ls I).length (hs I.toNat).2 (is (gl ls I)) := by
  have hl := h.len
  obtain ⟨B, h1⟩ := h.at__ I.toNat (by omega)
  exact h1.norm
theorem RlH.nil (w : World) : RlH w none 0 0 (fun _ => (none, 0)) [] := ⟨⟨0, Rd.nil (by simp only [maxLen]; omega)⟩, fun i hi => absurd hi (Nat.not_lt_zero i)⟩
end
abbrev Mt := Int × LL
def gm (ms : List Mt) (i : Int) : Mt := ms.getD i.toNat (0, [])
def Am (w : World) : List Value -> List Mt -> Prop
  | [], [] => True
  | u :: v :: vs, (c, l) :: ls => u = .int .i64 c /\ (∃ A k, v = .slice A l.length k /\ Rl w A l.length k l) /\ Am w vs ls
  | _, _ => False
structure Rm (w : World) (A : Option Addr) (n k : Nat) (ms : List Mt) : Prop where
  ex : ∃ B cs, Rd B w 2 A n k cs /\ Am w cs ms
abbrev HM := Nat -> (Option Addr × Nat) × Hs
def Qz (H : HM) (ms : List Mt) : List Value := (ms.mapIdx fun i m => [Value.int .i64 m.1, .slice (H i).1.1 m.2.length (H i).1.2]).flatten
structure RmH (w : World) (A : Option Addr) (n k : Nat) (H : HM) (ms : List Mt) : Prop where
  out : ∃ B, Rd B w 2 A n k (Qz H ms)
  at__ : ∀ i, i < ms.length -> RlH w (H i).1.1 (ms.getD i (0, [])).2.length (H i).1.2 (H i).2 (ms.getD i (0, [])).2
theorem J9 (H : HM) (m : Mt) (ms : List Mt) : Qz H (m :: ms) = .int .i64 m.1 :: .slice (H 0).1.1 m.2.length (H 0).1.2 :: Qz (fun i => H (i + 1)) ms := by
 simp [Qz, List.mapIdx_cons]
theorem YO : ∀ (ms : List Mt) (H : HM), (Qz H ms).length = ms.length * 2
 | [], _ => rfl
 | m :: ms, H => by rw [J9, List.length_cons, List.length_cons, YO ms, List.length_cons]; omega
theorem Zb : ∀ (ms : List Mt) (H : HM) (i : Nat), i < ms.length -> (Qz H ms)[i * 2]? = some (.int .i64 (ms.getD i (0, [])).1) /\ (Qz H ms)[i * 2 + 1]? = some (.slice (H i).1.1 (ms.getD i (0, [])).2.length (H i).1.2)
 | [], _, i, h => absurd h (Nat.not_lt_zero i)
 | m :: ms, H, 0, _ => by rw [J9]; exact ⟨rfl, rfl⟩
 | m :: ms, H, i + 1, h => by
  rw [J9, show (i + 1) * 2 = i * 2 + 1 + 1 by omega]; exact Zb ms (fun i => H (i + 1)) i (by simpa using h)
theorem Am.heads {w : World} : ∀ {ms : List Mt} {vs : List Value}, Am w vs ms -> ∃ H : HM, vs = Qz H ms /\ ∀ i, i < ms.length -> RlH w (H i).1.1 (ms.getD i (0, [])).2.length (H i).1.2 (H i).2 (ms.getD i (0, [])).2
 | [], [], _ => ⟨fun _ => ((none, 0), fun _ => (none, 0)), rfl, fun i hi => absurd hi (Nat.not_lt_zero i)⟩
 | (c, l) :: ms, u :: v :: vs, ⟨h1, ⟨A, k, h2, h3⟩, h4⟩ => by
  obtain ⟨H, e, h⟩ := Am.heads h4; obtain ⟨hs, h5⟩ := h3.heads; refine ⟨fun i => match i with | 0 => ((A, k), hs) | i + 1 => H i, ?_, ?_⟩
  .rw [J9, h1, h2, e]
  .intro i hi; cases i with
   | zero => exact h5
   | succ i => exact h i (by simpa using hi)
 | (_, _) :: _, [], h => absurd h (by simp [Am])
 | (_, _) :: _, [_], h => absurd h (by simp [Am])
 | [], _ :: _, h => absurd h (by simp [Am])
theorem Rm.heads {w : World} {A : Option Addr} {n k : Nat} {ms : List Mt} (h : Rm w A n k ms) : ∃ H, RmH w A n k H ms := by
 obtain ⟨B, cs, h1, h2⟩ := h.ex; obtain ⟨H, e, h3⟩ := h2.heads; subst e; exact ⟨H, ⟨B, h1⟩, h3⟩
section
variable {w w' : World} {A : Option Addr} {n k : Nat} {H : HM} {ms : List Mt}
theorem RmH.len (h : RmH w A n k H ms) : ms.length = n := by
 obtain ⟨B, h1⟩ := h.out; have := h1.len; rw [YO] at this; omega
theorem RmH.ext (h : RmH w A n k H ms) (hg : w.grownBy w' none) : RmH w' A n k H ms := by
 obtain ⟨B, h1⟩ := h.out; exact ⟨⟨B, h1.ext hg⟩, fun i hi => (h.at__ i hi).ext hg⟩
theorem am_of : ∀ {ms : List Mt} {H : HM}, (∀ i, i < ms.length -> RlH w (H i).1.1 (ms.getD i (0, [])).2.length (H i).1.2 (H i).2 (ms.getD i (0, [])).2) -> Am w (Qz H ms) ms
 | [], _, _ => trivial
 | (c, l) :: ms, H, h => by
  rw [J9]; exact ⟨rfl, ⟨_, _, rfl, (h 0 (by simp)).rl⟩, am_of (ms := ms) (H := fun i => H (i + 1)) (fun i hi => h (i + 1) (by simpa using hi))⟩
theorem RmH.rm (h : RmH w A n k H ms) : Rm w A n k ms := by
 obtain ⟨B, h1⟩ := h.out; exact ⟨B, _, h1, am_of h.at__⟩
theorem Rm.ext (h : Rm w A n k ms) (hg : w.grownBy w' none) : Rm w' A n k ms := by
 obtain ⟨H, h⟩ := h.heads; exact (h.ext hg).rm
theorem Rm.len (h : Rm w A n k ms) : ms.length = n := by
 obtain ⟨H, h⟩ := h.heads; exact h.len
theorem RmH.row (h : RmH w A n k H ms) {I : Int} (hI : 0 <= I /\ I < (n : Nat)) : RlH w (H I.toNat).1.1 (gm ms I).2.length (H I.toNat).1.2 (H I.toNat).2 (gm ms I).2 := h.at__ _ (by have := h.len; omega)
theorem RmH.cells (h : RmH w A n k H ms) {I : Int} (hI : 0 <= I /\ I < (n : Nat)) : Rd w.heap.size w 2 (some ((Qc A).add (I.toNat * 2))) 1 1 [.int .i64 (gm ms I).1, .slice (H I.toNat).1.1 (gm ms I).2.length (H I.toNat).1.2] := by
  have hl := h.len
  obtain ⟨B, h1⟩ := h.out
  obtain ⟨ad, e, h2, h3⟩ := (h1.norm).cells (by omega)
  subst e
  obtain ⟨c1, c2⟩ := Zb ms H I.toNat (by omega)
  refine ⟨rfl, Nat.le_refl _, by simp [maxLen], fun _ => ⟨_, rfl, by rw [Qg]; exact h2, fun j u hj => ?_⟩⟩
  rw [Zn]
  match j with
  | 0 => cases hj; exact h3 _ _ c1
  | 1 => cases hj; exact h3 _ _ c2
  | j + 2 => simp at hj
end
def vbD : Value -> World -> Nat -> Prop := fun v _ g => vb v = some g
section
variable {w w' : World} {A : Option Addr} {eS eI m c : Nat} {hs : Hs} {ls : LL} {b : Nat} {mr : Option Nat}
end
section
variable {X : World -> Prop} {w0 w w' wS : World} {mr : Option Nat} {R R0 : List Rw} {eS eI m c : Nat} {A : Option Addr} {hs : Hs} {ls : LL}
theorem St.n0 (h : St X w0 mr w ([] ++ R)) : St X w0 mr w R := h
theorem St.n1 {a : Rw} (h : St X w0 mr w ([a] ++ R)) : St X w0 mr w (a :: R) := h
theorem St.n2 {a b : Rw} (h : St X w0 mr w ([a, b] ++ R)) : St X w0 mr w (a :: b :: R) := h
def Tl (R0 R : List Rw) : Prop := ∃ L, R = L ++ R0
theorem Tl.mem (h : Tl R0 R) {r : Rw} (hr : r ∈ R0) : r ∈ R := by obtain ⟨L, rfl⟩ := h; exact List.mem_append_right _ hr
end
section
variable {P : Program} {n : Nat} {ro : Option Nat} {df : List Deferred} {N : Jy} {L : Fr} {w w0 : World} {ops : Array Oper} {rest : List Oper}
variable {d : Nat} {ty : TypeId} {pos : String} {af : Array Edge} {X : World -> Prop} {mr : Option Nat} {R : List Rw} {eS eI m c : Nat} {A : Option Addr} {hs : Hs} {ls : LL}
end
theorem Rm.nil (w : World) : Rm w none 0 0 [] := ⟨0, [], Rd.nil (by simp only [maxLen]; omega), trivial⟩
theorem Jbx {w : World} {A : Option Addr} {n k : Nat} {ls : LL} (h : Rl w A n k ls) {J : Int} (hJ : 0 <= J /\ J <= (n : Nat)) : J.toNat = (ls.take J.toNat).length := by
 have := h.len; rw [List.length_take]; omega
theorem Al.take {w : World} : ∀ {vs : List Value} {ls : LL} (k : Nat), Al w vs ls -> Al w (vs.take k) (ls.take k)
 | [], [], k, _ => by simp [Al]
 | v :: vs, l :: ls, 0, _ => trivial
 | v :: vs, l :: ls, k + 1, h => ⟨h.1, Al.take k h.2⟩
 | [], _ :: _, _, h => h.elim
 | _ :: _, [], _, h => h.elim
theorem Rl.take {w : World} {A : Option Addr} {n k : Nat} {ls : LL} (h : Rl w A n k ls) {J : Int} (hJ : 0 <= J /\ J <= (n : Nat)) : Rl w A (ls.take J.toNat).length k (ls.take J.toNat) := by
 have hl := Jbx h hJ; obtain ⟨B, cs, h1, h2⟩ := h.ex; have h3 := h1.take (k := J.toNat) (by omega); rw [Nat.mul_one] at h3; rw [<- hl]; exact ⟨B, _, h3, h2.take _⟩
end Go.Proofs.Ytppkigdakobebaa
namespace Go.Proofs.Ytppkigdakobebaa
open Go.RowKit
/-! ### many plain steps as one -/
def opv (L : Fr) : Op -> Option Value
  | .move x => ev L x
  | .assign x => ev L x
  | .pick c x y => match ev L c with
    | some (.bool b) => ev L (bif b then x else y)
    | _ => none
  | .extract x i => match ev L x with
    | some (.tuple vs) => vs[i]?
    | _ => none
  | .unOp .not _ x => match ev L x with
    | some (.bool b) => some (.bool !b)
    | _ => none
  | .binOp .lss _ x y _ => match ev L x, ev L y with
    | some (.int .i64 a), some (.int .i64 b) => some (.bool (decide (a < b)))
    | _, _ => none
  | .binOp .leq _ x y _ => match ev L x, ev L y with
    | some (.int .i64 a), some (.int .i64 b) => some (.bool (decide (a <= b)))
    | _, _ => none
  | .binOp .gtr _ x y _ => match ev L x, ev L y with
    | some (.int .i64 a), some (.int .i64 b) => some (.bool (decide (b < a)))
    | _, _ => none
  | .binOp .geq _ x y _ => match ev L x, ev L y with
    | some (.int .i64 a), some (.int .i64 b) => some (.bool (decide (b <= a)))
    | _, _ => none
  | .binOp .eql _ x y _ => match ev L x, ev L y with
    | some (.int .i64 a), some (.int .i64 b) => some (.bool (decide (a = b)))
    | _, _ => none
  | .binOp .neq _ x y _ => match ev L x, ev L y with
    | some (.int .i64 a), some (.int .i64 b) => some (.bool (decide (a ≠ b)))
    | _, _ => none
  | .nilCheck x => match ev L x with
    | some (.pointer (some p)) => some (.pointer (some p))
    | _ => none
  | _ => none
inductive Stp
  | val (L : Fr)
  | opr (o : Oper)
  | no
def stp (all : Array Oper) (n : Nat) (L : Fr) : Oper -> Stp
  | ⟨some d, op, ty, ps, af, some (j, want)⟩ => match (all[j]?.bind (·.dst)).bind (lk L) with
    | some (.bool b) => bif b == want then .opr ⟨some d, op, ty, ps, af, none⟩ else bif Nat.blt d n then .val ((d, undef) :: L) else .no
    | _ => .no
  | ⟨some d, op, ty, ps, af, none⟩ => match opv L op with
    | some v => bif Nat.blt d n then .val ((d, v) :: L) else .no
    | none => .no
  | _ => .no
inductive Gs
  | C (c : Code)
  | R (all : Array Oper) (rest : List Oper)
section
variable (P : Program) (n : Nat) (ro : Option Nat) (df : List Deferred) (N : Jy) (B : JL)
def Ns : List Code -> Jy
  | [] => N
  | c :: st => fun df L w => W P n ro df c (Ns st) B L w
def goS (w : World) : Nat -> List Code -> Gs -> Fr -> Prop
  | 0, st, .C c, L => W P n ro df c (Ns P n ro N B st) B L w
  | 0, st, .R all rest, L => WL P n ro df all rest (Ns P n ro N B st) L w
  | k + 1, st, .C (.seq a b), L => goS w k (b :: st) (.C a) L
  | k + 1, st, .C (.region _ ops false), L => goS w k st (.R ops ops.toList) L
  | k + 1, b :: st, .C .skip, L => goS w k st (.C b) L
  | _ + 1, [], .C .skip, L => N df L w
  | _ + 1, [], .R _ [], L => N df L w
  | k + 1, b :: st, .R _ [], L => goS w k st (.C b) L
  | k + 1, st, .R all (o :: rest), L => match stp all n L o with
    | .val L' => goS w k st (.R all rest) L'
    | .opr o' => goS w k st (.R all (o' :: rest)) L
    | .no => False
  | _, _, _, _ => False
end
section
variable {P : Program} {n : Nat} {ro : Option Nat} {df : List Deferred} {N : Jy} {B : JL} {L : Fr} {w : World} {all : Array Oper} {rest : List Oper}
theorem Yn {d : Nat} {op : Op} {ty : TypeId} {ps : String} {af : Array Edge} {v : Value} (hv : opv L op = some v) (hn : Nat.blt d n = true) (h : WL P n ro df all rest N ((d, v) :: L) w) :
  WL P n ro df all (⟨some d, op, ty, ps, af, none⟩ :: rest) N L w := by
 unfold opv at hv; split at hv
 .exact Jd hv hn h
 .exact JG hv hn h
 .split at hv
  .rename_i hc; exact WL.pick hc hv hn h
  .cases hv
 .split at hv
  .rename_i hc; exact Jac hc hv hn h
  .cases hv
 .split at hv
  .rename_i hc; cases hv; exact Jab hc hn h
  .cases hv
 .split at hv
  .rename_i h1 h2; cases hv; exact Zq h1 h2 hn h
  .cases hv
 .split at hv
  .rename_i h1 h2; cases hv; exact Jdb h1 h2 hn h
  .cases hv
 .split at hv
  .rename_i h1 h2; cases hv; exact Qe h1 h2 hn h
  .cases hv
 .split at hv
  .rename_i h1 h2; cases hv; exact Jdc h1 h2 hn h
  .cases hv
 .split at hv
  .rename_i h1 h2; cases hv; exact Jdd h1 h2 hn h
  .cases hv
 .split at hv
  .rename_i h1 h2; cases hv; exact QE h1 h2 hn h
  .cases hv
 .split at hv
  .rename_i h1; cases hv; exact ZO h1 hn h
  .cases hv
 .cases hv
theorem stp_ok {o : Oper} : (∀ L', stp all n L o = .val L' -> WL P n ro df all rest N L' w -> WL P n ro df all (o :: rest) N L w) /\ (∀ o', stp all n L o = .opr o' -> WL P n ro df all (o' :: rest) N L w -> WL P n ro df all (o :: rest) N L w) := by
 obtain ⟨dst, op, ty, ps, af, g⟩ := o; cases dst with
 | none => exact ⟨fun _ h => by simp [stp] at h, fun _ h => by simp [stp] at h⟩
 | some d =>
  cases g with
  | none =>
   refine ⟨fun L' h hw => ?_, fun o' h => ?_⟩
   .simp only [stp] at h; split at h
    .rename_i v hv
     cases hn : Nat.blt d n <;> rw [hn] at h
     .cases h
     .cases h; exact Yn hv hn hw
    .cases h
   .simp only [stp] at h; split at h
    .cases hn : Nat.blt d n <;> rw [hn] at h <;> cases h
    .cases h
  | some jw =>
   obtain ⟨j, want⟩ := jw; refine ⟨fun L' h hw => ?_, fun o' h hw => ?_⟩
   .simp only [stp] at h; split at h
    .rename_i b hb
     cases hbw : (b == want) <;> rw [hbw] at h
     .cases hn : Nat.blt d n <;> rw [hn] at h
      .cases h
      .cases h; exact Jay hb hbw hn hw
     .cases h
    .cases h
   .simp only [stp] at h; split at h
    .rename_i b hb
     cases hbw : (b == want) <;> rw [hbw] at h
     .cases hn : Nat.blt d n <;> rw [hn] at h <;> cases h
     .cases h; have e : b = want := by simpa using hbw
      subst e; exact WL.take hb hw
    .cases h
def Gs.prop (P : Program) (n : Nat) (ro : Option Nat) (df : List Deferred) (N : Jy) (B : JL) (L : Fr) (w : World) (st : List Code) : Gs -> Prop
  | .C c => W P n ro df c (Ns P n ro N B st) B L w
  | .R all rest => WL P n ro df all rest (Ns P n ro N B st) L w
theorem QL : ∀ (k : Nat) (st : List Code) (s : Gs) (L : Fr), goS P n ro df N B w k st s L -> s.prop P n ro df N B L w st
 | 0, _, .C _, _, h => h
 | 0, _, .R _ _, _, h => h
 | k + 1, st, .C (.seq a b), L, h => Jz (QL k (b :: st) (.C a) L h)
 | k + 1, st, .C (.region i ops false), L, h => by
  have := QL k st (.R ops ops.toList) L h; have := JS (B := B) (id := i) (l := ops.toList) this; exact this
 | k + 1, b :: st, .C .skip, L, h => Jh (QL k st (.C b) L h)
 | _ + 1, [], .C .skip, L, h => Jh h
 | _ + 1, [], .R _ [], L, h => Ja h
 | k + 1, b :: st, .R _ [], L, h => Ja (QL k st (.C b) L h)
 | k + 1, st, .R all (o :: rest), L, h => by
  have hs := stp_ok (P := P) (ro := ro) (df := df) (N := Ns P n ro N B st) (w := w) (all := all) (n := n) (L := L) (o := o) (rest := rest); unfold goS at h; split at h
  .rename_i L' e; exact hs.1 L' e (QL k st (.R all rest) L' h)
  .rename_i o' e; exact hs.2 o' e (QL k st (.R all (o' :: rest)) L h)
  .exact h.elim
/-- k plain steps. -/
theorem Je {c : Code} (k : Nat) (h : goS P n ro df N B w k [] (.C c) L) : W P n ro df c N B L w := QL k [] (.C c) L h
theorem Jb (k : Nat) (h : goS P n ro df N (fun _ _ _ _ => False) w k [] (.R all rest) L) : WL P n ro df all rest N L w := QL k [] (.R all rest) L h
end
end Go.Proofs.Ytppkigdakobebaa
namespace Go.Proofs.Ytppkigdakobebaa
open Go.RowKit
structure SInv (n : Nat) (df : List Deferred) (l : List Oper) (F : Fr) (q : Nat -> Option Nat) (T : Nat) (G : Nat -> World -> Prop) (L : Fr) (d : Nat -> Bool) (a : Act) (w : World) : Prop where
  nd : a.defers = df
  sz : a.tmps.size = n
  old : ∀ t v, lk L t = some v -> (∀ k, d k = true -> Jv l k ≠ some t) -> a.tmps[t]? = some v
  new : ∀ k t, d k = true -> Jv l k = some t -> a.tmps[t]? = some (F.getD k F0).2
  st : ∃ s, s <= T /\ G s w /\ ∀ i r, i < l.length -> q i = some r -> (d i = true ↔ r < s)
  cl : ∀ k, d k = true -> ∀ j ∈ JJ l k, d j = true
  lt : ∀ k, d k = true -> k < l.length
end Go.Proofs.Ytppkigdakobebaa
namespace Go.Proofs.Ytppkigdakobebaa
open Go.RowKit
section
variable {P : Program} {n : Nat} {ro : Option Nat} {df : List Deferred} {N : Jy} {L : Fr} {w : World} {ops : Array Oper} {rest : List Oper}
variable {d : Nat} {ty : TypeId} {pos : String} {af : Array Edge}
end
end Go.Proofs.Ytppkigdakobebaa
namespace Go.Proofs.Ytppkigdakobebaa
open Go.RowKit
/-! ### regions that draw their order: known values beside values with memory -/
/-- What an operation yields into its slot: a known value, or one that something is known of. -/
inductive Ent
  | k (d : Nat) (v : Value)
  | m (d : Nat) (Pr : Value -> World -> Prop) (h : ∀ v w1 w2, Pr v w1 -> w1.grownBy w2 none -> Pr v w2)
def Ent.d : Ent -> Nat
  | .k d _ => d
  | .m d _ _ => d
def Ent.V : Ent -> Value -> World -> Prop
  | .k _ v => fun u _ => u = v
  | .m _ Pr _ => Pr
def Ent.val : Ent -> Value -> Value
  | .k _ v, _ => v
  | .m _ _ _, u => u
def E0 : Ent := .k 0 (.int .i64 0)
def eV (F : List Ent) : Nat -> Value -> World -> Prop := fun i => (F.getD i E0).V
/-- A row of the call's own, in a value made of it. -/
def eO (w : World) (d e m : Nat) (f : Option Addr -> Nat -> Value) (cs : List Value) : Ent :=
  .m d (fun v wQ => ∃ A k, v = f A k /\ Own 0 wQ e 1 A m k cs /\ ∀ g, bl A = some g -> w.heap.size <= g) fun _ _ _ ⟨A, k, h1, h2, h3⟩ hg => ⟨A, k, h1, h2.ext hg, h3⟩
def eS (w : World) (d e m : Nat) (cs : List Value) : Ent := eO w d e m (fun A k => .slice A m k) cs
def QX (F : List Ent) (w : World) (K : Fr -> Prop) : List Nat -> Fr -> Prop
  | [], A => K A
  | j :: js, A => match F.getD j E0 with
    | .k d v => QX F w K js ((d, v) :: A)
    | .m d Pr _ => ∀ u, Pr u w -> QX F w K js ((d, u) :: A)
def Y1 (L : Fr) : List Nat -> Fr
  | [] => []
  | t :: ts => (t, (lk L t).getD (.int .i64 0)) :: Y1 L ts
def obY (P : Program) (n : Nat) (ro : Option Nat) (df : List Deferred) (l : List Oper) (al : Nat -> Bool) (cp : Nat -> Option Nat) (ph : Nat -> Value -> Value -> Prop) (F : List Ent) (D : Nat -> Value -> World -> Nat -> Prop) (w0 : World) (i : Nat) (o : Oper) (p : Plan) (base : Fr) : Prop :=
  ∀ w, (p.pure = false -> w0.grownBy w none) -> QX F w (fun A => ∀ R : Fr, WL P n ro df l.toArray [o]
    (fun _ L' w' => match F.getD i E0 with
      | .k d v => L' = (d, v) :: (A ++ R) /\ (if p.pure then w' = w else w.grownBy w' none)
      | .m d Pr _ => ∃ u, L' = (d, u) :: (A ++ R) /\ (if p.pure then w' = w else w.grownBy w' none) /\ Pr u w' /\ (al i = true -> ∀ g, D i u w' g -> w.heap.size <= g /\ g < w'.heap.size) /\ (∀ j, cp i = some j -> ∃ u', lk (A ++ R) (F.getD j E0).d = some u' /\ ph i u' u)) (A ++ R) w) p.on base
def obsY (P : Program) (n : Nat) (ro : Option Nat) (df : List Deferred) (l : List Oper) (al : Nat -> Bool) (cp : Nat -> Option Nat) (ph : Nat -> Value -> Value -> Prop) (F : List Ent) (D : Nat -> Value -> World -> Nat -> Prop) (w0 : World) (L : Fr) : Nat -> List Oper -> List Plan -> Prop
  | i, o :: os, p :: ps => obY P n ro df l al cp ph F D w0 i o p (Y1 L p.slots) /\ obsY P n ro df l al cp ph F D w0 L (i + 1) os ps
  | _, [], [] => True
  | _, _, _ => False
def frY (X : List Nat) (vals : Nat -> Value) : Nat -> List Ent -> Fr
  | _, [] => []
  | i, e :: F => bif X.contains i then frY X vals (i + 1) F else (e.d, e.val (vals i)) :: frY X vals (i + 1) F
def kcB (al : Nat -> Bool) (cp : Nat -> Option Nat) : Nat -> List Ent -> Bool
  | _, [] => true
  | i, .k _ _ :: F => !al i && (cp i).isNone && kcB al cp (i + 1) F
  | i, .m _ _ _ :: F => kcB al cp (i + 1) F
theorem Z4 {al : Nat -> Bool} {cp : Nat -> Option Nat} : ∀ (F : List Ent) (i k : Nat) {d : Nat} {v : Value}, kcB al cp i F = true -> F[k]? = some (.k d v) -> al (i + k) = false /\ cp (i + k) = none
 | [], _, _, _, _, _, h => by simp at h
 | .k d v :: F, i, 0, _, _, h, e => by
  simp only [kcB, Bool.and_eq_true, Bool.not_eq_true', Option.isNone_iff_eq_none] at h; exact h.1
 | .m d Pr hh :: F, i, 0, _, _, h, e => by simp at e
 | .k d v :: F, i, k + 1, _, _, h, e => by
  simp only [kcB, Bool.and_eq_true] at h; have := Z4 F (i + 1) k h.2 (by simpa using e); rw [show i + (k + 1) = i + 1 + k by omega]; exact this
 | .m d Pr hh :: F, i, k + 1, _, _, h, e => by
  simp only [kcB] at h; have := Z4 F (i + 1) k h (by simpa using e); rw [show i + (k + 1) = i + 1 + k by omega]; exact this
theorem Q1 (L : Fr) : ∀ ts : List Nat, (Y1 L ts).map (·.1) = ts
 | [] => rfl
 | t :: ts => by simp [Y1, Q1 L ts]
theorem YU (L : Fr) : ∀ ts : List Nat, (ts.all fun t => (lk L t).isSome) = true -> sub (Y1 L ts) L
 | [], _ => trivial
 | t :: ts, h => by
  simp only [List.all_cons, Bool.and_eq_true] at h; refine ⟨?_, YU L ts h.2⟩; cases e : lk L t with
  | none => rw [e] at h; exact absurd h.1 (by simp)
  | some v => rfl
theorem YH {l : List Oper} {F : List Ent} {w : World} {K : Fr -> Prop} : ∀ (js : List Nat) (A : Fr), (∀ j ∈ js, (Jv l j).getD 0 = (F.getD j E0).d) -> QX F w K js A -> Ja3 l (eV F) w K js A
 | [], _, _, h => h
 | j :: js, A, hd, h => by
  intro u hu; unfold eV at hu; unfold QX at h; have hd1 := hd j List.mem_cons_self; rw [hd1]; cases e : F.getD j E0 with
  | k d v =>
   rw [e] at hu h; obtain rfl : u = v := hu; exact YH js _ (fun q hq => hd q (List.mem_cons_of_mem _ hq)) h
  | m d Pr hh =>
   rw [e] at hu h; exact YH js _ (fun q hq => hd q (List.mem_cons_of_mem _ hq)) (h u hu)
theorem QY {F : List Ent} {w : World} {K K' : Fr -> Prop} (h : ∀ A, K A -> K' A) : ∀ (js : List Nat) (A : Fr), QX F w K js A -> QX F w K' js A
 | [], _, hk => h _ hk
 | j :: js, A, hk => by
  unfold QX at hk ⊢; cases e : F.getD j E0 with
  | k d v => rw [e] at hk; exact QY h js _ hk
  | m d Pr hh => rw [e] at hk; exact fun u hu => QY h js _ (hk u hu)
theorem ZF {P : Program} {n : Nat} {ro : Option Nat} {df : List Deferred} {l : List Oper} {al : Nat -> Bool} {cp : Nat -> Option Nat} {ph : Nat -> Value -> Value -> Prop} {F : List Ent} {D : Nat -> Value -> World -> Nat -> Prop} {w0 : World} {L : Fr} {m : Nat}
  (hd : ∀ j, j < m -> (Jv l j).getD 0 = (F.getD j E0).d) (hF : F.length = m) (hk : kcB al cp 0 F = true) (hcp : ∀ i j, i < m -> cp i = some j -> j < m) : ∀ (os : List Oper) (ps : List Plan) (i : Nat), i + os.length <= m -> (∀ p ∈ ps, ∀ j ∈ p.on, j < m) -> (∀ p ∈ ps, (p.slots.all fun t => (lk L t).isSome) = true) ->
  obsY P n ro df l al cp ph F D w0 L i os ps -> Ja5 P n ro df l al cp ph (eV F) D w0 L i os ps (ps.map fun p => Y1 L p.slots)
 | [], [], _, _, _, _, _ => trivial
 | [], _ :: _, _, _, _, _, h => h.elim
 | _ :: _, [], _, _, _, _, h => h.elim
 | o :: os, p :: ps, i, hi, hp, hs, h => by
  simp only [List.length_cons] at hi; refine ⟨⟨Q1 _ _, YU _ _ (hs p List.mem_cons_self), fun w hw => YH _ _ (fun j hj => hd j (hp p List.mem_cons_self j hj)) (QY (fun A hA R => ZP (fun df' L' w' hh => ?_) (hA R)) _ _ (h.1 w hw))⟩, ZF hd hF hk hcp os ps (i + 1) (by omega) (fun q hq => hp q (List.mem_cons_of_mem _ hq)) (fun q hq => hs q (List.mem_cons_of_mem _ hq)) h.2⟩; have hgi : F[i]? = some (F.getD i E0) := by
   rw [List.getD_eq_getElem?_getD, List.getElem?_eq_getElem (by omega : i < F.length)]; rfl
  rw [hd i (by omega)]; unfold eV; cases e : F.getD i E0 with
  | k d v =>
   rw [e] at hh hgi; obtain ⟨h1, h2⟩ := Z4 F 0 i hk hgi; rw [Nat.zero_add] at h1 h2; exact ⟨v, hh.1, hh.2, rfl, (fun h => by rw [h1] at h; cases h), (fun j h => by rw [h2] at h; cases h)⟩
  | m d Pr hm_ =>
   rw [e] at hh; obtain ⟨u, h1, h2, h3, h4, h5⟩ := hh; exact ⟨u, h1, h2, h3, h4, fun j hj => by rw [hd j (hcp i j (by omega) hj)]; exact h5 j hj⟩
theorem Jb2 {X : List Nat} {vals : Nat -> Value} {w : World} (f : Nat -> Option Nat) : ∀ (F : List Ent) (i : Nat), (∀ k e, F[k]? = some e -> f (i + k) = some e.d /\ (X.contains (i + k) = false -> e.V (vals (i + k)) w)) ->
  ((List.range' i F.length).filterMap fun i => if X.contains i = true then none else (f i).map fun t => (t, vals i)) = frY X vals i F
 | [], _, _ => rfl
 | e :: F, i, h => by
  have ih := Jb2 f F (i + 1) (fun k e' hk => by
   have := h (k + 1) e' (by simpa using hk); rw [show i + 1 + k = i + (k + 1) by omega]; exact this)
  obtain ⟨h1, h2⟩ := h 0 e rfl; rw [Nat.add_zero] at h1 h2; rw [List.length_cons, List.range'_succ, List.filterMap_cons]; unfold frY; cases hc : X.contains i with
  | true => simp only [if_true, cond_true]; exact ih
  | false =>
   have := h2 hc; simp only [Bool.false_eq_true, if_false, cond_false, h1, Option.map_some]; rw [ih]; cases e with
   | k d v => rw [show vals i = v from this]; rfl
   | m d Pr hh => rfl
theorem Zs {P : Program} {n id : Nat} {ro : Option Nat} {df : List Deferred} {l : List Oper} {N : Jy} {B : JL} {L : Fr} {w0 : World} (m : Nat) (fs : List Nat) (al : Nat -> Bool) (cp : Nat -> Option Nat) (ph : Nat -> Value -> Value -> Prop) (ps : List Plan) (F : List Ent) (D : Nat -> Value -> World -> Nat -> Prop)
  (hm : P.follows .mixedOrders = true) (hB : (Zx n l ps m fs && (List.range m).all (fun i => match cp i with | none => true | some j => Nat.blt j m && (JJ l i).contains j) && ps.all fun p => p.on.all (Nat.blt · m)) = true)
  (hds : (List.range m).map (Jv l) = F.map (fun e => some e.d)) (hk : (kcB al cp 0 F && ps.all fun p => p.slots.all fun t => (lk L t).isSome) = true)
  (hD : ∀ j v w1 w2, eV F j v w1 -> w1.grownBy w2 none -> ∀ g, D j v w2 g -> D j v w1 g)
  (hobs : obsY P n ro df l al cp ph F D w0 L 0 (l.take m) ps)
  (hN2 : ∀ X ∈ Zz fs, ∀ (vals : Nat -> Value) w', w0.grownBy w' none -> (∀ i, i < m -> X.contains i = false -> eV F i (vals i) w') -> (∀ j k, j ≠ k -> j < m -> k < m -> X.contains j = false -> X.contains k = false -> al j = true -> al k = true -> ∀ g, D j (vals j) w' g -> ¬ D k (vals k) w' g) -> (∀ i j, i < m -> X.contains i = false -> cp i = some j -> ph i (vals j) (vals i)) -> ∀ q, q = (((List.range l.length).map fun k => Nat.blt k m && !(X.contains k)).filter (!·)).length ->
   WA P n ro df l N q ((List.range l.length).map fun k => Nat.blt k m && !(X.contains k)) (frY X vals 0 F ++ L) w') : W P n ro df (.region id l.toArray true) N B L w0 := by
 simp only [Bool.and_eq_true] at hB hk; obtain ⟨⟨hB, hcp⟩, hp⟩ := hB; have hF : F.length = m := by have := congrArg List.length hds; simpa using this.symm
 have hd1 : ∀ k e, F[k]? = some e -> Jv l k = some e.d := by
  intro k e he; have h := congrArg (fun x : List (Option Nat) => x[k]?) hds; have hk' : k < m := by rw [<- hF]; exact (List.getElem?_eq_some_iff.1 he).1
  simp only [List.getElem?_map, List.getElem?_range hk', Option.map_some, he, Option.some.injEq] at h; exact h
 have hd : ∀ j, j < m -> (Jv l j).getD 0 = (F.getD j E0).d := by
  intro j hj; have e1 : F[j]? = some (F.getD j E0) := by
   rw [List.getD_eq_getElem?_getD, List.getElem?_eq_getElem (by omega : j < F.length)]; rfl
  rw [hd1 j _ e1]; rfl
 have hcp1 : ∀ i j, i < m -> cp i = some j -> j < m /\ (JJ l i).contains j = true := fun i j hi hj => by
  have := List.all_eq_true.1 hcp i (List.mem_range.2 hi); rw [hj] at this; simp only [Bool.and_eq_true] at this; exact ⟨by simpa [Nat.blt_eq] using this.1, this.2⟩
 have hV : ∀ j v w1 w2, eV F j v w1 -> w1.grownBy w2 none -> eV F j v w2 := by
  intro j v w1 w2 h1 hg; unfold eV at h1 ⊢; cases e : F.getD j E0 with
  | k d u => rw [e] at h1; exact h1
  | m d Pr hh => rw [e] at h1; exact hh v w1 w2 h1 hg
 refine ZR m fs al cp ph ps (ps.map fun p => Y1 L p.slots) (eV F) D hm hB hV hD (List.all_eq_true.2 fun i hi => ?_) (ZF hd hF hk.1 (fun i j hi hj => (hcp1 i j hi hj).1) _ _ _ (by simp [List.length_take]; omega) (fun p hp' j hj => ?_) (fun p hp' => List.all_eq_true.1 hk.2 p hp') hobs) ?_
 .cases hc : cp i with
  | none => rfl
  | some j => exact (hcp1 i j (List.mem_range.1 hi) hc).2
 .have := List.all_eq_true.1 hp p hp'
  simpa [Nat.blt_eq] using List.all_eq_true.1 this j hj
 .intro X hX vals w' hw h1 h2 h3 q hq; have h := hN2 X hX vals w' hw h1 h2 h3 q hq; have e : (List.range m).filterMap (fun i => if X.contains i = true then none else (Jv l i).map fun t => (t, vals i)) = frY X vals 0 F := by
   rw [List.range_eq_range', <- hF]; refine Jb2 (w := w') (Jv l) F 0 fun k e he => ?_; rw [Nat.zero_add]; refine ⟨hd1 k e he, fun hc => ?_⟩; have hkm : k < m := by rw [<- hF]; exact (List.getElem?_eq_some_iff.1 he).1
   have := h1 k hkm hc; unfold eV at this; rw [List.getD_eq_getElem?_getD, he] at this; exact this
  rw [e]; exact h
def obsW (P : Program) (n : Nat) (ro : Option Nat) (df : List Deferred) (l : List Oper) (F : Fr) (w0 : World) (L : Fr) : Nat -> List Oper -> List Plan -> Prop
  | i, o :: os, p :: ps => obV P n ro df l F w0 i o p (Y1 L p.slots) /\ obsW P n ro df l F w0 L (i + 1) os ps
  | _, [], [] => True
  | _, _, _ => False
theorem Jaq {P : Program} {n : Nat} {ro : Option Nat} {df : List Deferred} {l : List Oper} {F : Fr} {w0 : World} {L : Fr} : ∀ (os : List Oper) (ps : List Plan) (i : Nat), (∀ p ∈ ps, (p.slots.all fun t => (lk L t).isSome) = true) -> obsW P n ro df l F w0 L i os ps -> obsV P n ro df l F w0 L i os ps (ps.map fun p => Y1 L p.slots)
 | [], [], _, _, _ => trivial
 | [], _ :: _, _, _, h => h.elim
 | _ :: _, [], _, _, h => h.elim
 | _ :: os, p :: ps, i, hs, h => ⟨⟨Q1 _ _, YU _ _ (hs p List.mem_cons_self), h.1⟩, Jaq os ps (i + 1) (fun q hq => hs q (List.mem_cons_of_mem _ hq)) h.2⟩
theorem JQ {P : Program} {n id : Nat} {ro : Option Nat} {df : List Deferred} {l : List Oper} {N : Jy} {B : JL} {L : Fr} {w0 : World} (m : Nat) (ps : List Plan) (F : Fr)
  (hm : P.follows .mixedOrders = true) (hB : (Zy n l ps m && ps.all fun p => p.on.all (Nat.blt · m)) = true) (hds : (List.range m).map (Jv l) = F.map (fun q => some q.1)) (hk : (ps.all fun p => p.slots.all fun t => (lk L t).isSome) = true)
  (hobs : obsW P n ro df l F w0 L 0 (l.take m) ps)
  (hN : ∀ w', w0.grownBy w' none -> WA P n ro df l N (l.length - m) (List.replicate m true ++ List.replicate (l.length - m) false) (F ++ L) w') : W P n ro df (.region id l.toArray true) N B L w0 :=
 Jdj m ps (ps.map fun p => Y1 L p.slots) F hm hB (by have := congrArg List.length hds; simpa using this.symm) hds (Jaq _ _ 0 (fun p hp => List.all_eq_true.1 hk p hp) hobs) hN
end Go.Proofs.Ytppkigdakobebaa
namespace Go.Proofs.Ytppkigdakobebaa
open Go.RowKit
/-! ### shorter words for values and pieces -/
abbrev nI (x : Int) : Value := .int .i64 x
abbrev nA (g : Nat) : Option Addr := some ⟨g, 0, none⟩
abbrev nP (g : Nat) : Value := .pointer (some ⟨g, 0, none⟩)
abbrev nS {α : Type} (A : Option Addr) (x : List α) (k : Nat) : Value := .slice A x.length k
abbrev nR (e : Nat) (A : Option Addr) (x : LI) (k : Nat) : Rw := .row e 1 A x.length k (is x)
section
variable {P : Program} {n : Nat} {ro : Option Nat} {df : List Deferred} {N : Jy} {L : Fr} {w w0 : World} {ops : Array Oper} {rest : List Oper}
variable {d : Nat} {ty : TypeId} {pos : String} {af : Array Edge} {X : World -> Prop} {mr : Option Nat} {R : List Rw}
/-- A part of a variable of the call's own is loaded. -/
theorem Jo (i j : Nat) {x : Operand} {t e z g : Nat} {D : TypeDesc} {cs : List Value} {v : Value} (hu : P.underlying t = some D) (hS : St X w0 mr w R) (hr : R[i]? = some (.row e z (some ⟨g, 0, none⟩) 1 1 cs)) (hx : ev L x = some (.pointer (some ((⟨g, 0, none⟩ : Addr).add j)))) (hc : cs[j]? = some v)
    (hq : (match D with | .struct _ | .array _ _ => true | _ => false) = false /\ Nat.blt d n = true) (h : WL P n ro df ops rest N ((d, v) :: L) w) : WL P n ro df ops (⟨some d, .load t x, ty, pos, af, none⟩ :: rest) N L w :=
  JI hu hq.1 hx (J6 (hS.own hr) j v hc) hq.2 h
theorem Jr (i : Nat) {x : Operand} {t e z z' by_ g : Nat} {zero : Value} {cs : List Value} (he : Elem P t z by_ zero) (hag : Jbe P t = true) (hS : St X w0 mr w R) (hr : R[i]? = some (.row e z' (some ⟨g, 0, none⟩) 1 1 cs)) (hq : cs.length = z /\ Nat.blt d n = true) (hx : ev L x = some (.pointer (some ⟨g, 0, none⟩)))
  (h : WL P n ro df ops rest N ((d, .agg cs.toArray) :: L) w) : WL P n ro df ops (⟨some d, .load t x, ty, pos, af, none⟩ :: rest) N L w :=
 YW he hag hx hq.1 (J6 (hS.own hr)) hq.2 h
end
/-! ### plain operations of a pool, by their value -/
def ZW (all : Array Oper) (n : Nat) (L : Fr) : Oper -> Option (Nat × Value)
  | ⟨some d, op, _, _, _, some (j, want)⟩ => match (all[j]?.bind (·.dst)).bind (lk L) with
    | some (.bool b) => bif b == want then (opv L op).bind (fun v => bif Nat.blt d n then some (d, v) else none) else bif Nat.blt d n then some (d, undef) else none
    | some (.tuple ⟨[]⟩) => bif Nat.blt d n then some (d, undef) else none
    | _ => none
  | ⟨some d, op, _, _, _, none⟩ => (opv L op).bind fun v => bif Nat.blt d n then some (d, v) else none
  | _ => none
theorem Jam {P : Program} {n : Nat} {ro : Option Nat} {df : List Deferred} {N : Jy} {L : Fr} {w : World} {all : Array Oper} {o : Oper} {q : Nat × Value} (h : ZW all n L o = some q) (hN : N df (q :: L) w) : WL P n ro df all [o] N L w := by
 obtain ⟨dst, op, ty, ps, af, g⟩ := o; cases dst with
 | none => simp [ZW] at h
 | some d =>
  cases g with
  | none =>
   simp only [ZW] at h; cases hv : opv L op with
   | none => rw [hv] at h; simp at h
   | some v =>
    rw [hv] at h; cases hn : Nat.blt d n <;> simp [hn] at h; subst h; exact Yn hv hn (Ja hN)
  | some jw =>
   obtain ⟨j, want⟩ := jw; simp only [ZW] at h; split at h
   .rename_i b hb
    cases hbw : (b == want) <;> rw [hbw] at h
    .cases hn : Nat.blt d n <;> simp [hn] at h; subst h; exact Jay hb hbw hn (Ja hN)
    .have e : b = want := by simpa using hbw
     subst e; simp only [cond_true] at h; cases hv : opv L op with
     | none => rw [hv] at h; simp at h
     | some v =>
      rw [hv] at h; cases hn : Nat.blt d n <;> simp [hn] at h; subst h; exact WL.take hb (Yn hv hn (Ja hN))
   .rename_i hb
    cases hn : Nat.blt d n <;> simp [hn] at h; subst h; exact Qi hb hn (Ja hN)
   .cases h
theorem oA {P : Program} {n : Nat} {ro : Option Nat} {df : List Deferred} {l : List Oper} {F : Fr} {w0 : World} {i : Nat} {o : Oper} {p : Plan} {b : Fr} (h : ∀ R, ZW l.toArray n (Y4 F p.on b ++ R) o = some (F.getD i F0)) : obV P n ro df l F w0 i o p b := fun w _ R => Jam (h R) ⟨rfl, by
 cases p.pure
 .exact Ji _
 .rfl⟩
def ekV : Ent -> Option (Nat × Value)
  | .k d v => some (d, v)
  | _ => none
def tolF (F : List Ent) : List Nat -> Fr -> Option Fr
  | [], A => some A
  | j :: js, A => match F.getD j E0 with
    | .k d v => tolF F js ((d, v) :: A)
    | _ => none
theorem Jak {F : List Ent} {w : World} {K : Fr -> Prop} : ∀ (js : List Nat) (A B : Fr), tolF F js A = some B -> K B -> QX F w K js A
 | [], _, _, h, hk => by cases h; exact hk
 | j :: js, A, B, h, hk => by
  unfold tolF at h; unfold QX; cases e : F.getD j E0 with
  | k d v => rw [e] at h; exact Jak js _ _ h hk
  | m d Pr hh => rw [e] at h; cases h
/-- the value by the frame that it is Ja3 -/
def stpB (l : List Oper) (n : Nat) (F : List Ent) (o : Oper) (on : List Nat) (b R : Fr) : Option (Nat × Value) := (tolF F on b).bind fun A => ZW l.toArray n (A ++ R) o
def isK : Option (Nat × Value) -> Bool
  | some _ => true
  | none => false
theorem oB {P : Program} {n : Nat} {ro : Option Nat} {df : List Deferred} {l : List Oper} {al : Nat -> Bool} {cp : Nat -> Option Nat} {ph : Nat -> Value -> Value -> Prop} {F : List Ent} {D : Nat -> Value -> World -> Nat -> Prop} {w0 : World} {i : Nat} {o : Oper} {p : Plan} {b : Fr}
  (h : ∀ R, stpB l n F o p.on b R = ekV (F.getD i E0)) (hk : isK (ekV (F.getD i E0)) = true) : obY P n ro df l al cp ph F D w0 i o p b := fun w _ => by
 cases e : F.getD i E0 with
 | m d Pr hh => rw [e] at hk; cases hk
 | k d v =>
  cases hA : tolF F p.on b with
  | none =>
   have := h []; rw [e] at this; unfold stpB at this; rw [hA] at this; cases this
  | some A =>
   refine Jak _ _ _ hA fun R => ?_; have := h R; rw [e] at this; unfold stpB at this; rw [hA] at this; exact Jam this ⟨rfl, by
    cases p.pure
    .exact Ji _
    .rfl⟩
theorem St.fin {w0 w : World} {R : List Rw} {K : List Rw -> Prop} (h : St TT w0 none w R) (hr : R.all (fun r => !r.isRo) = true) (hk : K R) : ∃ Q, w0.grownBy w none /\ Rows w0.heap.size none w Q /\ News w0.heap.size Q /\ K Q := ⟨R, h.ext, h.rows, YE h.rows hr, hk⟩
theorem oT {p : Prop} [Decidable p] (h : decide p = true) : p := of_decide_eq_true h
theorem oF {p : Prop} [Decidable p] (h : decide p = false) : ¬ p := of_decide_eq_false h
theorem oC {P : Program} {n : Nat} {ro : Option Nat} {df : List Deferred} {l : List Oper} {al : Nat -> Bool} {cp : Nat -> Option Nat} {ph : Nat -> Value -> Value -> Prop} {F : List Ent} {D : Nat -> Value -> World -> Nat -> Prop} {w0 : World} {i : Nat} {o : Oper} {p : Plan} {b : Fr}
 (h : ∀ R, stpB l n F o p.on b R = ekV (F.getD i E0) := by exact fun _ => rfl) (hk : isK (ekV (F.getD i E0)) = true := by exact rfl) : obY P n ro df l al cp ph F D w0 i o p b := oB h hk
theorem og {X : World -> Prop} {w0 wa : World} {mr : Option Nat} {R : List Rw} {G : World -> Fr -> Prop} (hS : St X w0 mr wa R) (h : ∀ w B, St X w0 mr w R -> G w B) : ∀ w, (false = false -> wa.grownBy w none) -> ∀ B, G w B := fun w hE B => h w B (hS.grow (hE rfl))
theorem oD {P : Program} {n : Nat} {ro : Option Nat} {df : List Deferred} {l : List Oper} {F : Fr} {w0 : World} {i : Nat} {o : Oper} {p : Plan} {b : Fr} (h : ∀ R, ZW l.toArray n (Y4 F p.on b ++ R) o = some (F.getD i F0) := by exact fun _ => rfl) : obV P n ro df l F w0 i o p b := oA h
end Go.Proofs.Ytppkigdakobebaa
namespace Go.Proofs.Ytppkigdakobebaa
open Go.RowKit
/-! ### lists of lists some of whose rows came in -/
/-- The rows by themselves. -/
def RlR (w : World) (hs : Hs) (ls : LL) : Prop := ∀ i, i < ls.length -> ∃ B, Rd B w 1 (hs i).1 (ls.getD i []).length (hs i).2 (is (ls.getD i []))
theorem RlR.ext {w w' : World} {hs : Hs} {ls : LL} (h : RlR w hs ls) (hg : w.grownBy w' none) : RlR w' hs ls := fun i hi => by obtain ⟨B, h2⟩ := h i hi; exact ⟨B, h2.ext hg⟩
theorem RlR.nil (w : World) (hs : Hs) : RlR w hs [] := fun i hi => absurd hi (Nat.not_lt_zero i)
theorem RlR.append {w : World} {hs hs' : Hs} {ls ls' : LL} (h : RlR w hs ls) (h' : RlR w hs' ls') : RlR w (apHs ls.length hs hs') (ls ++ ls') := fun i hi => by
 rw [List.length_append] at hi; rcases Nat.lt_or_ge i ls.length with hl | hl
 .have e1 : (ls ++ ls').getD i [] = ls.getD i [] := by rw [List.getD_eq_getElem?_getD, List.getElem?_append_left hl, <- List.getD_eq_getElem?_getD]
  have e2 : apHs ls.length hs hs' i = hs i := by unfold apHs; rw [if_pos hl]
  rw [e1, e2]; exact h i hl
 .have e1 : (ls ++ ls').getD i [] = ls'.getD (i - ls.length) [] := by rw [List.getD_eq_getElem?_getD, List.getElem?_append_right hl, <- List.getD_eq_getElem?_getD]
  have e2 : apHs ls.length hs hs' i = hs' (i - ls.length) := by unfold apHs; rw [if_neg (by omega)]
  rw [e1, e2]; exact h' _ (by omega)
theorem RlR.rl {w : World} {A : Option Addr} {n k B : Nat} {hs : Hs} {ls : LL} (h : RlR w hs ls) (hA : Rd B w 1 A n k (JX hs ls)) : Rl w A n k ls := RlH.rl ⟨⟨B, hA⟩, h⟩
theorem RlH.rows {w : World} {A : Option Addr} {n k : Nat} {hs : Hs} {ls : LL} (h : RlH w A n k hs ls) : RlR w hs ls := h.at__
theorem RlR.inr {w : World} {eI : Nat} {hs : Hs} {ls : LL} (h : Rows 0 none w (inr eI hs ls)) : RlR w hs ls := fun i hi => by
 have := (h.get (inr_at eI hs ls hi)).1.rd; exact ⟨_, this⟩
section
variable {P : Program} {n : Nat} {ro : Option Nat} {df : List Deferred} {N : Jy} {L : Fr} {w w0 : World} {ops : Array Oper} {rest : List Oper}
variable {d : Nat} {ty : TypeId} {pos : String} {af : Array Edge} {X : World -> Prop} {mr : Option Nat} {R : List Rw} {eI m c : Nat} {A : Option Addr} {hs : Hs} {ls : LL}
end
/-! ### lists of lists of lists -/
abbrev HZ := Nat -> (Option Addr × Nat) × Hs
def zcells (H : HZ) (zs : List LL) : List Value := zs.mapIdx fun i l => .slice (H i).1.1 l.length (H i).1.2
structure Rll (w : World) (A : Option Addr) (n k : Nat) (H : HZ) (zs : List LL) : Prop where
  out : ∃ B, Rd B w 1 A n k (zcells H zs)
  at__ : ∀ i, i < zs.length -> RlH w (H i).1.1 (zs.getD i []).length (H i).1.2 (H i).2 (zs.getD i [])
theorem Rll.ext {w w' : World} {A : Option Addr} {n k : Nat} {H : HZ} {zs : List LL} (h : Rll w A n k H zs) (hg : w.grownBy w' none) : Rll w' A n k H zs := by
 obtain ⟨B, h1⟩ := h.out; exact ⟨⟨B, h1.ext hg⟩, fun i hi => (h.at__ i hi).ext hg⟩
end Go.Proofs.Ytppkigdakobebaa
namespace Go.Proofs.Ytppkigdakobebaa
open Go.RowKit
theorem WA.sub {P : Program} {n : Nat} {ro : Option Nat} {df : List Deferred} {l : List Oper} {N : Jy} {q : Nat} {li : List Bool} {L M : Fr} {w : World} (hs : sub M L) (h : WA P n ro df l N q li M w) : WA P n ro df l N q li L w := ⟨fun a ha B => h.out a (ha.sub hs) B⟩
end Go.Proofs.Ytppkigdakobebaa
namespace Go.Proofs.Ytppkigdakobebaa
open Go.RowKit
/-! ### what is behind a place of a list of lists -/
theorem Al.drop {w : World} : ∀ {vs : List Value} {ls : LL} (k : Nat), Al w vs ls -> Al w (vs.drop k) (ls.drop k)
  | [], [], k, _ => by simp [Al]
  | v :: vs, l :: ls, 0, h => h
  | v :: vs, l :: ls, k + 1, h => Al.drop (vs := vs) (ls := ls) k h.2
  | [], _ :: _, _, h => h.elim
  | _ :: _, [], _, h => h.elim
theorem Rl.drop {w : World} {A : Option Addr} {n k : Nat} {ls : LL} (h : Rl w A n k ls) {J : Int} (hJ : 0 <= J /\ J <= (n : Nat)) : Rl w (if k = J.toNat then A else A.map (·.add (J.toNat * 1))) (n - J.toNat) (k - J.toNat) (ls.drop J.toNat) := by
 obtain ⟨B, cs, h1, h2⟩ := h.ex; have h3 := h1.drop (k := J.toNat) (by omega); have e : cs.drop (J.toNat * 1) = cs.drop J.toNat := by rw [Nat.mul_one]
 rw [e] at h3; exact ⟨B, _, h3, h2.drop _⟩
end Go.Proofs.Ytppkigdakobebaa
namespace Go.Proofs.Ytppkigdakobebaa
open Go.RowKit
end Go.Proofs.Ytppkigdakobebaa
namespace Go.Proofs.Ytppkigdakobebaa
open Go.RowKit
end Go.Proofs.Ytppkigdakobebaa
namespace Go.Proofs.Ytppkigdakobebaa
open Go.RowKit
section
variable {P : Program} {n : Nat} {ro : Option Nat} {df : List Deferred} {N : Jy} {L : Fr} {w w0 : World} {ops : Array Oper} {rest : List Oper}
variable {d : Nat} {ty : TypeId} {pos : String} {af : Array Edge} {X : World -> Prop} {mr : Option Nat} {R : List Rw} {eS eI m c : Nat} {A : Option Addr} {hs : Hs} {ls : LL}
end
end Go.Proofs.Ytppkigdakobebaa
namespace Go.Proofs.Ytppkigdakobebaa
open Go.RowKit
/-! ### a struct that goes into a part of a variable -/
def setL (cs : List Value) : Nat -> List Value -> List Value
  | _, [] => cs
  | j, v :: r => setL (cs.set j v) (j + 1) r
theorem Ya {b e z m c g : Nat} : ∀ (vs : List Value) (j : Nat) (w : World) (cs : List Value), Own b w e z (some ⟨g, 0, none⟩) m c cs -> Own b (w.setCells g j vs) e z (some ⟨g, 0, none⟩) m c (setL cs j vs) /\ w.grownBy (w.setCells g j vs) (some g)
 | [], _, w, _, h => ⟨h, World.grownBy.refl w _⟩
 | v :: r, j, w, cs, h => by
  have h1 := World.ownsRow.stored h j v; have h2 := Ya r (j + 1) _ _ h1.1; exact ⟨h2.1, World.grownBy.trans h1.2 h2.2⟩
section
variable {P : Program} {X : World -> Prop} {n : Nat} {ro : Option Nat} {df : List Deferred} {N : Jy} {L : Fr} {w w0 : World} {mr : Option Nat} {R : List Rw} {ops : Array Oper} {rest : List Oper}
variable {d : Nat} {ty : TypeId} {pos : String} {af : Array Edge}
theorem Jj {x y : Operand} {t e z m c by_ zz : Nat} {zero : Value} {A : Option Addr} {cs cs' : List Value} {cells : Array Value} (i j : Nat) (hS : St X w0 mr w R) (hi : R[i]? = some (.row e z A m c cs)) (he : Elem P t zz by_ zero)
  (hx : ev L x = some (.pointer (some ((Qc A).add j)))) (hy : ev L y = some (.agg cells)) (hz : cells.size = zz) (h1 : cells.toList.all (·.oneCell') = true) (hj : Nat.ble (j + zz) cs.length = true) (hcs : setL cs j cells.toList = cs')
  (h : ∀ w', St X w0 mr w' (R.set i (.row e z A m c cs')) -> WL P n ro df ops rest N L w') : WL P n ro df ops (⟨none, .store t x y, ty, pos, af, none⟩ :: rest) N L w := by
 subst hcs; have hj' : j + zz <= cs.length := Nat.le_of_ble_eq_true hj; obtain ⟨inf, i1, i2, i3, i4⟩ := he.ex; have hO := hS.own hi; rcases hO.form with ⟨_, h0, _⟩ | ⟨g, rfl, hg1, hg2⟩
 .have h5 := hO.len; have h6 := he.pos; rw [h0, Nat.zero_mul] at h5; omega
 .have hs := Ya cells.toList j w cs hO; have hadd : (Qc (some ⟨g, 0, none⟩)).add j = ⟨g, j, none⟩ := by
   unfold Qc Addr.add; simp; intro h; exact h.symm
  rw [hadd] at hx; have hrun := run_storeAt_mid (P := P) w g j t cells (fun k hk => by
   have hlt : j + k < cs.length := by omega
   have hce := World.ownsRow.cellAt hO (j + k) (by rw [<- hO.len]; exact hlt); have hfr := World.ownsRow.frozenAt hO (j + k); rw [List.getElem?_eq_getElem hlt] at hce; exact ⟨by rw [hce]; rfl, hfr⟩) (by simp [i1, i3, hz]) (by rw [<- Array.all_toList]; exact h1)
  refine Zr rfl rfl (fun a ha => ?_) (h _ (hS.put hi hs.2 hs.1 (.inl rfl))); simp [execOp, ha.ev hx, ha.ev hy, hrun]
/-- Five ints beside one another. -/
structure F5 (P : Program) (t u : TypeId) : Prop where
  ex : ∃ f0 f1 f2 f3 f4, P.fieldsOf t = #[f0, f1, f2, f3, f4] /\ f0.offset = 0 /\ f1.offset = 1 /\ f2.offset = 2 /\ f3.offset = 3 /\ f4.offset = 4 /\ f0.type = u /\ f1.type = u /\ f2.type = u /\ f3.type = u /\ f4.type = u /\ f0.name ≠ "_" /\ f1.name ≠ "_" /\ f2.name ≠ "_" /\ f3.name ≠ "_" /\ f4.name ≠ "_"
  st : P.underlying t = some (.struct (P.fieldsOf t))
  sh : P.stoodInHeld t = false
  gd : P.eqGuardType P.depth t = false
  int : P.underlying u = some (.int .i64)
end
end Go.Proofs.Ytppkigdakobebaa
namespace Go.Proofs.Ytppkigdakobebaa
open Go.RowKit
theorem Try.mixed : Try.prog.follows .mixedOrders = true := by kernel_rfl
theorem Try.el3 : Elem Try.prog 3 1 8 (.int .i64 0) := .mk' (by kernel_rfl) rfl (by decide)
theorem Try.el4 : Elem Try.prog 4 1 1 (.bool false) := .mk' (by kernel_rfl) rfl (by decide)
theorem Try.el38 : Elem Try.prog 38 5 40 (.agg #[.int .i64 0, .int .i64 0, .int .i64 0, .int .i64 0, .int .i64 0]) := .mk' (by kernel_rfl) rfl (by decide)
theorem Try.fla38_2 : YS Try.prog 38 2 2 = true := by kernel_rfl
theorem Try.fla38_3 : YS Try.prog 38 3 3 = true := by kernel_rfl
theorem Try.fla38_4 : YS Try.prog 38 4 4 = true := by kernel_rfl
theorem Try.bld38 : bldP Try.prog 38 [(0, 1), (1, 1), (2, 1), (3, 1), (4, 1)] #[.int .i64 0, .int .i64 0, .int .i64 0, .int .i64 0, .int .i64 0] := ⟨by kernel_rfl, _, Try.underlying38, by kernel_rfl⟩
theorem Try.fla95_0 : YS Try.prog 95 0 0 = true := by kernel_rfl
theorem Try.fla95_1 : YS Try.prog 95 1 1 = true := by kernel_rfl
theorem Try.fla95_2 : YS Try.prog 95 2 2 = true := by kernel_rfl
theorem Try.bld95 : bldP Try.prog 95 [(0, 1), (1, 1), (2, 5)] #[.slice none 0 0, .int .i64 0, .int .i64 0, .int .i64 0, .int .i64 0, .int .i64 0, .int .i64 0] := ⟨by kernel_rfl, _, Try.underlying95, by kernel_rfl⟩
theorem Try.agg38 : Jbe Try.prog 38 = true := by kernel_rfl
theorem Try.nm24 : (Try.f24.name == "runtime.NumGoroutine") = false := by kernel_rfl
theorem Try.nm25 : (Try.f25.name == "runtime.NumGoroutine") = false := by kernel_rfl
theorem Try.nm27 : (Try.f27.name == "runtime.NumGoroutine") = false := by kernel_rfl
theorem Try.nm28 : (Try.f28.name == "runtime.NumGoroutine") = false := by kernel_rfl
theorem Try.nm48 : (Try.f48.name == "runtime.NumGoroutine") = false := by kernel_rfl
theorem Try.nm51 : (Try.f51.name == "runtime.NumGoroutine") = false := by kernel_rfl
theorem Try.nm53 : (Try.f53.name == "runtime.NumGoroutine") = false := by kernel_rfl
theorem Try.nm59 : (Try.f59.name == "runtime.NumGoroutine") = false := by kernel_rfl
theorem Try.nm61 : (Try.f61.name == "runtime.NumGoroutine") = false := by kernel_rfl
theorem Try.nm65 : (Try.f65.name == "runtime.NumGoroutine") = false := by kernel_rfl
theorem Try.nm66 : (Try.f66.name == "runtime.NumGoroutine") = false := by kernel_rfl
theorem Try.nm67 : (Try.f67.name == "runtime.NumGoroutine") = false := by kernel_rfl
theorem Try.nm68 : (Try.f68.name == "runtime.NumGoroutine") = false := by kernel_rfl
theorem Try.nm69 : (Try.f69.name == "runtime.NumGoroutine") = false := by kernel_rfl
theorem Try.nm99 : (Try.f99.name == "runtime.NumGoroutine") = false := by kernel_rfl
theorem Try.nm100 : (Try.f100.name == "runtime.NumGoroutine") = false := by kernel_rfl
theorem Try.nm126 : (Try.f126.name == "runtime.NumGoroutine") = false := by kernel_rfl
theorem Try.nm127 : (Try.f127.name == "runtime.NumGoroutine") = false := by kernel_rfl
theorem Try.nm128 : (Try.f128.name == "runtime.NumGoroutine") = false := by kernel_rfl
end Go.Proofs.Ytppkigdakobebaa
namespace Go.Proofs.Ytppkigdakobebaa
open Go.RowKit
abbrev J2 := Try.fla38_2
abbrev QC := Try.fla38_3
abbrev JM := Try.fla38_4
abbrev Jaa := Try.fla95_0
abbrev QO := Try.fla95_1
abbrev Js := Try.fla95_2
abbrev QW := Try.bld38
abbrev XB95 := Try.bld95
abbrev XE3 := Try.el3
abbrev Jk := Try.el38
abbrev XE4 := Try.el4
abbrev Jcl := Try.func100
abbrev Jck := Try.func126
abbrev XF127 := Try.func127
abbrev Jcj := Try.func128
abbrev Jbj := Try.func24
abbrev Jbi := Try.func25
abbrev Yy := Try.func27
abbrev Q2 := Try.func28
abbrev XF48 := Try.func48
abbrev XF51 := Try.func51
abbrev XF53 := Try.func53
abbrev XF59 := Try.func59
abbrev Z9 := Try.func61
abbrev XF65 := Try.func65
abbrev XF66 := Try.func66
abbrev XF67 := Try.func67
abbrev Jbg := Try.func68
abbrev XF69 := Try.func69
abbrev XF99 := Try.func99
abbrev JA := Try.agg38
abbrev XN100 := Try.nm100
abbrev XN126 := Try.nm126
abbrev XN127 := Try.nm127
abbrev XN128 := Try.nm128
abbrev XN24 := Try.nm24
abbrev XN25 := Try.nm25
abbrev YV := Try.nm27
abbrev Ye := Try.nm28
abbrev XN48 := Try.nm48
abbrev XN51 := Try.nm51
abbrev XN53 := Try.nm53
abbrev XN59 := Try.nm59
abbrev Jbf := Try.nm61
abbrev XN65 := Try.nm65
abbrev XN66 := Try.nm66
abbrev XN67 := Try.nm67
abbrev XN68 := Try.nm68
abbrev XN69 := Try.nm69
abbrev XN99 := Try.nm99
abbrev JK := Try.underlying22
abbrev XU3 := Try.underlying3
abbrev XU4 := Try.underlying4
abbrev ZN := Try.underlying79
end Go.Proofs.Ytppkigdakobebaa
set_option maxRecDepth 4000
set_option maxHeartbeats 4000000
namespace Go.Proofs.Ytppkigdakobebaa
open Go.RowKit
end Go.Proofs.Ytppkigdakobebaa
namespace Go.Proofs.Ytppkigdakobebaa
open Go.RowKit
def Qk (n : Int) (Q : Bool -> Prop) : Prop :=
  (((1 : Int) <= n) -> (Q (decide (n <= 64)))) /\ (¬ ((1 : Int) <= n) -> Q false)
theorem Yu {w : World} {Q : Bool -> Prop} {n : Int}  (hv : Qk n Q) :
   Calls Try.prog 48 #[.int .i64 n] w <| Rt w fun v Qr => ∃ (r0 : Bool), v = .bool r0 /\ Qr = [] /\ Q r0 := by
 refine Jm <| Jl (vs := [nI n]) [2] XF48 rfl rfl rfl rfl ?_; have hS := Jp w; unfold Qk at hv; refine Je 8 <| Jd rfl rfl ?_; by_cases g11 : (1 : Int) <= n
 .have hv := hv.1 g11; rw [decide_eq_true g11]; refine Jb 7 <| W.ret <| ⟨_, rfl, Fin.nil ?_⟩
  exact (hS.pick [] rfl).fin rfl ⟨(decide (n <= 64)), rfl, rfl, hv⟩
 have hv := hv.2 g11; rw [decide_eq_false g11]; refine Jb 5 <| W.ret <| ⟨_, rfl, Fin.nil ?_⟩
 exact (hS.pick [] rfl).fin rfl ⟨false, rfl, rfl, hv⟩
def Qb (x : Int) (n : Int) (Q : Int -> Prop) : Prop :=
  (n ≠ 0) /\ ((I64 ((x.tmod n) + n)) /\ ((n ≠ 0) /\ (Q (((x.tmod n) + n).tmod n))))
theorem Yb {w : World} {Q : Int -> Prop} {x : Int} {n : Int}  (hv : Qb x n Q) :
  Calls Try.prog 100 #[.int .i64 x, .int .i64 n] w <| Rt w fun v Qr => ∃ (r0 : Int), v = .int .i64 r0 /\ Qr = [] /\ Q r0 := by
 refine Jm <| Jl (vs := [nI x, nI n]) [4] Jcl rfl rfl rfl rfl ?_; have hS := Jp w; unfold Qb at hv; refine Je 8 ?_; obtain ⟨o11, hv⟩ := hv; refine Q3 (r := (x.tmod n)) rfl rfl o11 rfl rfl <| Jd rfl rfl ?_; obtain ⟨o12, hv⟩ := hv; refine WL.add (r := ((x.tmod n) + n)) rfl rfl (wr o12) rfl <| Jd rfl rfl ?_; obtain ⟨o13, hv⟩ := hv; refine Q3 (r := (((x.tmod n) + n).tmod n)) rfl rfl o13 rfl rfl <| Jb 2 <| W.ret <| ⟨_, rfl, Fin.nil ?_⟩
 exact (hS.pick [] rfl).fin rfl ⟨(((x.tmod n) + n).tmod n), rfl, rfl, hv⟩
def Yg (n : Int) (l : LI) (Q : List Bool -> Prop) : Prop :=
  (0 <= n /\ n * 1 <= 281474976710656 /\ n <= 281474976710656) /\ (∃ (I21 : List Bool -> Int -> Prop) (μ22 : List Bool -> Int -> Nat), I21 (List.replicate n.toNat false) (0 : Int) /\ ∀ (x19 : List Bool) (z20 : Int), (I21 x19 z20 -> (((z20 < (l.length : Int)) -> ((0 <= z20 /\ z20 < (l.length : Nat)) /\ (Qb (gi l z20) n (fun r27 => (0 <= r27 /\ r27 < (n.toNat : Nat)) /\ ((I64 (z20 + 1)) /\ (I21 (sb x19 r27 true) (z20 + 1) /\ μ22 (sb x19 r27 true) (z20 + 1) < μ22 x19 z20)))))) /\ (¬ (z20 < (l.length : Int)) -> Q x19))))
theorem Ja4 {w : World} {Q : List Bool -> Prop} {n : Int} {l : LI} {Bl : Nat} {Al : Option Addr} {nl kl : Nat} (hl : Rd Bl w 1 Al nl kl (is l)) (hv : Yg n l Q) :
  Calls Try.prog 53 #[.int .i64 n, .slice Al nl kl] w <| Rt w fun v Qr => ∃ (x : List Bool)  (A : Option Addr) (c : Nat), v = .slice A x.length c /\ Qr = [.row 4 1 A x.length c (bs x)] /\ Q x := by
 have hnl := hl.ilen; subst hnl; refine Jm <| Jl (vs := [nI n, nS Al l kl]) [4] XF53 rfl rfl rfl rfl ?_; have hS := Jp w; unfold Yg at hv; refine Je 7 ?_; obtain ⟨o11, hv⟩ := hv; refine Ja1 (J := n) hS ZN XE4 rfl rfl o11 (Jc3 _) rfl ?_; intro A12 w13 hS; refine Jb 2 <| Je 4 <| WL.len JK rfl rfl <| Jb 2 <| W.block ?_; obtain ⟨I21, μ22, hv, hk31⟩ := hv; refine JB (σ := List Bool × Int) (fun q w1 => match q with | (x19, z20) => I21 x19 z20 /\ St TT w none w1 [.row 4 1 A12 n.toNat n.toNat (bs x19)]) (fun (x19, z20) => [(0, nI n), (4, .slice none 0 0), (5, .slice A12 n.toNat n.toNat), (10, nS Al l kl), (11, nI (l.length : Int)), (12, nI z20)]) (fun (x19, z20) => μ22 x19 z20) (List.replicate n.toNat false, (0 : Int)) ⟨hv, hS⟩ ⟨rfl, rfl, rfl, rfl, rfl, rfl, trivial⟩ ?_; rintro ⟨x19, z20⟩ w23 ⟨hv, hS⟩; have hv := hk31 x19 z20 hv; refine Je 5 <| Jg rfl (fun c24 => ?_) (fun c24 => ?_)
 .have hv := hv.1 (oT c24); refine Jh <| Jz <| W.block <| Je 2 ?_; obtain ⟨o25, hv⟩ := hv; refine JF JK XE3 (hS.ro hl) rfl rfl o25 rfl <| JI XU3 rfl rfl (Qw (hS.ro hl) o25) rfl <| Jb 2 <| Je 4 <| SL.call hS (Yb  hv) Jcl rfl XN100 rfl rfl ?_; rintro _ _ w26 ⟨r27, rfl, rfl, hv⟩ hGw26 hS; have hS := hS.n0; obtain ⟨o28, hv⟩ := hv; refine JF ZN XE4 (hS.rd (i := 0) rfl) rfl rfl o28 rfl <| Jn (cs' := bs (sb x19 r27 true)) 0 r27.toNat hS rfl XE4 rfl rfl rfl (bs_lt (hS.rd (i := 0) rfl) o28) (bs_set _ _ _) ?_; intro w29 hS; refine Ja <| JS ?_; obtain ⟨o30, hv⟩ := hv; refine WL.add (r := (z20 + 1)) rfl rfl (wr o30) rfl <| Jb 2 ?_; exact ⟨(sb x19 r27 true, (z20 + 1)), sp rfl, hv.2, rfl, hv.1, hS⟩
 have hv := hv.2 (oF c24); refine Jt <| Je 5 <| W.ret ?_; have hm := (hS.rd (i := 0) rfl).blen; have hS := hS.relen (i := 0) rfl hm.symm; refine ⟨_, rfl, Fin.nil ?_⟩; exact ⟨_, hS.ext, (hS.pick [0] rfl).rows, YE (hS.pick [0] rfl).rows rfl, ⟨x19, A12, n.toNat, (by rw [hm]), rfl, hv⟩⟩
def Qt (x : Int) (Q : Bool -> Prop) : Prop :=
  (((-2147483647 : Int) <= x) -> (Q (decide (x <= 2147483647)))) /\ (¬ ((-2147483647 : Int) <= x) -> Q false)
theorem YL {w : World} {Q : Bool -> Prop} {x : Int}  (hv : Qt x Q) :
   Calls Try.prog 126 #[.int .i64 x] w <| Rt w fun v Qr => ∃ (r0 : Bool), v = .bool r0 /\ Qr = [] /\ Q r0 := by
 refine Jm <| Jl (vs := [nI x]) [2] Jck rfl rfl rfl rfl ?_; have hS := Jp w; unfold Qt at hv; refine Je 8 <| Jd rfl rfl ?_; by_cases g11 : (-2147483647 : Int) <= x
 .have hv := hv.1 g11; rw [decide_eq_true g11]; refine Jb 7 <| W.ret <| ⟨_, rfl, Fin.nil ?_⟩
  exact (hS.pick [] rfl).fin rfl ⟨(decide (x <= 2147483647)), rfl, rfl, hv⟩
 have hv := hv.2 g11; rw [decide_eq_false g11]; refine Jb 5 <| W.ret <| ⟨_, rfl, Fin.nil ?_⟩
 exact (hS.pick [] rfl).fin rfl ⟨false, rfl, rfl, hv⟩
def YX (x : Int) (Q : Int -> Prop) : Prop :=
  ((x < 0) -> ((I64 (-x)) /\ (Q (-x)))) /\ (¬ (x < 0) -> Q x)
theorem Jap {w : World} {Q : Int -> Prop} {x : Int}  (hv : YX x Q) :
   Calls Try.prog 128 #[.int .i64 x] w <| Rt w fun v Qr => ∃ (r0 : Int), v = .int .i64 r0 /\ Qr = [] /\ Q r0 := by
 refine Jm <| Jl (vs := [nI x]) [2] Jcj rfl rfl rfl rfl ?_; have hS := Jp w; unfold YX at hv; refine Je 10 <| Jg rfl (fun c11 => ?_) (fun c11 => ?_)
 .have hv := hv.1 (oT c11); refine Je 3 ?_; obtain ⟨o12, hv⟩ := hv; refine WL.neg (r := (-x)) rfl (wrn o12) rfl <| Jb 2 <| W.ret <| ⟨_, rfl, Fin.nil ?_⟩
  exact (hS.pick [] rfl).fin rfl ⟨(-x), rfl, rfl, hv⟩
 have hv := hv.2 (oF c11); refine Jh <| Je 5 <| W.ret <| ⟨_, rfl, Fin.nil ?_⟩
 exact (hS.pick [] rfl).fin rfl ⟨x, rfl, rfl, hv⟩
def YC (a : Int) (b : Int) (Q : Int × Int -> Prop) : Prop :=
  ∃ (I23 : Int -> Int -> Int -> Int -> Prop) (μ24 : Int -> Int -> Int -> Int -> Nat), I23 a b (1 : Int) (0 : Int) /\ ∀ (z19 : Int) (z20 : Int) (z21 : Int) (z22 : Int), (I23 z19 z20 z21 z22 -> (((z20 ≠ 0) -> ((z20 ≠ 0 /\ I64 (z19.tdiv z20)) /\ ((I64 ((z19.tdiv z20) * z20)) /\ ((I64 (z19 - ((z19.tdiv z20) * z20))) /\ ((I64 ((z19.tdiv z20) * z22)) /\ ((I64 (z21 - ((z19.tdiv z20) * z22))) /\ (I23 z20 (z19 - ((z19.tdiv z20) * z20)) z22 (z21 - ((z19.tdiv z20) * z22)) /\ μ24 z20 (z19 - ((z19.tdiv z20) * z20)) z22 (z21 - ((z19.tdiv z20) * z22)) < μ24 z19 z20 z21 z22))))))) /\ (¬ (z20 ≠ 0) -> (Q (z19, z21)))))
theorem Jby {w : World} {Q : Int × Int -> Prop} {a : Int} {b : Int}  (hv : YC a b Q) :
  Calls Try.prog 127 #[.int .i64 a, .int .i64 b] w <| Rt w fun v Qr => ∃ (r0 : Int) (r1 : Int), v = .tuple #[.int .i64 r0, .int .i64 r1] /\ Qr = [] /\ Q (r0, r1) := by
 refine Jm <| Jl (vs := [nI a, nI b]) [4, 5] XF127 rfl rfl rfl rfl ?_; have hS := Jp w; unfold YC at hv; refine Je 11 <| W.block ?_; obtain ⟨I23, μ24, hv, hk32⟩ := hv; refine JB (σ := Int × Int × Int × Int) (fun q w1 => match q with | (z19, z20, z21, z22) => I23 z19 z20 z21 z22 /\ St TT w none w1 []) (fun (z19, z20, z21, z22) => [(0, nI z19), (1, nI z20), (4, nI 0), (5, nI 0), (6, nI z21), (7, nI z22)]) (fun (z19, z20, z21, z22) => μ24 z19 z20 z21 z22) (a, b, (1 : Int), (0 : Int)) ⟨hv, hS⟩ ⟨rfl, rfl, rfl, rfl, rfl, rfl, trivial⟩ ?_; rintro ⟨z19, z20, z21, z22⟩ w25 ⟨hv, hS⟩; have hv := hk32 z19 z20 z21 z22 hv; refine Je 6 <| Jg rfl (fun c26 => ?_) (fun c26 => ?_)
 .have hv := hv.1 (oT c26); refine Jh <| W.block <| Je 4 ?_; obtain ⟨o27, hv⟩ := hv; refine Jcm (r := (z19.tdiv z20)) rfl rfl o27.1 (wr o27.2) rfl <| Jb 2 <| Je 6 ?_; obtain ⟨o28, hv⟩ := hv; refine J3 (r := ((z19.tdiv z20) * z20)) rfl rfl (wr o28) rfl ?_; obtain ⟨o29, hv⟩ := hv; refine WL.sub (r := (z19 - ((z19.tdiv z20) * z20))) rfl rfl (wr o29) rfl <| Jb 3 <| Je 5 ?_; obtain ⟨o30, hv⟩ := hv; refine J3 (r := ((z19.tdiv z20) * z22)) rfl rfl (wr o30) rfl ?_; obtain ⟨o31, hv⟩ := hv; refine WL.sub (r := (z21 - ((z19.tdiv z20) * z22))) rfl rfl (wr o31) rfl <| Jb 3 ?_; exact ⟨(z20, (z19 - ((z19.tdiv z20) * z20)), z22, (z21 - ((z19.tdiv z20) * z22))), sp rfl, hv.2, rfl, hv.1, hS⟩
 have hv := hv.2 (oF c26); refine Jt <| Je 7 <| W.ret <| ⟨_, rfl, Fin.nil ?_⟩
 exact (hS.pick [] rfl).fin rfl ⟨z19, z21, rfl, rfl, hv⟩
def Ja0 (a : Int) (b : Int) (Q : Int × Int -> Prop) : Prop :=
  Qt a (fun r12 => (((!r12) = true) -> (Q ((0 : Int), (6 : Int)))) /\ ((!r12) = false -> (Qt b (fun r15 => (((!r15) = true) -> (Q ((0 : Int), (6 : Int)))) /\ ((!r15) = false -> (YX a (fun r18 => YX b (fun r20 => YC r18 r20 (fun (r22, r23) => Q (r22, (0 : Int)))))))))))
theorem ok_Gcd {w : World} {Q : Int × Int -> Prop} {a : Int} {b : Int}  (hv : Ja0 a b Q) :
   Calls Try.prog 99 #[.int .i64 a, .int .i64 b] w <| Rt w fun v Qr => ∃ (r0 : Int) (r1 : Int), v = .tuple #[.int .i64 r0, .int .i64 r1] /\ Qr = [] /\ Q (r0, r1) := by
 refine Jm <| Jl (vs := [nI a, nI b]) [4, 5] XF99 rfl rfl rfl rfl ?_; have hS := Jp w; unfold Ja0 at hv; refine Je 9 <| SL.call hS (YL  hv) Jck rfl XN126 rfl rfl ?_; rintro _ _ w11 ⟨r12, rfl, rfl, hv⟩ hGw11 hS; have hS := hS.n0; refine Jab rfl rfl <| Jd rfl rfl ?_; rcases g13 : (!r12) with _ | _
 .have hv := hv.2 g13; refine Jb 3 <| SL.call hS (YL  hv) Jck rfl XN126 rfl rfl ?_; rintro _ _ w14 ⟨r15, rfl, rfl, hv⟩ hGw14 hS; have hS := hS.n0; refine Jb 4 <| Jg rfl (fun c16 => ?_) (fun c16 => ?_)
  .have hv := hv.1 (c16); refine Je 5 <| W.ret <| ⟨_, rfl, Fin.nil ?_⟩
   exact (hS.pick [] rfl).fin rfl ⟨(0 : Int), (6 : Int), rfl, rfl, hv⟩
  have hv := hv.2 (c16); refine Jh <| Je 3 <| SL.call hS (Jap  hv) Jcj rfl XN128 rfl rfl ?_; rintro _ _ w17 ⟨r18, rfl, rfl, hv⟩ hGw17 hS; have hS := hS.n0; refine Jd rfl rfl <| SL.call hS (Jap  hv) Jcj rfl XN128 rfl rfl ?_; rintro _ _ w19 ⟨r20, rfl, rfl, hv⟩ hGw19 hS; have hS := hS.n0; refine SL.call hS (Jby  hv) XF127 rfl XN127 rfl rfl ?_; rintro _ _ w21 ⟨r22, r23, rfl, rfl, hv⟩ hGw21 hS; have hS := hS.n0; refine Jb 6 <| Je 6 <| W.ret <| ⟨_, rfl, Fin.nil ?_⟩
  exact (hS.pick [] rfl).fin rfl ⟨r22, (0 : Int), rfl, rfl, hv⟩
 have hv := hv.1 g13; refine Jb 5 <| Jq rfl <| Je 5 <| W.ret <| ⟨_, rfl, Fin.nil ?_⟩
 exact (hS.pick [] rfl).fin rfl ⟨(0 : Int), (6 : Int), rfl, rfl, hv⟩
def QQ (x : Int) (n : Int) (Q : Int -> Prop) : Prop :=
  Qb x n (fun r12 => Ja0 r12 n (fun (r14, r15) => Q r14))
theorem Y9 {w : World} {Q : Int -> Prop} {x : Int} {n : Int}  (hv : QQ x n Q) :
  Calls Try.prog 59 #[.int .i64 x, .int .i64 n] w <| Rt w fun v Qr => ∃ (r0 : Int), v = .int .i64 r0 /\ Qr = [] /\ Q r0 := by
 refine Jm <| Jl (vs := [nI x, nI n]) [4] XF59 rfl rfl rfl rfl ?_; have hS := Jp w; unfold QQ at hv; refine Je 8 <| SL.call hS (Yb  hv) Jcl rfl XN100 rfl rfl ?_; rintro _ _ w11 ⟨r12, rfl, rfl, hv⟩ hGw11 hS; have hS := hS.n0; refine Jd rfl rfl <| SL.call hS (ok_Gcd  hv) XF99 rfl XN99 rfl rfl ?_; rintro _ _ w13 ⟨r14, r15, rfl, rfl, hv⟩ hGw13 hS; have hS := hS.n0; refine Jb 6 <| Je 5 <| W.ret <| ⟨_, rfl, Fin.nil ?_⟩
 exact (hS.pick [] rfl).fin rfl ⟨r14, rfl, rfl, hv⟩
def JO (r0 : Int) (r1 : Int) (r2 : Int) (r3 : Int) (r4 : Int) (Q : Int -> Prop) : Prop :=
  (I64 (r2 + 1)) /\ ((I64 ((r2 + 1) + r4)) /\ (Q ((r2 + 1) + r4)))
theorem Qs {w : World} {Q : Int -> Prop} {r0 : Int} {r1 : Int} {r2 : Int} {r3 : Int} {r4 : Int}  (hv : JO r0 r1 r2 r3 r4 Q) :
  Calls Try.prog 61 #[.agg #[.int .i64 r0, .int .i64 r1, .int .i64 r2, .int .i64 r3, .int .i64 r4]] w <| Rt w fun v Qr => ∃ (r0 : Int), v = .int .i64 r0 /\ Qr = [] /\ Q r0 := by
 refine Jm <| Jl (vs := [.agg #[nI r0, nI r1, nI r2, nI r3, nI r4]]) [2] Z9 rfl rfl rfl rfl ?_; have hS := Jp w; unfold JO at hv; refine Je 2 <| Q6 (z := 5) (cs := [nI r0, nI r1, nI r2, nI r3, nI r4]) hS rfl rfl rfl rfl ?_; intro g11 w12 hS; refine Jb 2 <| Je 2 <| Jc (off := 2) J2 rfl rfl <| Jo 0 2 XU3 hS rfl rfl rfl ⟨rfl, rfl⟩ ?_; obtain ⟨o13, hv⟩ := hv; refine WL.add (r := (r2 + 1)) rfl rfl (wr o13) rfl <| Jc (off := 4) JM rfl rfl <| Jo 0 4 XU3 hS rfl rfl rfl ⟨rfl, rfl⟩ ?_; obtain ⟨o14, hv⟩ := hv; refine WL.add (r := ((r2 + 1) + r4)) rfl rfl (wr o14) rfl <| Jb 2 <| W.ret <| ⟨_, rfl, Fin.nil ?_⟩
 exact (hS.pick [] rfl).fin rfl ⟨((r2 + 1) + r4), rfl, rfl, hv⟩
end Go.Proofs.Ytppkigdakobebaa
namespace Go.Proofs.Ytppkigdakobebaa
open Go.RowKit
def YD (n : Int) (l : LI) (Q : List Bool -> Prop) : Prop :=
  Yg n l (fun x12 => Q x12)
theorem ZE {w : World} {Q : List Bool -> Prop} {n : Int} {l : LI} {Bl : Nat} {Al : Option Addr} {nl kl : Nat} (hl : Rd Bl w 1 Al nl kl (is l)) (hv : YD n l Q) :
  Calls Try.prog 65 #[.int .i64 n, .slice Al nl kl] w <| Rt w fun v Qr => ∃ (x : List Bool) (g : Nat) (A : Option Addr) (c : Nat), v = .pointer (some ⟨g, 0, none⟩) /\ Qr = [.row 95 7 (some ⟨g, 0, none⟩) 1 1 [.slice A x.length c, .int .i64 1, .int .i64 0, .int .i64 0, .int .i64 0, .int .i64 0, .int .i64 0], .row 4 1 A x.length c (bs x)] /\ Q x := by
 have hnl := hl.ilen; subst hnl; refine Jm <| Jl (vs := [nI n, nS Al l kl]) [4] XF65 rfl rfl rfl rfl ?_; have hS := Jp w; unfold YD at hv; refine Je 8 <| SL.call hS (Ja4 (hS.ro hl) hv) XF53 rfl XN53 rfl rfl ?_; rintro _ _ w11 ⟨x12, A13, k14, rfl, rfl, hv⟩ hGw11 hS; have hS := hS.n1; refine JE (cells := #[nS A13 x12 k14, nI 1, nI 0, nI 0, nI 0, nI 0, nI 0]) XB95 rfl rfl rfl <| Q6 (z := 7) (cs := [nS A13 x12 k14, nI 1, nI 0, nI 0, nI 0, nI 0, nI 0]) hS rfl rfl rfl rfl ?_; intro g16 w17 hS; refine Jb 2 <| W.ret <| ⟨_, rfl, Fin.nil ?_⟩
 exact (hS.pick [0, 1] rfl).fin rfl ⟨x12, g16, A13, k14, rfl, rfl, hv⟩
def QU (z : List Bool) (Q : LI -> Prop) : Prop :=
  ∃ (I26 : LI -> Int -> Prop) (μ27 : LI -> Int -> Nat), I26 ([] : LI) (1 : Int) /\ ∀ (x21 : LI) (z25 : Int), (I26 x21 z25 -> (((2 : Int) ≠ 0 /\ I64 ((z.length : Int).tdiv (2 : Int))) /\ (((z25 <= (max (1 : Int) ((z.length : Int).tdiv (2 : Int)))) -> (∃ J35 : LI -> Bool -> Prop, (QQ z25 (z.length : Int) (fun r37 => ((r37 = 1) -> ((((x21.length : Nat) + (1 : Nat) : Int) * 8 <= 140737488355328) /\ (J35 (x21 ++ ([z25] : LI)) (decide (r37 = 1))))) /\ (¬ (r37 = 1) -> (J35 x21 (decide (r37 = 1)))))) /\ ∀ (x31 : LI) (b34 : Bool), (J35 x31 b34 -> ((I64 (z25 + 1)) /\ (I26 x31 (z25 + 1) /\ μ27 x31 (z25 + 1) < μ27 x21 z25))))) /\ (¬ (z25 <= (max (1 : Int) ((z.length : Int).tdiv (2 : Int)))) -> Q x21))))
theorem ZD {w : World} {Q : LI -> Prop} {z : List Bool} {az : Addr} {i0z i1z i2z i3z i4z i5z : Int} {Bz bz : Nat} {Az : Option Addr} {nz kz : Nat} (hz : Rd Bz w 1 Az nz kz (bs z)) (hcz : Rd bz w 7 (some az) 1 1 [.slice Az nz kz, .int .i64 i0z, .int .i64 i1z, .int .i64 i2z, .int .i64 i3z, .int .i64 i4z, .int .i64 i5z]) (hv : QU z Q) :
   Calls Try.prog 66 #[.pointer (some az)] w <| Rt w fun v Qr => ∃ (x : LI)  (A : Option Addr) (c : Nat), v = .slice A x.length c /\ Qr = [.row 3 1 A x.length c (is x)] /\ Q x := by
 have hnz := hz.blen; subst hnz; refine Jm <| Jl (vs := [.pointer (some az)]) [2] XF66 rfl rfl rfl rfl ?_; have hS := Jp w; unfold QU at hv; refine Je 8 <| Jc (off := 0) Jaa rfl rfl <| JI ZN rfl rfl (Rd.at_ (hS.ro hcz) (j := 0) rfl) rfl <| WL.len ZN rfl rfl <| Jb 2 <| Je 9 <| W.block ?_; obtain ⟨I26, μ27, hv, hk49⟩ := hv; have hS := hS.nil (e := 3) (z := 1); have hm0 : 0 = ([] : LI).length := (hS.rd (i := 0) rfl).ilen.symm; have hS := hS.relen (i := 0) rfl hm0
 change St _ _ _ _ [_] at hS
 refine JB (σ := LI × Int × Option Addr × Nat) (fun q w1 => match q with | (x21, z25, A22, k23) => I26 x21 z25 /\ St TT w none w1 [nR 3 A22 x21 k23]) (fun (x21, z25, A22, k23) => [(2, .slice none 0 0), (3, nI (z.length : Int)), (4, nS A22 x21 k23), (5, nI z25)]) (fun (x21, z25, A22, k23) => μ27 x21 z25) (([] : LI), (1 : Int), none, 0) ⟨hv, hS⟩ ⟨rfl, rfl, (sm (by first | rfl | assumption | omega)), rfl, trivial⟩ ?_; rintro ⟨x21, z25, A22, k23⟩ w28 ⟨hv, hS⟩; have hv := hk49 x21 z25 hv; refine Je 5 ?_; obtain ⟨o29, hv⟩ := hv; refine Jcm (r := ((z.length : Int).tdiv (2 : Int))) rfl rfl o29.1 (wr o29.2) rfl <| Yf (r := (max (1 : Int) ((z.length : Int).tdiv (2 : Int)))) rfl rfl rfl rfl <| Jb 2 <| Jg rfl (fun c30 => ?_) (fun c30 => ?_)
 .have hv := hv.1 (oT c30); refine Jh <| Jz ?_; obtain ⟨J35, hv, hk48⟩ := hv; refine Q4 (σ := LI × Bool × Option Addr × Nat) (fun q w1 => match q with | (x31, b34, A32, k33) => J35 x31 b34 /\ St TT w none w1 [nR 3 A32 x31 k33]) (fun (x31, b34, A32, k33) => [(2, .slice none 0 0), (3, nI (z.length : Int)), (4, nS A32 x31 k33), (5, nI z25), (15, .bool (decide (z25 <= (max (1 : Int) ((z.length : Int).tdiv (2 : Int)))))), (21, .bool b34)]) ?_ ?_
  .refine W.block ?_; refine Je 4 <| SL.call hS (Y9  hv) XF59 rfl XN59 rfl rfl ?_; rintro _ _ w36 ⟨r37, rfl, rfl, hv⟩ hGw36 hS; have hS := hS.n0; refine Jb 2 <| Jg rfl (fun c38 => ?_) (fun c38 => ?_)
   .have hv := hv.1 (oT c38); refine Je 3 <| QG (vs := is ([z25] : LI)) hS JK XE3 rfl rfl rfl rfl (JZ _) rfl ?_; intro A39 w40 hS; obtain ⟨o42, hv⟩ := hv; refine SL.append (cs := is x21) (cs' := is ([z25] : LI)) 1 ((x21 ++ ([z25] : LI)).length) (is (x21 ++ ([z25] : LI))) hS rfl JK XE3 (hS.rd (i := 0) rfl) (JZ _) rfl rfl (apk o42).1 (apk o42).2 (YQ (hS.rd (i := 1) rfl) (hS.rd (i := 0) rfl)) (J4 _ _) rfl ?_; intro A43 k44 w45 hS; refine Jb 2 ?_; have hS := hS.pick [1] rfl; exact ⟨(x21 ++ ([z25] : LI), (decide (r37 = 1)), A43, k44), sp rfl, rfl, hv, hS⟩
   have hv := hv.2 (oF c38); refine Jh ?_; exact ⟨(x21, (decide (r37 = 1)), A22, k23), sp rfl, rfl, hv, hS⟩
  rintro ⟨x31, b34, A32, k33⟩ w46 ⟨hv, hS⟩; have hv := hk48 x31 b34 hv; refine Je 2 ?_; obtain ⟨o47, hv⟩ := hv; refine WL.add (r := (z25 + 1)) rfl rfl (wr o47) rfl <| Jb 2 ?_; exact ⟨(x31, (z25 + 1), A32, k33), sp rfl, hv.2, rfl, hv.1, hS⟩
 have hv := hv.2 (oF c30); refine Jt <| Je 5 <| W.ret <| ⟨_, rfl, Fin.nil ?_⟩
 exact (hS.pick [0] rfl).fin rfl ⟨x21, A22, k23, rfl, rfl, hv⟩
def Qu (z : List Bool) (y : Int) (Q : LI -> Prop) : Prop :=
  (0 <= (z.length : Int) /\ (z.length : Int) * 8 <= 281474976710656 /\ (z.length : Int) <= 281474976710656) /\ (∃ (I21 : LI -> Int -> Prop) (μ22 : LI -> Int -> Nat), I21 (List.replicate (z.length : Int).toNat (0 : Int)) (0 : Int) /\ ∀ (x19 : LI) (z20 : Int), (I21 x19 z20 -> (((z20 < (((z.length : Int).toNat : Nat) : Int)) -> (∃ J27 : LI -> Bool -> Prop, (∃ (I31 : LI -> Prop) (μ32 : LI -> Nat), I31 x19 /\ ∀ (x30 : LI), (I31 x30 -> ((((gi x30 z20) < (z.length : Int)) -> ((0 <= z20 /\ z20 < ((z.length : Int).toNat : Nat)) /\ ((0 <= z20 /\ z20 < ((z.length : Int).toNat : Nat)) /\ ((I64 ((gi x30 z20) * y)) /\ ((I64 (z20 + ((gi x30 z20) * y))) /\ (((z.length : Int) ≠ 0) /\ ((0 <= ((z20 + ((gi x30 z20) * y)).tmod (z.length : Int)) /\ ((z20 + ((gi x30 z20) * y)).tmod (z.length : Int)) < (z.length : Nat)) /\ ((((gb z ((z20 + ((gi x30 z20) * y)).tmod (z.length : Int))) = true) -> ((0 <= z20 /\ z20 < ((z.length : Int).toNat : Nat)) /\ ((I64 ((gi x30 z20) + (1 : Int))) /\ ((0 <= z20 /\ z20 < ((z.length : Int).toNat : Nat)) /\ (I31 (si x30 z20 ((gi x30 z20) + (1 : Int))) /\ μ32 (si x30 z20 ((gi x30 z20) + (1 : Int))) < μ32 x30))))) /\ ((gb z ((z20 + ((gi x30 z20) * y)).tmod (z.length : Int))) = false -> (J27 x30 (gb z ((z20 + ((gi x30 z20) * y)).tmod (z.length : Int))))))))))))) /\ (¬ ((gi x30 z20) < (z.length : Int)) -> ((0 <= z20 /\ z20 < ((z.length : Int).toNat : Nat)) /\ J27 x30 false))))) /\ ∀ (x25 : LI) (b26 : Bool), (J27 x25 b26 -> ((I64 (z20 + 1)) /\ (I21 x25 (z20 + 1) /\ μ22 x25 (z20 + 1) < μ22 x19 z20))))) /\ (¬ (z20 < (((z.length : Int).toNat : Nat) : Int)) -> Q x19))))
theorem Y8 {w : World} {Q : LI -> Prop} {z : List Bool} {y : Int} {az : Addr} {i0z i1z i2z i3z i4z i5z : Int} {Bz bz : Nat} {Az : Option Addr} {nz kz : Nat} (hz : Rd Bz w 1 Az nz kz (bs z)) (hcz : Rd bz w 7 (some az) 1 1 [.slice Az nz kz, .int .i64 i0z, .int .i64 i1z, .int .i64 i2z, .int .i64 i3z, .int .i64 i4z, .int .i64 i5z]) (hv : Qu z y Q) :
   Calls Try.prog 67 #[.pointer (some az), .int .i64 y] w <| Rt w fun v Qr => ∃ (x : LI)  (A : Option Addr) (c : Nat), v = .slice A x.length c /\ Qr = [.row 3 1 A x.length c (is x)] /\ Q x := by
 have hnz := hz.blen; subst hnz; refine Jm <| Jl (vs := [.pointer (some az), nI y]) [4] XF67 rfl rfl rfl rfl ?_; have hS := Jp w; unfold Qu at hv; refine Je 8 <| Jc (off := 0) Jaa rfl rfl <| JI ZN rfl rfl (Rd.at_ (hS.ro hcz) (j := 0) rfl) rfl <| WL.len ZN rfl rfl <| Jb 2 <| Je 3 ?_; obtain ⟨o11, hv⟩ := hv; refine Ja1 (J := (z.length : Int)) hS JK XE3 rfl rfl o11 (Jc2 _) rfl ?_; intro A12 w13 hS; refine Jb 2 <| Je 4 <| WL.len JK rfl rfl <| Jb 2 <| W.block ?_; obtain ⟨I21, μ22, hv, hk101⟩ := hv; refine JB (σ := LI × Int) (fun q w1 => match q with | (x19, z20) => I21 x19 z20 /\ St TT w none w1 [.row 3 1 A12 ((z.length : Int).toNat) ((z.length : Int).toNat) (is x19)]) (fun (x19, z20) => [(0, .pointer (some az)), (1, nI y), (4, .slice none 0 0), (5, nI (z.length : Int)), (6, .slice A12 ((z.length : Int).toNat) ((z.length : Int).toNat)), (16, nI (((z.length : Int).toNat : Nat) : Int)), (17, nI z20)]) (fun (x19, z20) => μ22 x19 z20) (List.replicate (z.length : Int).toNat (0 : Int), (0 : Int)) ⟨hv, hS⟩ ⟨rfl, rfl, rfl, rfl, rfl, rfl, rfl, trivial⟩ ?_; rintro ⟨x19, z20⟩ w23 ⟨hv, hS⟩; have hv := hk101 x19 z20 hv; refine Je 5 <| Jg rfl (fun c24 => ?_) (fun c24 => ?_)
 .have hv := hv.1 (oT c24); refine Jh <| Jz ?_; obtain ⟨J27, hv, hk100⟩ := hv; refine Q4 (σ := LI × Bool) (fun q w1 => match q with | (x25, b26) => J27 x25 b26 /\ St TT w none w1 [.row 3 1 A12 ((z.length : Int).toNat) ((z.length : Int).toNat) (is x25)]) (fun (x25, b26) => [(0, .pointer (some az)), (1, nI y), (4, .slice none 0 0), (5, nI (z.length : Int)), (6, .slice A12 ((z.length : Int).toNat) ((z.length : Int).toNat)), (7, nI z20), (16, nI (((z.length : Int).toNat : Nat) : Int)), (17, nI z20), (18, .bool (decide (z20 < (((z.length : Int).toNat : Nat) : Int)))), (43, .bool b26)]) ?_ ?_
  .refine W.block ?_; refine Je 5 <| W.block ?_; obtain ⟨I31, μ32, hv, hk97⟩ := hv; refine JB (σ := LI) (fun x30 w1 => I31 x30 /\ St TT w none w1 [.row 3 1 A12 ((z.length : Int).toNat) ((z.length : Int).toNat) (is x30)]) (fun x30 => [(0, .pointer (some az)), (1, nI y), (4, .slice none 0 0), (5, nI (z.length : Int)), (6, .slice A12 ((z.length : Int).toNat) ((z.length : Int).toNat)), (7, nI z20), (16, nI (((z.length : Int).toNat : Nat) : Int)), (17, nI z20), (18, .bool (decide (z20 < (((z.length : Int).toNat : Nat) : Int))))]) (fun x30 => μ32 x30) x19 ⟨hv, hS⟩ ⟨rfl, rfl, rfl, rfl, rfl, rfl, rfl, rfl, rfl, trivial⟩ ?_; rintro x30 w33 ⟨hv, hS⟩; have hv := hk97 x30 hv; refine Jz <| Jz ?_; by_cases g34 : (gi x30 z20) < (z.length : Int)
   .have hv := hv.1 g34; obtain ⟨o38, hv⟩ := hv; obtain ⟨o51, hv⟩ := hv; obtain ⟨o55, hv⟩ := hv; obtain ⟨o57, hv⟩ := hv; obtain ⟨o60, hv⟩ := hv; obtain ⟨o62, hv⟩ := hv; refine JQ 24 [⟨[], [6], true⟩, ⟨[], [7], true⟩, ⟨[0, 1], [], true⟩, ⟨[2], [], false⟩, ⟨[], [5], true⟩, ⟨[3, 4], [], true⟩, ⟨[5], [], true⟩, ⟨[6], [0], true⟩, ⟨[6, 7], [], true⟩, ⟨[6, 8], [], true⟩, ⟨[6, 9], [], false⟩, ⟨[6], [7], true⟩, ⟨[6], [6], true⟩, ⟨[6], [7], true⟩, ⟨[6, 12, 13], [], true⟩, ⟨[6, 14], [], false⟩, ⟨[6], [1], true⟩, ⟨[6, 15, 16], [], true⟩, ⟨[6, 11, 17], [], true⟩, ⟨[6], [5], true⟩, ⟨[6, 18, 19], [], true⟩, ⟨[6, 10, 20], [], true⟩, ⟨[6, 21], [], false⟩, ⟨[6, 22], [], true⟩] [(20, .slice A12 ((z.length : Int).toNat) ((z.length : Int).toNat)), (21, nI z20), (22, .pointer (some ((Qc A12).add z20.toNat))), (23, nI (gi x30 z20)), (24, nI (z.length : Int)), (25, .bool true), (26, .bool true), (27, .pointer (some az)), (28, .pointer (some az)), (29, .pointer (some az)), (30, nS Az z kz), (31, nI z20), (32, .slice A12 ((z.length : Int).toNat) ((z.length : Int).toNat)), (33, nI z20), (34, .pointer (some ((Qc A12).add z20.toNat))), (35, nI (gi x30 z20)), (36, nI y), (37, nI ((gi x30 z20) * y)), (38, nI (z20 + ((gi x30 z20) * y))), (39, nI (z.length : Int)), (40, nI ((z20 + ((gi x30 z20) * y)).tmod (z.length : Int))), (41, .pointer (some ((Qc Az).add (((z20 + ((gi x30 z20) * y)).tmod (z.length : Int)).toNat)))), (42, .bool (gb z ((z20 + ((gi x30 z20) * y)).tmod (z.length : Int)))), (43, .bool (gb z ((z20 + ((gi x30 z20) * y)).tmod (z.length : Int))))] Try.mixed (by kernel_rfl) rfl rfl ?_ ?_
    .refine ⟨oD, oD, fun _ _ _ => JF JK XE3 (hS.rd (i := 0) rfl) rfl rfl o38 rfl <| Ja ⟨rfl, rfl⟩, og hS fun _ _ hS => JI XU3 rfl rfl (Qw (hS.rd (i := 0) rfl) o38) rfl <| Ja ⟨rfl, Ji _⟩, oD, ?_, oD, oD, oD, fun _ _ _ => WL.take rfl <| Jc (off := 0) Jaa rfl rfl <| Ja ⟨rfl, rfl⟩, og hS fun _ _ hS => WL.take rfl <| JI ZN rfl rfl (Rd.at_ (hS.ro hcz) (j := 0) rfl) rfl <| Ja ⟨rfl, Ji _⟩, oD, oD, oD, fun _ _ _ => WL.take rfl <| JF JK XE3 (hS.rd (i := 0) rfl) rfl rfl o51 rfl <| Ja ⟨rfl, rfl⟩, og hS fun _ _ hS => WL.take rfl <| JI XU3 rfl rfl (Qw (hS.rd (i := 0) rfl) o51) rfl <| Ja ⟨rfl, Ji _⟩, oD, fun _ _ _ => WL.take rfl <| J3 (r := ((gi x30 z20) * y)) rfl rfl (wr o55) rfl <| Ja ⟨rfl, rfl⟩, fun _ _ _ => WL.take rfl <| WL.add (r := (z20 + ((gi x30 z20) * y))) rfl rfl (wr o57) rfl <| Ja ⟨rfl, rfl⟩, oD, fun _ _ _ => WL.take rfl <| Q3 (r := ((z20 + ((gi x30 z20) * y)).tmod (z.length : Int))) rfl rfl o60 rfl rfl <| Ja ⟨rfl, rfl⟩, fun _ _ _ => WL.take rfl <| JF ZN XE4 (hS.ro hz) rfl rfl o62 rfl <| Ja ⟨rfl, rfl⟩, og hS fun _ _ hS => WL.take rfl <| JI XU4 rfl rfl (Rd.gb (hS.ro hz) o62) rfl <| Ja ⟨rfl, Ji _⟩, oD, trivial⟩; intro w41 hE RR; refine Zq rfl rfl rfl ?_; rw [decide_eq_true g34]; exact Ja ⟨rfl, rfl⟩
    intro w65 hT; have hS := hS.grow hT; refine JH <| Jg rfl (fun c66 => ?_) (fun c66 => ?_)
    .have hv := hv.1 (c66); refine Jh <| W.block <| Je 3 ?_; obtain ⟨o67, hv⟩ := hv; refine JF JK XE3 (hS.rd (i := 0) rfl) rfl rfl o67 rfl <| JI XU3 rfl rfl (Qw (hS.rd (i := 0) rfl) o67) rfl ?_; obtain ⟨o68, hv⟩ := hv; refine WL.add (r := ((gi x30 z20) + (1 : Int))) rfl rfl (wr o68) rfl ?_; obtain ⟨o69, hv⟩ := hv; refine JF JK XE3 (hS.rd (i := 0) rfl) rfl rfl o69 rfl <| Jn (cs' := is (si x30 z20 ((gi x30 z20) + (1 : Int)))) 0 z20.toNat hS rfl XE3 rfl rfl rfl (is_lt (hS.rd (i := 0) rfl) o69) (is_set _ _ _) ?_; intro w70 hS; refine Ja ?_; exact ⟨si x30 z20 ((gi x30 z20) + (1 : Int)), sp rfl, hv.2, rfl, hv.1, hS⟩
    have hv := hv.2 (c66); refine Jt ?_; exact ⟨(x30, (gb z ((z20 + ((gi x30 z20) * y)).tmod (z.length : Int)))), sp rfl, rfl, hv, hS⟩
   have hv := hv.2 g34; obtain ⟨o74, hv⟩ := hv; refine JQ 24 [⟨[], [6], true⟩, ⟨[], [7], true⟩, ⟨[0, 1], [], true⟩, ⟨[2], [], false⟩, ⟨[], [5], true⟩, ⟨[3, 4], [], true⟩, ⟨[5], [], true⟩, ⟨[6], [0], true⟩, ⟨[6, 7], [], true⟩, ⟨[6, 8], [], true⟩, ⟨[6, 9], [], false⟩, ⟨[6], [7], true⟩, ⟨[6], [6], true⟩, ⟨[6], [7], true⟩, ⟨[6, 12, 13], [], true⟩, ⟨[6, 14], [], false⟩, ⟨[6], [1], true⟩, ⟨[6, 15, 16], [], true⟩, ⟨[6, 11, 17], [], true⟩, ⟨[6], [5], true⟩, ⟨[6, 18, 19], [], true⟩, ⟨[6, 10, 20], [], true⟩, ⟨[6, 21], [], false⟩, ⟨[6, 22], [], true⟩] [(20, .slice A12 ((z.length : Int).toNat) ((z.length : Int).toNat)), (21, nI z20), (22, .pointer (some ((Qc A12).add z20.toNat))), (23, nI (gi x30 z20)), (24, nI (z.length : Int)), (25, .bool false), (26, .bool false), (27, undef), (28, undef), (29, undef), (30, undef), (31, undef), (32, undef), (33, undef), (34, undef), (35, undef), (36, undef), (37, undef), (38, undef), (39, undef), (40, undef), (41, undef), (42, undef), (43, .bool false)] Try.mixed (by kernel_rfl) rfl rfl ?_ ?_
   .refine ⟨oD, oD, fun _ _ _ => JF JK XE3 (hS.rd (i := 0) rfl) rfl rfl o74 rfl <| Ja ⟨rfl, rfl⟩, og hS fun _ _ hS => JI XU3 rfl rfl (Qw (hS.rd (i := 0) rfl) o74) rfl <| Ja ⟨rfl, Ji _⟩, oD, ?_, oD, oD, oD, oD, oD, oD, oD, oD, oD, oD, oD, oD, oD, oD, oD, oD, oD, oD, trivial⟩; intro w77 hE RR; refine Zq rfl rfl rfl ?_; rw [decide_eq_false g34]; exact Ja ⟨rfl, rfl⟩
   intro w96 hT; have hS := hS.grow hT; refine JH <| QF rfl <| Jt ?_; exact ⟨(x30, false), sp rfl, rfl, hv, hS⟩
  rintro ⟨x25, b26⟩ w98 ⟨hv, hS⟩; have hv := hk100 x25 b26 hv; refine JS ?_; obtain ⟨o99, hv⟩ := hv; refine WL.add (r := (z20 + 1)) rfl rfl (wr o99) rfl <| Jb 2 ?_; exact ⟨(x25, (z20 + 1)), sp rfl, hv.2, rfl, hv.1, hS⟩
 have hv := hv.2 (oF c24); refine Jt <| Je 5 <| W.ret ?_; have hm := (hS.rd (i := 0) rfl).ilen; have hS := hS.relen (i := 0) rfl hm.symm; refine ⟨_, rfl, Fin.nil ?_⟩; exact ⟨_, hS.ext, (hS.pick [0] rfl).rows, YE (hS.pick [0] rfl).rows rfl, ⟨x19, A12, (z.length : Int).toNat, (by rw [hm]), rfl, hv⟩⟩
end Go.Proofs.Ytppkigdakobebaa
namespace Go.Proofs.Ytppkigdakobebaa
open Go.RowKit
def Qo (n : Int) (l : LI) (Q : Int × Int × Int × Int × Int × Int × Int -> Prop) : Prop :=
  Qk n (fun r14 => (((!r14) = true) -> (Q ((0 : Int), (0 : Int), (0 : Int), (0 : Int), (0 : Int), (0 : Int), (4 : Int)))) /\ ((!r14) = false -> (YD n l (fun x19 => QU x19 (fun x24 => ∃ (I43 : Int -> Int -> Int -> Int -> Int -> Prop) (μ44 : Int -> Int -> Int -> Int -> Int -> Nat), I43 1 (0 : Int) (0 : Int) (0 : Int) (0 : Int) /\ ∀ (z38 : Int) (z39 : Int) (z40 : Int) (z41 : Int) (z42 : Int), (I43 z38 z39 z40 z41 z42 -> (((z42 < (x24.length : Int)) -> ((0 <= z42 /\ z42 < (x24.length : Nat)) /\ (Qu x19 (gi x24 z42) (fun x49 => ∃ (I68 : Int -> Int -> Int -> Int -> Int -> Prop) (μ69 : Int -> Int -> Int -> Int -> Int -> Nat), I68 z38 z39 z40 z41 0 /\ ∀ (z63 : Int) (z64 : Int) (z65 : Int) (z66 : Int) (z67 : Int), (I68 z63 z64 z65 z66 z67 -> (((z67 < (x49.length : Int)) -> ((0 <= z67 /\ z67 < (x49.length : Nat)) /\ (∃ (r83 : Int), JO z67 (gi x24 z42) (gi x49 z67) (0 : Int) (0 : Int) (fun q => q = r83) /\ (((z63 < r83) -> (∃ (r97 : Int), JO z67 (gi x24 z42) (gi x49 z67) (0 : Int) (0 : Int) (fun q => q = r97) /\ ((fun (z73 : Int) (z74 : Int) (z75 : Int) (z76 : Int) => (I64 (z67 + 1)) /\ (I68 z73 z74 z75 z76 (z67 + 1) /\ μ69 z73 z74 z75 z76 (z67 + 1) < μ69 z63 z64 z65 z66 z67)) r97 z67 (gi x24 z42) (gi x49 z67)))) /\ (¬ (z63 < r83) -> ((fun (z73 : Int) (z74 : Int) (z75 : Int) (z76 : Int) => (I64 (z67 + 1)) /\ (I68 z73 z74 z75 z76 (z67 + 1) /\ μ69 z73 z74 z75 z76 (z67 + 1) < μ69 z63 z64 z65 z66 z67)) z63 z64 z65 z66)))))) /\ (¬ (z67 < (x49.length : Int)) -> ((I64 (z42 + 1)) /\ (I43 z63 z64 z65 z66 (z42 + 1) /\ μ44 z63 z64 z65 z66 (z42 + 1) < μ44 z38 z39 z40 z41 z42))))))))) /\ (¬ (z42 < (x24.length : Int)) -> (Q (z38, z39, z40, z41, (0 : Int), (0 : Int), (0 : Int)))))))))))
theorem QJ {w : World} {Q : Int × Int × Int × Int × Int × Int × Int -> Prop} {n : Int} {l : LI} {Bl : Nat} {Al : Option Addr} {nl kl : Nat} (hl : Rd Bl w 1 Al nl kl (is l)) (hv : Qo n l Q) :
   Calls Try.prog 24 #[.int .i64 n, .slice Al nl kl] w <| Rt w fun v Qr => ∃ (r0 : Int) (r1 : Int) (r2 : Int) (r3 : Int) (r4 : Int) (r5 : Int) (r6 : Int), v = .tuple #[.int .i64 r0, .agg #[.int .i64 r1, .int .i64 r2, .int .i64 r3, .int .i64 r4, .int .i64 r5], .int .i64 r6] /\ Qr = [] /\ Q (r0, r1, r2, r3, r4, r5, r6) := by
 have hnl := hl.ilen; subst hnl; refine Jm <| Yw (vs := [nI n, nS Al l kl]) [.tmp 4, .cell 5 38, .tmp 6] Jbj rfl rfl rfl rfl ?_; have hS := Jp w; unfold Qo at hv; refine Je 3 <| SL.alloc (cs := [nI 0, nI 0, nI 0, nI 0, nI 0]) hS Jk rfl rfl ?_; intro g11 w12 hS; refine Jb 2 <| Je 4 <| SL.call hS (Yu  hv) XF48 rfl XN48 rfl rfl ?_; rintro _ _ w13 ⟨r14, rfl, rfl, hv⟩ hGw13 hS; have hS := hS.n0; refine Jb 2 <| Jg rfl (fun c15 => ?_) (fun c15 => ?_)
 .have hv := hv.1 (c15); refine Je 2 <| JE (cells := #[nI 0, nI 0, nI 0, nI 0, nI 0]) QW rfl rfl rfl <| JG rfl rfl <| JC (cs := [nI 0, nI 0, nI 0, nI 0, nI 0]) 0 hS rfl Jk rfl rfl rfl rfl rfl ?_; intro w16 hS; refine Jb 2 <| W.ret ?_
  repeat with_reducible first | refine blk.ret ?_ | refine exits.retI ?_
  refine endC.mk ⟨[nI 0, .agg #[nI 0, nI 0, nI 0, nI 0, nI 0], nI 4], ⟨_, _, rfl, rfl, ⟨_, _, _, rfl, rfl, Qq (cs := [nI 0, nI 0, nI 0, nI 0, nI 0]) Jk JA rfl (J6 (hS.own (i := 0) rfl)), ⟨_, _, rfl, rfl, rfl⟩⟩⟩, ?_⟩; exact (hS.pick [] rfl).fin rfl ⟨(0 : Int), (0 : Int), (0 : Int), (0 : Int), (0 : Int), (0 : Int), (4 : Int), rfl, rfl, hv⟩
 have hv := hv.2 (c15); refine Jh <| Je 4 <| SL.call hS (ZE (hS.ro hl) hv) XF65 rfl XN65 rfl rfl ?_; rintro _ _ w17 ⟨x19, g18, A20, k21, rfl, rfl, hv⟩ hGw17 hS; have hS := hS.n2; refine Jb 2 <| Je 4 <| SL.call hS (ZD (hS.rd (i := 1) rfl) (hS.rd (i := 0) rfl) hv) XF66 rfl XN66 rfl rfl ?_; rintro _ _ w23 ⟨x24, A25, k26, rfl, rfl, hv⟩ hGw23 hS; have hS := hS.n1; refine WL.len JK rfl rfl <| Jb 2 <| W.block ?_; obtain ⟨I43, μ44, hv, hk119⟩ := hv; refine JB (σ := Int × Int × Int × Int × Int) (fun q w1 => match q with | (z38, z39, z40, z41, z42) => I43 z38 z39 z40 z41 z42 /\ St TT w none w1 [nR 3 A25 x24 k26, .row 95 7 (nA g18) 1 1 [nS A20 x19 k21, nI z38, nI z39, nI z40, nI z41, nI 0, nI 0], .row 4 1 A20 x19.length k21 (bs x19), .row 38 5 (nA g11) 1 1 [nI 0, nI 0, nI 0, nI 0, nI 0]]) (fun (z38, z39, z40, z41, z42) => [(4, nI 0), (5, nP g11), (6, nI 0), (7, nP g18), (20, nS A25 x24 k26), (21, nI (x24.length : Int)), (22, nI z42)]) (fun (z38, z39, z40, z41, z42) => μ44 z38 z39 z40 z41 z42) ((1 : Int), (0 : Int), (0 : Int), (0 : Int), (0 : Int)) ⟨hv, hS⟩ ⟨rfl, rfl, rfl, rfl, rfl, rfl, rfl, trivial⟩ ?_; rintro ⟨z38, z39, z40, z41, z42⟩ w45 ⟨hv, hS⟩; have hv := hk119 z38 z39 z40 z41 z42 hv; refine Je 5 <| Jg rfl (fun c46 => ?_) (fun c46 => ?_)
 .have hv := hv.1 (oT c46); refine Jh <| Jz <| W.block <| Je 2 ?_; obtain ⟨o47, hv⟩ := hv; refine JF JK XE3 (hS.rd (i := 0) rfl) rfl rfl o47 rfl <| JI XU3 rfl rfl (Qw (hS.rd (i := 0) rfl) o47) rfl <| Jb 2 <| Je 4 <| SL.call hS (Y8 (hS.rd (i := 2) rfl) (hS.rd (i := 1) rfl) hv) XF67 rfl XN67 rfl rfl ?_; rintro _ _ w48 ⟨x49, A50, k51, rfl, rfl, hv⟩ hGw48 hS; have hS := hS.n1; refine WL.len JK rfl rfl <| Jb 2 <| W.block ?_; obtain ⟨I68, μ69, hv, hk107⟩ := hv; refine JB (σ := Int × Int × Int × Int × Int) (fun q w1 => match q with | (z63, z64, z65, z66, z67) => I68 z63 z64 z65 z66 z67 /\ St TT w none w1 [nR 3 A50 x49 k51, nR 3 A25 x24 k26, .row 95 7 (nA g18) 1 1 [nS A20 x19 k21, nI z63, nI z64, nI z65, nI z66, nI 0, nI 0], .row 4 1 A20 x19.length k21 (bs x19), .row 38 5 (nA g11) 1 1 [nI 0, nI 0, nI 0, nI 0, nI 0]]) (fun (z63, z64, z65, z66, z67) => [(4, nI 0), (5, nP g11), (6, nI 0), (7, nP g18), (9, nI (gi x24 z42)), (20, nS A25 x24 k26), (21, nI (x24.length : Int)), (22, nI z42), (23, .bool (decide (z42 < (x24.length : Int)))), (28, nS A50 x49 k51), (29, nI (x49.length : Int)), (30, nI z67)]) (fun (z63, z64, z65, z66, z67) => μ69 z63 z64 z65 z66 z67) (z38, z39, z40, z41, (0 : Int)) ⟨hv, hS⟩ ⟨rfl, rfl, rfl, rfl, rfl, rfl, rfl, rfl, rfl, rfl, rfl, rfl, trivial⟩ ?_; rintro ⟨z63, z64, z65, z66, z67⟩ w70 ⟨hv, hS⟩; have hv := hk107 z63 z64 z65 z66 z67 hv; refine Je 5 <| Jg rfl (fun c71 => ?_) (fun c71 => ?_)
  .have hv := hv.1 (oT c71); refine Jh <| Jz <| W.block <| Je 3 ?_; obtain ⟨o72, hv⟩ := hv; refine JF JK XE3 (hS.rd (i := 0) rfl) rfl rfl o72 rfl <| JI XU3 rfl rfl (Qw (hS.rd (i := 0) rfl) o72) rfl <| Jb 3 <| Je 5 <| JE (cells := #[nI z67, nI (gi x24 z42), nI (gi x49 z67), nI 0, nI 0]) QW rfl rfl rfl <| QP (vs := [nP g18, .agg #[nI z67, nI (gi x24 z42), nI (gi x49 z67), nI 0, nI 0]]) (cs := []) (R := fun v1 w1 => ∃ (z73 : Int) (z74 : Int) (z75 : Int) (z76 : Int), v1 = .tuple #[] /\ ((I64 (z67 + 1)) /\ (I68 z73 z74 z75 z76 (z67 + 1) /\ μ69 z73 z74 z75 z76 (z67 + 1) < μ69 z63 z64 z65 z66 z67)) /\ St TT w none w1 [nR 3 A50 x49 k51, nR 3 A25 x24 k26, .row 95 7 (nA g18) 1 1 [nS A20 x19 k21, nI z73, nI z74, nI z75, nI z76, nI 0, nI 0], .row 4 1 A20 x19.length k21 (bs x19), .row 38 5 (nA g11) 1 1 [nI 0, nI 0, nI 0, nI 0, nI 0]]) rfl Jbg rfl XN68 rfl rfl (Jl (vs := [nP g18, .agg #[nI z67, nI (gi x24 z42), nI (gi x49 z67), nI 0, nI 0]]) [] Jbg rfl rfl rfl rfl ?_) ?_
   .refine Jz ?_; refine JS <| Q6 (z := 5) (cs := [nI z67, nI (gi x24 z42), nI (gi x49 z67), nI 0, nI 0]) hS rfl rfl rfl rfl ?_; intro g79 w80 hS; refine Ja <| Jz ?_; obtain ⟨r83, o85, hv⟩ := hv; refine JQ 7 [⟨[], [3], false⟩, ⟨[0], [], false⟩, ⟨[], [0], true⟩, ⟨[2], [], true⟩, ⟨[3], [], true⟩, ⟨[4], [], false⟩, ⟨[1, 5], [], true⟩] [(4, .agg #[nI z67, nI (gi x24 z42), nI (gi x49 z67), nI 0, nI 0]), (5, nI r83), (6, nP g18), (7, nP g18), (8, .pointer (some ((⟨g18, 0, none⟩ : Addr).add 1))), (9, nI z63), (10, .bool (decide (z63 < r83)))] Try.mixed (by kernel_rfl) rfl rfl ?_ ?_
    . refine ⟨og hS fun _ _ hS => Jr 0 Jk JA hS rfl ⟨rfl, rfl⟩ rfl <| Ja ⟨rfl, Ji _⟩, ?_, oD, oD, fun _ _ _ => Jc (off := 1) QO rfl rfl <| Ja ⟨rfl, rfl⟩, og hS fun _ _ hS => Jo 3 1 XU3 hS rfl rfl rfl ⟨rfl, rfl⟩ <| Ja ⟨rfl, Ji _⟩, oD, trivial⟩; intro w82 hE RR; refine WL.call Z9 rfl Jbf rfl rfl (Jw (Qs  o85)) ?_; rintro _ w84 ⟨_, hGw84, hRww84, hNww84, r83q, rfl, rfl, he⟩; subst he; exact Ja ⟨rfl, hGw84⟩
    intro w91 hT; have hS := hS.grow hT; refine JH <| Jg rfl (fun c92 => ?_) (fun c92 => ?_)
    .have hv := hv.1 (oT c92); obtain ⟨r97, o99, hv⟩ := hv; have hS0 := hS; refine Zs 7 [1, 4] (fun _ => false) (fun _ => none) (fun _ v u => u = v) [⟨[], [0], true⟩, ⟨[], [0], true⟩, ⟨[], [3], false⟩, ⟨[2], [], false⟩, ⟨[], [3], false⟩, ⟨[0], [], true⟩, ⟨[5], [], true⟩] [.k 11 (nP g18), .k 12 (nP g18), .k 13 (.agg #[nI z67, nI (gi x24 z42), nI (gi x49 z67), nI 0, nI 0]), .k 14 (nI r97), .k 15 (.agg #[nI z67, nI (gi x24 z42), nI (gi x49 z67), nI 0, nI 0]), .k 16 (nP g18), .k 17 (.pointer (some ((⟨g18, 0, none⟩ : Addr).add 1)))] (fun _ => vbD) Try.mixed (by kernel_rfl) rfl rfl (fun _ _ _ _ _ _ _ h => h) ?_ ?_
     .refine ⟨oC, oC, og hS fun _ _ hS => Jr 0 Jk JA hS rfl ⟨rfl, rfl⟩ rfl <| Ja ⟨rfl, Ji _⟩, ?_, og hS fun _ _ hS => Jr 0 Jk JA hS rfl ⟨rfl, rfl⟩ rfl <| Ja ⟨rfl, Ji _⟩, oC, fun _ _ _ => Jc (off := 1) QO rfl rfl <| Ja ⟨rfl, rfl⟩, trivial⟩; intro w96 hE; intro RR; refine WL.call Z9 rfl Jbf rfl rfl (Jw (Qs  o99)) ?_; rintro _ w98 ⟨_, hGw98, hRww98, hNww98, r97q, rfl, rfl, he⟩; subst he; exact Ja ⟨rfl, hGw98⟩
     intro X hX; have hX : X ∈ ([[], [4], [1], [1, 4]] : List (List Nat)) := hX; simp only [List.mem_cons, List.not_mem_nil, or_false] at hX; rcases hX with rfl | rfl | rfl | rfl
     .intro vals w103 hT hVs hAp hCp q_ hq_; have hS := hS.grow hT; obtain rfl : q_ = 4 := hq_.trans (by decide +kernel); refine Jf 7 rfl <| Jn (cs' := [nS A20 x19 k21, nI r97, nI z64, nI z65, nI z66, nI 0, nI 0]) 3 1 hS rfl XE3 rfl rfl rfl (Ju rfl) rfl ?_; intro w104 hS; refine Ja <| Jf 8 rfl <| Jb 2 <| Jf 9 rfl <| Jc (off := 2) Js rfl rfl <| Ja <| Jf 10 rfl <| Jj (cs' := [nS A20 x19 k21, nI r97, nI z67, nI (gi x24 z42), nI (gi x49 z67), nI 0, nI 0]) 3 2 hS rfl Jk rfl rfl rfl rfl rfl rfl ?_; intro w105 hS; refine Ja <| JH ?_; have hS := hS.pick [1, 2, 3, 4, 5] rfl; refine ⟨_, rfl, Fin.nil ?_⟩; exact ⟨r97, z67, (gi x24 z42), (gi x49 z67), rfl, hv, hS⟩
     .intro vals w103 hT hVs hAp hCp q_ hq_; have hS := hS.grow hT; obtain rfl : q_ = 5 := hq_.trans (by decide +kernel); refine Qj 4 7 rfl rfl ?_ ?_
      .refine Jr 0 Jk JA hS rfl ⟨rfl, rfl⟩ rfl <| Ja <| Jf 7 rfl <| Jn (cs' := [nS A20 x19 k21, nI r97, nI z64, nI z65, nI z66, nI 0, nI 0]) 3 1 hS rfl XE3 rfl rfl rfl (Ju rfl) rfl ?_; intro w104 hS; refine Ja <| Jf 8 rfl <| Jb 2 <| Jf 9 rfl <| Jc (off := 2) Js rfl rfl <| Ja <| Jf 10 rfl <| Jj (cs' := [nS A20 x19 k21, nI r97, nI z67, nI (gi x24 z42), nI (gi x49 z67), nI 0, nI 0]) 3 2 hS rfl Jk rfl rfl rfl rfl rfl rfl ?_; intro w105 hS; refine Ja <| JH ?_; have hS := hS.pick [1, 2, 3, 4, 5] rfl; refine ⟨_, rfl, Fin.nil ?_⟩; exact ⟨r97, z67, (gi x24 z42), (gi x49 z67), rfl, hv, hS⟩
      refine Jn (cs' := [nS A20 x19 k21, nI r97, nI z64, nI z65, nI z66, nI 0, nI 0]) 3 1 hS rfl XE3 rfl rfl rfl (Ju rfl) rfl ?_; intro w104 hS; refine Ja <| Jf 4 rfl <| Jr 0 Jk JA hS rfl ⟨rfl, rfl⟩ rfl <| Ja <| Jf 8 rfl <| Jb 2 <| Jf 9 rfl <| Jc (off := 2) Js rfl rfl <| Ja <| Jf 10 rfl <| Jj (cs' := [nS A20 x19 k21, nI r97, nI z67, nI (gi x24 z42), nI (gi x49 z67), nI 0, nI 0]) 3 2 hS rfl Jk rfl rfl rfl rfl rfl rfl ?_; intro w105 hS; refine Ja <| JH ?_; have hS := hS.pick [1, 2, 3, 4, 5] rfl; refine ⟨_, rfl, Fin.nil ?_⟩; exact ⟨r97, z67, (gi x24 z42), (gi x49 z67), rfl, hv, hS⟩
     .intro vals w103 hT hVs hAp hCp q_ hq_; have hS := hS.grow hT; obtain rfl : q_ = 5 := hq_.trans (by decide +kernel); refine Qj 1 7 rfl rfl ?_ ?_
      .refine Jb 2 <| Jf 7 rfl <| Jn (cs' := [nS A20 x19 k21, nI r97, nI z64, nI z65, nI z66, nI 0, nI 0]) 3 1 hS rfl XE3 rfl rfl rfl (Ju rfl) rfl ?_; intro w104 hS; refine Ja <| Jf 8 rfl <| Jb 2 <| Jf 9 rfl <| Jc (off := 2) Js rfl rfl <| Ja <| Jf 10 rfl <| Jj (cs' := [nS A20 x19 k21, nI r97, nI z67, nI (gi x24 z42), nI (gi x49 z67), nI 0, nI 0]) 3 2 hS rfl Jk rfl rfl rfl rfl rfl rfl ?_; intro w105 hS; refine Ja <| JH ?_; have hS := hS.pick [1, 2, 3, 4, 5] rfl; refine ⟨_, rfl, Fin.nil ?_⟩; exact ⟨r97, z67, (gi x24 z42), (gi x49 z67), rfl, hv, hS⟩
      refine Jn (cs' := [nS A20 x19 k21, nI r97, nI z64, nI z65, nI z66, nI 0, nI 0]) 3 1 hS rfl XE3 rfl rfl rfl (Ju rfl) rfl ?_; intro w104 hS; refine Ja <| Jf 1 rfl <| Jb 2 <| Jf 8 rfl <| Jb 2 <| Jf 9 rfl <| Jc (off := 2) Js rfl rfl <| Ja <| Jf 10 rfl <| Jj (cs' := [nS A20 x19 k21, nI r97, nI z67, nI (gi x24 z42), nI (gi x49 z67), nI 0, nI 0]) 3 2 hS rfl Jk rfl rfl rfl rfl rfl rfl ?_; intro w105 hS; refine Ja <| JH ?_; have hS := hS.pick [1, 2, 3, 4, 5] rfl; refine ⟨_, rfl, Fin.nil ?_⟩; exact ⟨r97, z67, (gi x24 z42), (gi x49 z67), rfl, hv, hS⟩
     intro vals w103 hT hVs hAp hCp q_ hq_; have hS := hS.grow hT; obtain rfl : q_ = 6 := hq_.trans (by decide +kernel); refine Jcp 1 4 7 rfl rfl rfl ?_ ?_ ?_
     .refine Jb 2 <| Qj 4 7 rfl rfl ?_ ?_
      .refine Jr 0 Jk JA hS rfl ⟨rfl, rfl⟩ rfl <| Ja <| Jf 7 rfl <| Jn (cs' := [nS A20 x19 k21, nI r97, nI z64, nI z65, nI z66, nI 0, nI 0]) 3 1 hS rfl XE3 rfl rfl rfl (Ju rfl) rfl ?_; intro w104 hS; refine Ja <| Jf 8 rfl <| Jb 2 <| Jf 9 rfl <| Jc (off := 2) Js rfl rfl <| Ja <| Jf 10 rfl <| Jj (cs' := [nS A20 x19 k21, nI r97, nI z67, nI (gi x24 z42), nI (gi x49 z67), nI 0, nI 0]) 3 2 hS rfl Jk rfl rfl rfl rfl rfl rfl ?_; intro w105 hS; refine Ja <| JH ?_; have hS := hS.pick [1, 2, 3, 4, 5] rfl; refine ⟨_, rfl, Fin.nil ?_⟩; exact ⟨r97, z67, (gi x24 z42), (gi x49 z67), rfl, hv, hS⟩
      refine Jn (cs' := [nS A20 x19 k21, nI r97, nI z64, nI z65, nI z66, nI 0, nI 0]) 3 1 hS rfl XE3 rfl rfl rfl (Ju rfl) rfl ?_; intro w104 hS; refine Ja <| Jf 4 rfl <| Jr 0 Jk JA hS rfl ⟨rfl, rfl⟩ rfl <| Ja <| Jf 8 rfl <| Jb 2 <| Jf 9 rfl <| Jc (off := 2) Js rfl rfl <| Ja <| Jf 10 rfl <| Jj (cs' := [nS A20 x19 k21, nI r97, nI z67, nI (gi x24 z42), nI (gi x49 z67), nI 0, nI 0]) 3 2 hS rfl Jk rfl rfl rfl rfl rfl rfl ?_; intro w105 hS; refine Ja <| JH ?_; have hS := hS.pick [1, 2, 3, 4, 5] rfl; refine ⟨_, rfl, Fin.nil ?_⟩; exact ⟨r97, z67, (gi x24 z42), (gi x49 z67), rfl, hv, hS⟩
     .refine Jr 0 Jk JA hS rfl ⟨rfl, rfl⟩ rfl <| Ja <| Qj 1 7 rfl rfl ?_ ?_
      .refine Jb 2 <| Jf 7 rfl <| Jn (cs' := [nS A20 x19 k21, nI r97, nI z64, nI z65, nI z66, nI 0, nI 0]) 3 1 hS rfl XE3 rfl rfl rfl (Ju rfl) rfl ?_; intro w104 hS; refine Ja <| Jf 8 rfl <| Jb 2 <| Jf 9 rfl <| Jc (off := 2) Js rfl rfl <| Ja <| Jf 10 rfl <| Jj (cs' := [nS A20 x19 k21, nI r97, nI z67, nI (gi x24 z42), nI (gi x49 z67), nI 0, nI 0]) 3 2 hS rfl Jk rfl rfl rfl rfl rfl rfl ?_; intro w105 hS; refine Ja <| JH ?_; have hS := hS.pick [1, 2, 3, 4, 5] rfl; refine ⟨_, rfl, Fin.nil ?_⟩; exact ⟨r97, z67, (gi x24 z42), (gi x49 z67), rfl, hv, hS⟩
      refine Jn (cs' := [nS A20 x19 k21, nI r97, nI z64, nI z65, nI z66, nI 0, nI 0]) 3 1 hS rfl XE3 rfl rfl rfl (Ju rfl) rfl ?_; intro w104 hS; refine Ja <| Jf 1 rfl <| Jb 2 <| Jf 8 rfl <| Jb 2 <| Jf 9 rfl <| Jc (off := 2) Js rfl rfl <| Ja <| Jf 10 rfl <| Jj (cs' := [nS A20 x19 k21, nI r97, nI z67, nI (gi x24 z42), nI (gi x49 z67), nI 0, nI 0]) 3 2 hS rfl Jk rfl rfl rfl rfl rfl rfl ?_; intro w105 hS; refine Ja <| JH ?_; have hS := hS.pick [1, 2, 3, 4, 5] rfl; refine ⟨_, rfl, Fin.nil ?_⟩; exact ⟨r97, z67, (gi x24 z42), (gi x49 z67), rfl, hv, hS⟩
     refine Jn (cs' := [nS A20 x19 k21, nI r97, nI z64, nI z65, nI z66, nI 0, nI 0]) 3 1 hS rfl XE3 rfl rfl rfl (Ju rfl) rfl ?_; intro w104 hS; refine Ja <| Qj 1 4 rfl rfl ?_ ?_
     .refine Jb 2 <| Jf 4 rfl <| Jr 0 Jk JA hS rfl ⟨rfl, rfl⟩ rfl <| Ja <| Jf 8 rfl <| Jb 2 <| Jf 9 rfl <| Jc (off := 2) Js rfl rfl <| Ja <| Jf 10 rfl <| Jj (cs' := [nS A20 x19 k21, nI r97, nI z67, nI (gi x24 z42), nI (gi x49 z67), nI 0, nI 0]) 3 2 hS rfl Jk rfl rfl rfl rfl rfl rfl ?_; intro w105 hS; refine Ja <| JH ?_; have hS := hS.pick [1, 2, 3, 4, 5] rfl; refine ⟨_, rfl, Fin.nil ?_⟩; exact ⟨r97, z67, (gi x24 z42), (gi x49 z67), rfl, hv, hS⟩
     refine Jr 0 Jk JA hS rfl ⟨rfl, rfl⟩ rfl <| Ja <| Jf 1 rfl <| Jb 2 <| Jf 8 rfl <| Jb 2 <| Jf 9 rfl <| Jc (off := 2) Js rfl rfl <| Ja <| Jf 10 rfl <| Jj (cs' := [nS A20 x19 k21, nI r97, nI z67, nI (gi x24 z42), nI (gi x49 z67), nI 0, nI 0]) 3 2 hS rfl Jk rfl rfl rfl rfl rfl rfl ?_; intro w105 hS; refine Ja <| JH ?_; have hS := hS.pick [1, 2, 3, 4, 5] rfl; refine ⟨_, rfl, Fin.nil ?_⟩; exact ⟨r97, z67, (gi x24 z42), (gi x49 z67), rfl, hv, hS⟩
    have hv := hv.2 (oF c92); refine Jh ?_; have hS := hS.pick [1, 2, 3, 4, 5] rfl; refine ⟨_, rfl, Fin.nil ?_⟩; exact ⟨z63, z64, z65, z66, rfl, hv, hS⟩
   rintro _ w77 ⟨z73, z74, z75, z76, rfl, hv, hS⟩; refine Ja <| JS ?_; obtain ⟨o78, hv⟩ := hv; refine WL.add (r := (z67 + 1)) rfl rfl (wr o78) rfl <| Jb 2 ?_; exact ⟨(z73, z74, z75, z76, (z67 + 1)), sp rfl, hv.2, rfl, hv.1, hS⟩
  have hv := hv.2 (oF c71); refine Jt <| JS ?_; obtain ⟨o106, hv⟩ := hv; refine WL.add (r := (z42 + 1)) rfl rfl (wr o106) rfl <| Jb 2 ?_; have hS := hS.pick [1, 2, 3, 4] rfl; exact ⟨(z63, z64, z65, z66, (z42 + 1)), sp rfl, hv.2, rfl, hv.1, hS⟩
 have hv := hv.2 (oF c46); refine Jt <| Jz <| JQ 9 [⟨[], [7], true⟩, ⟨[0], [], true⟩, ⟨[1], [], true⟩, ⟨[2], [], false⟩, ⟨[], [7], true⟩, ⟨[4], [], true⟩, ⟨[5], [], true⟩, ⟨[6], [], false⟩, ⟨[3], [], true⟩] [(43, nP g18), (44, nP g18), (45, .pointer (some ((⟨g18, 0, none⟩ : Addr).add 1))), (46, nI z38), (47, nP g18), (48, nP g18), (49, .pointer (some ((⟨g18, 0, none⟩ : Addr).add 2))), (50, .agg #[nI z39, nI z40, nI z41, nI 0, nI 0]), (4, nI z38)] Try.mixed (by kernel_rfl) rfl rfl ?_ ?_
 . refine ⟨oD, oD, fun _ _ _ => Jc (off := 1) QO rfl rfl <| Ja ⟨rfl, rfl⟩, og hS fun _ _ hS => Jo 1 1 XU3 hS rfl rfl rfl ⟨rfl, rfl⟩ <| Ja ⟨rfl, Ji _⟩, oD, oD, fun _ _ _ => Jc (off := 2) Js rfl rfl <| Ja ⟨rfl, rfl⟩, og hS fun _ _ hS => YW (cs := [nI z39, nI z40, nI z41, nI 0, nI 0]) Jk JA rfl rfl (vpart (hS.rd (i := 1) rfl) 2 rfl) rfl <| Ja ⟨rfl, Ji _⟩, oD, trivial⟩
 intro w117 hT; have hS := hS.grow hT; refine Jf 9 rfl <| JC (cs := [nI z39, nI z40, nI z41, nI 0, nI 0]) 3 hS rfl Jk rfl rfl rfl rfl rfl ?_; intro w118 hS; refine Ja <| Jf 10 rfl <| Jb 2 <| JH <| W.ret ?_
 repeat with_reducible first | refine blk.ret ?_ | refine exits.retI ?_
 refine endC.mk ⟨[nI z38, .agg #[nI z39, nI z40, nI z41, nI 0, nI 0], nI 0], ⟨_, _, rfl, rfl, ⟨_, _, _, rfl, rfl, Qq (cs := [nI z39, nI z40, nI z41, nI 0, nI 0]) Jk JA rfl (J6 (hS.own (i := 3) rfl)), ⟨_, _, rfl, rfl, rfl⟩⟩⟩, ?_⟩; exact (hS.pick [] rfl).fin rfl ⟨z38, z39, z40, z41, (0 : Int), (0 : Int), (0 : Int), rfl, rfl, hv⟩
end Go.Proofs.Ytppkigdakobebaa
