/- Contracts of functions of the program, and what they lean on: Draw6, Mx, Mx2, Draw8, Draw7, Mx3, Gk, Draw9, Sx, Draw10, Nt, Xl, Draw11, Xm, Bl2, Xo, Xp, Sg, Facts, Ab, D1, D8. -/
import Derived.Test.YtppkigdakobebaaBchChecksG1
import Derived.Deep.MidRow
import Derived.Laws.StructEq
import Derived.Test.YtppkigdakobebaaProg
set_option linter.unusedSimpArgs false
set_option linter.unusedVariables false
namespace Go.Proofs.Ytppkigdakobebaa
open Go.RowKit
/-! ### regions that draw their order, where some operations may come late -/
def Ym : List Nat -> List (List Nat)
  | [] => [[]]
  | x :: l => Ym l ++ (Ym l).map (x :: ·)
theorem QH (p : Nat -> Bool) : ∀ l : List Nat, l.filter p ∈ Ym l
 | [] => by simp [Ym]
 | x :: l => by
  have ih := QH p l; rw [List.filter_cons]; cases h : p x
  .simp only [Bool.false_eq_true, if_false]; exact List.mem_append_left _ ih
  .simp only [if_true]; exact List.mem_append_right _ (List.mem_map.2 ⟨_, ih, rfl⟩)
def QS (n : Nat) (l : List Oper) (ps : List Plan) (m : Nat) (fs : List Nat) : Bool :=
  ps.length == m && Nat.ble m l.length && (List.range l.length).all (fun i => (Jp l i).all (fun j => Nat.blt j i)) &&
    (List.range l.length).all (fun i => Nat.blt i m || (List.range m).all (fun j => fs.contains j || (YD l 6 (Jp l i)).contains j)) && (List.range m).all fun i =>
    (match ps[i]? with
     | none => false
     | some p => p.on.all (fun j => (Jp l i).contains j) && p.slots.all (fun t => (List.range m).all fun k => k == i || Jm l k != some t || (Jp l k).contains i)) &&
    (match Jm l i with
     | none => false
     | some d => Nat.blt d n && (List.range m).all fun k => k == i || Jm l k != some d)
def Zj (n : Nat) (l : List Oper) (ps : List Plan) (m : Nat) (fs : List Nat) (o9 : Nat) : Bool :=
  ps.length == m && Nat.ble m l.length && (List.range l.length).all (fun i => (Jp l i).all (fun j => Nat.blt j i)) &&
    (List.range l.length).all (fun i => (Nat.blt i m && i != o9) || (List.range m).all (fun j => fs.contains j || (YD l 6 (Jp l i)).contains j)) && (List.range m).all fun i =>
    (match ps[i]? with
     | none => false
     | some p => p.on.all (fun j => (Jp l i).contains j) && p.slots.all (fun t => (List.range m).all fun k => k == i || Jm l k != some t || (Jp l k).contains i)) &&
    (match Jm l i with
     | none => false
     | some d => Nat.blt d n && (List.range m).all fun k => k == i || Jm l k != some d)
def obsH (P : Program) (n : Nat) (ro : Option Nat) (df : List Deferred) (l : List Oper) (al : Nat -> Bool) (cp : Nat -> Option Nat) (ph : Nat -> Value -> Value -> Prop) (V : Nat -> Value -> World -> Prop) (D : Nat -> Value -> World -> Nat -> Prop) (w0 : World) (L : Fr) (o9 : Nat) : Nat -> List Oper -> List Plan -> List Fr -> Prop
  | i, o :: os, p :: ps, b :: bs => (b.map (·.1) = p.slots /\ sub b L /\ (i ≠ o9 -> obA P n ro df l al cp ph V D w0 i o p b)) /\ obsH P n ro df l al cp ph V D w0 L o9 (i + 1) os ps bs
  | _, [], [], [] => True
  | _, _, _, _ => False
theorem Zq {P : Program} {n : Nat} {ro : Option Nat} {df : List Deferred} {l : List Oper} {al : Nat -> Bool} {cp : Nat -> Option Nat} {ph : Nat -> Value -> Value -> Prop} {V : Nat -> Value -> World -> Prop} {D : Nat -> Value -> World -> Nat -> Prop} {w0 : World} {L : Fr} {o9 : Nat} : ∀ (os : List Oper) (ps : List Plan) (bs : List Fr) (i : Nat),
  obsH P n ro df l al cp ph V D w0 L o9 i os ps bs -> ∀ k o p, os[k]? = some o -> ps[k]? = some p -> ∃ b, b.map (·.1) = p.slots /\ sub b L /\ (i + k ≠ o9 -> obA P n ro df l al cp ph V D w0 (i + k) o p b)
 | [], _, _, _, _, k, _, _, ho, _ => by simp at ho
 | o :: os, [], _, _, h, _, _, _, _, hp => by simp at hp
 | o :: os, p :: ps, [], _, h, _, _, _, _, _ => by exact h.elim
 | o :: os, p :: ps, b :: bs, i, h, 0, _, _, ho, hp => by cases ho; cases hp; exact ⟨b, h.1⟩
 | o :: os, p :: ps, b :: bs, i, h, k + 1, o', p', ho, hp => by
  obtain ⟨b', h'⟩ := Zq os ps bs (i + 1) h.2 k o' p' (by simpa using ho) (by simpa using hp); exact ⟨b', by rw [show i + (k + 1) = i + 1 + k by omega]; exact h'⟩
theorem Jan {P : Program} {n id : Nat} {ro : Option Nat} {df : List Deferred} {l : List Oper} {N : Jo} {B : Js} {L : Fr} {w0 : World} (m : Nat) (fs : List Nat) (o9 : Nat) (al : Nat -> Bool) (cp : Nat -> Option Nat) (ph : Nat -> Value -> Value -> Prop) (ps : List Plan) (bs : List Fr) (V : Nat -> Value -> World -> Prop) (D : Nat -> Value -> World -> Nat -> Prop)
  (hm : P.follows .mixedOrders = true) (hB : Zj n l ps m fs o9 = true)
  (hV : ∀ j v w1 w2, V j v w1 -> w1.grownBy w2 none -> V j v w2)
  (hD : ∀ j v w1 w2, V j v w1 -> w1.grownBy w2 none -> ∀ g, D j v w2 g -> D j v w1 g)
  (hcp : (List.range m).all (fun i => match cp i with | none => true | some j => (Jp l i).contains j) = true)
  (hobs : obsH P n ro df l al cp ph V D w0 L o9 0 (l.take m) ps bs)
  (hN2 : ∀ X ∈ Ym fs, (o9 < m -> X.contains o9 = true) -> ∀ (vals : Nat -> Value) w', w0.grownBy w' none -> (∀ i, i < m -> X.contains i = false -> V i (vals i) w') -> (∀ j k, j ≠ k -> j < m -> k < m -> X.contains j = false -> X.contains k = false -> al j = true -> al k = true -> ∀ g, D j (vals j) w' g -> ¬ D k (vals k) w' g) -> (∀ i j, i < m -> X.contains i = false -> cp i = some j -> ph i (vals j) (vals i)) -> ∀ q, q = (((List.range l.length).map fun k => Nat.blt k m && !(X.contains k)).filter (!·)).length ->
   WA P n ro df l N q ((List.range l.length).map fun k => Nat.blt k m && !(X.contains k)) ((((List.range m).filterMap fun i => if X.contains i = true then none else (Jm l i).map fun t => (t, vals i))) ++ L) w') : W P n ro df (.region id l.toArray true) N B L w0 := by
 simp only [Zj, Bool.and_eq_true, Bool.or_eq_true, List.all_eq_true, List.mem_range, beq_iff_eq, List.contains_iff_mem] at hB; obtain ⟨⟨⟨⟨hlen, hlm0⟩, hlt0⟩, htail⟩, hB⟩ := hB; have hlm : m <= l.length := by simpa [Nat.ble_eq] using hlm0
 refine ⟨fun a ha => wpIn_mono (Q := QK n df N B) (wpIn_region_any hm ?_) QJ⟩; have hon_lt : ∀ k, k < l.length -> ∀ j ∈ Jp l k, j < k := fun k hk j hj => by simpa [Nat.blt_eq] using hlt0 k hk j hj
 have fin0 : ∀ (c : Nat) (listed : Array Bool) (vals : Nat -> Value) (a : Act) (w : World), listed.size = l.length -> (listed.toList.filter (!·)).length = c -> (∀ k, listed.getD k false = true -> k < m /\ k ≠ o9) ->
   DInv n df l ps V (fun _ => True) w0 L (l.length + 1) (fun k => listed.getD k false) vals a w -> Ap al cp ph D (fun k => listed.getD k false) vals w -> (∀ k, k < m -> k ∉ fs -> listed.getD k false = true) -> wpAnyIn (JM ro) 0 P .any l.toArray (QK n df N B) c listed a w := by
  intro c listed vals a w hsz hf hnm I hap hcase; have hXm : ∀ k, k < m -> (fs.filter fun k => !listed.getD k false).contains k = !listed.getD k false := fun k hk => by
   cases hb : listed.getD k false with
   | true =>
    cases hc : (fs.filter fun k => !listed.getD k false).contains k with
    | false => rfl
    | true => rw [List.contains_iff_mem, List.mem_filter, hb] at hc; exact absurd hc.2 (by decide)
   | false =>
    show _ = true; rw [List.contains_iff_mem, List.mem_filter, hb]; refine ⟨Classical.byContradiction fun h => ?_, rfl⟩; have := hcase k hk h; rw [hb] at this; cases this
  have hXs := QH (fun k => !listed.getD k false) fs; generalize hXe : (fs.filter fun k => !listed.getD k false) = X at hXm hXs; have hX : listed = ((List.range l.length).map fun k => Nat.blt k m && !(X.contains k)).toArray := by
   apply Array.ext
   .simp [hsz]
   .intro k h1 h2; have hk : k < l.length := by omega
    have hv : listed.getD k false = listed[k] := by simp [Array.getD_eq_getD_getElem?, h1]
    rw [<- hv]; simp only [List.getElem_toArray, List.getElem_map, List.getElem_range]; rcases Nat.lt_or_ge k m with h | h
    .rw [hXm k h, Bool.not_not]; have : Nat.blt k m = true := by rw [Nat.blt_eq]; exact h
     rw [this]; rfl
    .have hb : listed.getD k false = false := by
      cases hb : listed.getD k false with
      | false => rfl
      | true => have := hnm k hb; omega
     have : Nat.blt k m = false := by
      cases hc : Nat.blt k m with
      | false => rfl
      | true => rw [Nat.blt_eq] at hc; omega
     rw [hb, this]; rfl
  have hlk : ∀ k, k < m -> X.contains k = false -> listed.getD k false = true := fun k hk h => by
   have := hXm k hk; rw [h] at this; cases hb : listed.getD k false with
   | true => rfl
   | false => rw [hb] at this; cases this
  have hw := I.wd (by simp [Array.getD_eq_getD_getElem?, show ¬ l.length + 1 < listed.size by omega]); have hvs : ∀ j, j < m -> X.contains j = false -> V j (vals j) w := fun j hj hne => I.vs j (hlk j hj hne) (by omega); have hX9 : o9 < m -> X.contains o9 = true := fun ho9 => by
   rw [hXm o9 ho9]; cases hb : listed.getD o9 false with
   | false => rfl
   | true => exact absurd rfl (hnm o9 hb).2
  have hW := hN2 X hXs hX9 vals w hw hvs (fun j k hjk hj hk hjf hkf h1 h2 => hap.ap j k hjk (hlk j hj hjf) (hlk k hk hkf) h1 h2) (fun i j hi hif h => hap.cp_ i j (hlk i hi hif) h) c (by rw [<- @List.toList_toArray _ ((List.range l.length).map fun k => Nat.blt k m && !(X.contains k)), <- hX]; omega); have hHas : Has n df a ((((List.range m).filterMap fun i => if X.contains i = true then none else (Jm l i).map fun t => (t, vals i))) ++ L) := by
   refine ⟨I.nd, I.sz, fun t v hv => ?_⟩; rw [Qh] at hv; cases hc : lk ((List.range m).filterMap fun i => if X.contains i = true then none else (Jm l i).map fun t => (t, vals i)) t with
   | some u =>
    rw [hc] at hv; cases hv; have := Yr hc; simp only [List.mem_filterMap, List.mem_range] at this; obtain ⟨k, hk, he⟩ := this; cases hkf : X.contains k with
    | true => rw [if_pos hkf] at he; cases he
    | false =>
     rw [if_neg (by rw [hkf]; decide)] at he; simp only [Option.map_eq_some_iff] at he; obtain ⟨t', ht', he⟩ := he; cases he; exact I.new k t (hlk k hk hkf) ht'
   | none =>
    rw [hc] at hv; refine I.old t v hv fun k hk hd => ?_; have hkm := (hnm k hk).1; have hkf : X.contains k = false := by rw [hXm k hkm, hk]; rfl
    have hm2 : (t, vals k) ∈ (List.range m).filterMap fun i => if X.contains i = true then none else (Jm l i).map fun t => (t, vals i) := by
     simp only [List.mem_filterMap, List.mem_range]; exact ⟨k, hkm, by rw [if_neg (by rw [hkf]; decide)]; simp [hd]⟩
    obtain ⟨u, hu⟩ := ZF hm2; rw [hc] at hu; cases hu
  rw [hX]; exact hW.out a hHas B
 have key : ∀ (fuel : Nat) (listed : Array Bool) (vals : Nat -> Value) (a : Act) (w : World), listed.size = l.length -> (listed.toList.filter (!·)).length = fuel + (l.length - m) -> (∀ k, listed.getD k false = true -> k < m /\ k ≠ o9) ->
   DInv n df l ps V (fun _ => True) w0 L (l.length + 1) (fun k => listed.getD k false) vals a w -> Ap al cp ph D (fun k => listed.getD k false) vals w -> wpAnyIn (JM ro) 0 P .any l.toArray (QK n df N B) (fuel + (l.length - m)) listed a w := by
  intro fuel
  induction fuel with
  | zero =>
   intro listed vals a w hsz hf hnm I hap; have hall : ∀ k, k < m -> listed.getD k false = true := fun k hk => by
    cases hb : listed.getD k false with
    | true => rfl
    | false =>
     exfalso; have hcnt : ∀ (x : List Bool) (m : Nat), m <= x.length -> (∀ j, m <= j -> j < x.length -> x[j]? = some false) -> (x.length - m) + ((x.take m).filter (!·)).length = (x.filter (!·)).length := by
      intro x m hmx hfalse; have h1 : x = x.take m ++ x.drop m := (List.take_append_drop m x).symm; have h2 : (x.drop m).filter (!·) = x.drop m := by
       rw [List.filter_eq_self]; intro b hb; obtain ⟨j, hj, rfl⟩ := List.mem_iff_getElem.1 hb; have := hfalse (m + j) (by omega) (by simp at hj; omega); rw [List.getElem_drop]; rw [List.getElem?_eq_getElem (by simp at hj; omega)] at this
       simpa using this
      conv => rhs; rw [h1]
      rw [List.filter_append, List.length_append, h2, List.length_drop]; omega
     have hx := hcnt listed.toList m (by simp; omega) (fun j h1 h2 => by
      have hj : j < listed.size := by simpa using h2
      cases hbj : listed.getD j false with
      | true => have := hnm j hbj; omega
      | false =>
       simp [Array.getD_eq_getD_getElem?, hj] at hbj; simp [hj, hbj])
     have hsz2 : listed.toList.length = l.length := by simpa using hsz
     have hzero : ((listed.toList.take m).filter (!·)).length = 0 := by omega
     have hz := YM hzero k (by simp; omega); rw [List.getElem?_take, if_pos hk] at hz; have hk2 : k < listed.size := by omega
     simp [Array.getD_eq_getD_getElem?, hk2] at hb; simp [hk2, hb] at hz
   exact fin0 _ listed vals a w hsz hf hnm I hap (fun k hk _ => hall k hk)
  | succ fuel ih =>
   intro listed vals a w hsz hf hnm I hap; rw [show fuel + 1 + (l.length - m) = (fuel + (l.length - m)) + 1 by omega] at hf ⊢; have hlist : ∀ k, listed.getD k true = false -> k < l.length /\ listed.getD k false = false := fun k hk => by
    rcases Nat.lt_or_ge k listed.size with h | h
    .simp [Array.getD_eq_getD_getElem?, h] at hk ⊢; exact ⟨by omega, hk⟩
    .simp [Array.getD_eq_getD_getElem?, Array.getElem?_eq_none h] at hk
   by_cases hcase : ∀ k, k < m -> k ∉ fs -> listed.getD k false = true
   .exact fin0 _ listed vals a w hsz hf hnm I hap hcase
   .refine ⟨?_, ?_⟩
    .intro hr
     -- the first that has not come up yet is ready
     exfalso; have hex : ∃ k, k < l.length /\ listed.getD k false = false := by
      by_cases hc : ∃ k, k < l.length /\ listed.getD k false = false
      .exact hc
      .have hfe : listed.toList.filter (!·) = [] := by
        rw [List.filter_eq_nil_iff]; intro b hb; obtain ⟨k, hk, rfl⟩ := List.mem_iff_getElem.1 hb; have hk' : k < listed.size := by simpa using hk
        have : ¬ listed.getD k false = false := fun h => hc ⟨k, by omega, h⟩; simp [Array.getD_eq_getD_getElem?, hk'] at this; simp [this]
       rw [hfe] at hf; simp at hf
     have hmin : ∀ m, (∃ k, k <= m /\ k < l.length /\ listed.getD k false = false) -> ∃ k, k < l.length /\ listed.getD k false = false /\ ∀ j, j < k -> listed.getD j false = true := by
      intro m
      induction m with
      | zero => rintro ⟨k, hk, h1, h2⟩; exact ⟨k, h1, h2, fun j hj => by omega⟩
      | succ m ihm =>
       rintro ⟨k, hk, h1, h2⟩; by_cases hc : ∃ j, j <= m /\ j < l.length /\ listed.getD j false = false
       .exact ihm hc
       .refine ⟨k, h1, h2, fun j hj => ?_⟩; cases hb : listed.getD j false with
        | true => rfl
        | false => exact absurd ⟨j, by omega, by omega, hb⟩ hc
     obtain ⟨k0, hk0, hk0'⟩ := hex; obtain ⟨k, h1, h2, h3⟩ := hmin k0 ⟨k0, Nat.le_refl _, hk0, hk0'⟩; have hin : k ∈ Region.ready .any l.toArray listed := by
      refine mem_ready.2 ⟨?_, l[k], by simp [h1], fun e he hb => ?_⟩
      .have : k < listed.size := by omega
       simp [Array.getD_eq_getD_getElem?, this] at h2 ⊢; exact h2
      .have hon : e.on ∈ Jp l k := by
        simp only [Jp, List.getElem?_eq_getElem h1, List.mem_map, List.mem_filter]; exact ⟨e, ⟨by simpa using he, hb⟩, rfl⟩
       exact h3 e.on (hon_lt k h1 _ hon)
     rw [hr] at hin; cases hin
    .intro i hi; obtain ⟨h1, o, ho, hpre⟩ := mem_ready.1 hi; obtain ⟨hil0, hun⟩ := hlist i h1; have ho' : l[i]? = some o := by simpa using ho
     have hpre' : ∀ j ∈ Jp l i, listed.getD j false = true := fun j hj => by
      simp only [Jp, ho', List.mem_map, List.mem_filter] at hj; obtain ⟨e, ⟨he, hb⟩, rfl⟩ := hj; exact hpre e (by simpa using he) hb
     have hil : i < m /\ i ≠ o9 := by
      by_cases h : i < m /\ i ≠ o9
      .exact h
      .exfalso; refine hcase fun k hk hkf => ?_; rcases htail i hil0 with h2 | h2
       .simp [Nat.blt_eq] at h2; omega
       .rcases h2 k hk with h3 | h3
        .exact absurd h3 hkf
        .exact Yf (p := fun k => listed.getD k false = true) I.cl 6 (Jp l i) hpre' k h3
     have hi9 := hil.2; have hil := hil.1; obtain ⟨hp, hd⟩ := hB i hil; have hpi : i < ps.length := by omega
     rw [List.getElem?_eq_getElem hpi] at hp; generalize hpe : ps[i] = p at hp; simp only [Bool.and_eq_true, List.all_eq_true, Bool.or_eq_true, List.mem_range, beq_iff_eq, bne_iff_ne, ne_eq, List.contains_iff_mem] at hp; obtain ⟨hon, hsl⟩ := hp; obtain ⟨b, hbs, hsub, hob⟩ := Zq (l.take m) ps bs 0 hobs i o p (by rw [List.getElem?_take, if_pos hil]; exact ho') (by rw [List.getElem?_eq_getElem hpi, hpe]); rw [Nat.zero_add] at hob; have hw0 : p.pure = false -> w0.grownBy w none := fun _ => I.wd (by
      cases hb : listed.getD (l.length + 1) false with
      | false => rfl
      | true => have := I.lt _ hb; omega)
     have hT := Zh vals p.on b (hob hi9 w hw0) (fun j hj => I.vs j (hpre' j (hon j hj)) (by have := hon_lt i hil0 j (hon j hj); omega)); generalize hF : (List.map (fun j => ((Jm l j).getD 0, vals j)) p.on).reverse ++ b = F at hT; have hdst : ∀ j, j < m -> ∃ d, Jm l j = some d /\ d < n := fun j hj => by
      have := (hB j hj).2; cases hd : Jm l j with
      | none => rw [hd] at this; simp at this
      | some d => rw [hd] at this; simp only [Bool.and_eq_true] at this; exact ⟨d, rfl, by simpa [Nat.blt_eq] using this.1⟩
     have hHF : Has n df a (F ++ (List.range n).map fun t => (t, a.tmps.getD t undef)) := by
      refine ⟨I.nd, I.sz, fun t v hv => ?_⟩; rw [Qh] at hv; cases hc : lk F t with
      | some u =>
       rw [hc] at hv; cases hv; have hm := Yr hc; rw [<- hF] at hm; rcases List.mem_append.1 hm with hm | hm
       .simp only [List.mem_reverse, List.mem_map] at hm; obtain ⟨j, hj, he⟩ := hm; cases he; obtain ⟨d, hd', _⟩ := hdst j (hnm j (hpre' j (hon j hj))).1; rw [hd']; exact I.new j d (hpre' j (hon j hj)) hd'
       .have hL := sub_at hsub hm; have hts : t ∈ p.slots := by rw [<- hbs]; exact List.mem_map.2 ⟨_, hm, rfl⟩
        refine I.old t v hL fun k hk hdk => ?_; rcases hsl t hts k (hnm k hk).1 with (h | h) | h
        .subst h; rw [hun] at hk; cases hk
        .exact h hdk
        .have := I.cl k hk i h; rw [hun] at this; cases this
      | none =>
       rw [hc] at hv; have hm := Yr hv; simp only [List.mem_map, List.mem_range] at hm; obtain ⟨t', ht', he⟩ := hm; cases he; have : t < a.tmps.size := by rw [I.sz]; exact ht'
       simp [Array.getD_eq_getD_getElem?, this]
     have hW := (hT ((List.range n).map fun t => (t, a.tmps.getD t undef))).out a hHF (fun _ _ _ _ => False); have fin' : ∀ a' w', wpListIn (JM ro) 0 P l.toArray (QK n df (fun _ L' w' => ∃ u, L' = ((Jm l i).getD 0, u) :: (F ++ (List.range n).map fun t => (t, a.tmps.getD t undef)) /\ (if p.pure then w' = w else w.grownBy w' none) /\ V i u w' /\ (al i = true -> ∀ g, D i u w' g -> w.heap.size <= g /\ g < w'.heap.size) /\ (∀ j, cp i = some j -> ∃ u', lk (F ++ (List.range n).map fun t => (t, a.tmps.getD t undef)) ((Jm l j).getD 0) = some u' /\ ph i u' u)) (fun _ _ _ _ => False)) [] a' w' ->
       wpAnyIn (JM ro) 0 P .any l.toArray (QK n df N B) (fuel + (l.length - m)) (listed.setIfInBounds i true) a' w' := by
      intro a' w' hq; obtain ⟨L', hL', hq⟩ := hq; have hisz : i < listed.size := by omega
      have hset : ∀ k, (listed.setIfInBounds i true).getD k false = true -> k = i ∨ listed.getD k false = true := fun k hk => by
       rw [YJ _ _ _ hisz] at hk; simp only [Bool.or_eq_true, decide_eq_true_eq] at hk; exact hk.imp Eq.symm (fun h => h)
      have hset' : ∀ k, k = i ∨ listed.getD k false = true -> (listed.setIfInBounds i true).getD k false = true := fun k hk => by
       rw [YJ _ _ _ hisz]; simp only [Bool.or_eq_true, decide_eq_true_eq]; exact hk.imp Eq.symm (fun h => h)
      have hcount : ((listed.setIfInBounds i true).toList.filter (!·)).length = fuel + (l.length - m) := by
       have hg : listed.toList[i]? = some false := by
        simp [Array.getD_eq_getD_getElem?, hisz] at hun; simp [hisz, hun]
       have := Y8 listed.toList i hg; rw [Array.toList_setIfInBounds]; omega
      have hm0' : ∀ k, (listed.setIfInBounds i true).getD k false = true -> k < m /\ k ≠ o9 := fun k hk => by
       rcases hset k hk with rfl | h
       .exact ⟨hil, hi9⟩
       .exact hnm k h
      have hcl : ∀ k, (listed.setIfInBounds i true).getD k false = true -> ∀ j ∈ Jp l k, (listed.setIfInBounds i true).getD j false = true := fun k hk j hj => by
       rcases hset k hk with rfl | h
       .exact hset' j (.inr (hpre' j hj))
       .exact hset' j (.inr (I.cl k h j hj))
      have hlt : ∀ k, (listed.setIfInBounds i true).getD k false = true -> k < l.length := fun k hk => by
       rcases hset k hk with rfl | h
       .exact hil0
       .exact I.lt k h
      have hsome : ∀ t, t < n -> ∃ v, lk (F ++ (List.range n).map fun t => (t, a.tmps.getD t undef)) t = some v := fun t ht => by
       rw [Qh]; cases lk F t with
       | some u => exact ⟨u, rfl⟩
       | none => exact ⟨_, Ja6 a n t ht⟩
      obtain ⟨u, rfl, hww, hVu, hfr, hcu⟩ := hq; obtain ⟨d, hdd, hdn⟩ := hdst i hil; rw [hdd] at hL' hd; simp only [Option.getD_some] at hL'; simp only [Bool.and_eq_true, List.all_eq_true, List.mem_range, Bool.or_eq_true, beq_iff_eq, bne_iff_ne, ne_eq] at hd; have hsame' : ∀ t v, t ≠ d -> a.tmps[t]? = some v -> a'.tmps[t]? = some v := fun t v hne hv => by
       have ht : t < n := by have := (Array.getElem?_eq_some_iff.1 hv).1; rw [I.sz] at this; exact this
       obtain ⟨v', hv'⟩ := hsome t ht; have h2 := hHF.at_ t v' hv'; rw [hv] at h2; cases h2; exact hL'.at_ t v (by rw [QX (Ne.symm hne)]; exact hv')
      have hnew : a'.tmps[d]? = some u := hL'.at_ d u (J5 _ _ _); have hgw : w.grownBy w' none := by
       by_cases hp' : p.pure = true
       .rw [if_pos hp'] at hww; subst hww; exact Jg _
       .rw [if_neg hp'] at hww; exact hww
      have hVk : ∀ k, listed.getD k false = true -> k ≠ l.length + 1 -> V k (vals k) w' := fun k h hne => hV k _ w w' (I.vs k h hne) hgw; have hDk : ∀ k, listed.getD k false = true -> ∀ g, D k (vals k) w' g -> D k (vals k) w g := fun k h => hD k _ w w' (I.vs k h (by have := hnm k h; omega)) hgw; refine ih _ (fun k => if k = i then u else vals k) a' w' (by simpa using hsz) hcount hm0' ⟨hL'.nd, hL'.sz, fun t v ht hk => ?_, fun k t hk ht => ?_, fun h => ?_, fun h => trivial, fun k hk hne => ?_, hcl, hlt⟩ ⟨fun k hk ha g hg => ?_, fun j k hjk hj hk ha1 ha2 g hg => ?_, fun x y hx hc => ?_⟩
      .exact hsame' t v (fun e' => hk i (hset' i (.inl rfl)) (by rw [hdd, e'])) (I.old t v ht fun k h => hk k (hset' k (.inr h)))
      .by_cases ek : k = i
       .subst ek; rw [hdd] at ht; cases ht; simpa using hnew
       .rw [if_neg ek]; rcases hset k hk with h | h
        .exact absurd h ek
        .refine hsame' t _ (fun e' => ?_) (I.new k t h ht); rcases hd.2 k (hnm k h).1 with h' | h'
         .exact ek h'
         .exact h' (by rw [ht, e'])
      .refine Yi (I.wd ?_) hgw; cases hb : listed.getD (l.length + 1) false with
       | false => rfl
       | true => have := I.lt _ hb; omega
      .by_cases ek : k = i
       .subst ek; simpa using hVu
       .rw [if_neg ek]; rcases hset k hk with h | h
        .exact absurd h ek
        .exact hVk k h hne
      .by_cases ek : k = i
       .subst ek; rw [if_pos rfl] at hg; exact (hfr ha g hg).2
       .rw [if_neg ek] at hg; exact Nat.lt_of_lt_of_le (hap.lt k ((hset k hk).resolve_left ek) ha g (hDk k ((hset k hk).resolve_left ek) g hg)) hgw.size
      .by_cases ej : j = i
       .subst ej; rw [if_pos rfl] at hg; rw [if_neg (Ne.symm hjk)]; have h3 := (hfr ha1 g hg).1; intro h4; have := hap.lt k ((hset k hk).resolve_left (Ne.symm hjk)) ha2 g (hDk k ((hset k hk).resolve_left (Ne.symm hjk)) g h4); omega
       .rw [if_neg ej] at hg; have hj' := (hset j hj).resolve_left ej; by_cases ek : k = i
        .subst ek; rw [if_pos rfl]; intro h4; have h3 := (hfr ha2 g h4).1; have := hap.lt j hj' ha1 g (hDk j hj' g hg); omega
        .rw [if_neg ek]; exact fun h4 => hap.ap j k hjk hj' ((hset k hk).resolve_left ek) ha1 ha2 g (hDk j hj' g hg) (hDk k ((hset k hk).resolve_left ek) g h4)
      .by_cases ex : x = i
       .subst ex; obtain ⟨uy, h1, huy⟩ := hcu y hc; have hym : y ∈ Jp l x := by
         have := List.all_eq_true.1 hcp x (List.mem_range.2 hil); rw [hc] at this
         simpa using this
        have hyd := hpre' y hym; obtain ⟨dy, hdy, _⟩ := hdst y (hnm y hyd).1; rw [hdy] at h1; have h2 := hHF.at_ _ _ h1; have h3 := I.new y dy hyd hdy; simp only [Option.getD_some] at h2; rw [h3] at h2; have hyx : y ≠ x := fun e => by rw [e, hun] at hyd; cases hyd
        rw [if_pos rfl, if_neg hyx]
        first | (rw [Option.some.inj h2] at huy ⊢; exact huy) | (rw [Option.some.inj h2]; exact huy) | (rw [<- Option.some.inj h2]; exact huy)
       .have hx' := (hset x hx).resolve_left ex; have h1 := hap.cp_ x y hx' hc; have hym : y ∈ Jp l x := by
         have := List.all_eq_true.1 hcp x (List.mem_range.2 (hnm x hx').1); rw [hc] at this
         simpa using this
        have hyd := I.cl x hx' y hym; have hyi : y ≠ i := fun e => by rw [e, hun] at hyd; cases hyd
        rw [if_neg ex, if_neg hyi]; exact h1
     unfold wpOpIn; rw [ho]; simp only [wpListIn] at hW; by_cases hwant : Region.wanted o (yielded l.toArray a.tmps) = true
     .rw [if_pos hwant] at hW; simp only [hwant, if_true]; exact (J1 fin' (fun e a w hne h => by cases e <;> first | exact absurd rfl hne | (obtain ⟨_, _, _, h⟩ := h; exact h.elim)) hW)
     .rw [if_neg hwant] at hW; simp only [hwant, if_false, Bool.false_eq_true]; exact ⟨fun _ _ => trivial, fin' _ _ hW.2⟩
 have hsz0 : ((Array.replicate l.toArray.size false).toList.filter (!·)).length = m + (l.length - m) := by simp; omega
 have := key m (Array.replicate l.toArray.size false) (fun _ => undef) a { w0 with drawn := w0.drawn + 1 } (by simp) hsz0 (fun k h => by rw [JO] at h; cases h) {
  nd := ha.nd, sz := ha.sz
  old := fun t v h _ => ha.at_ t v h
  new := fun k t h => by rw [JO] at h; cases h
  wd := fun _ => ⟨rfl, rfl, rfl, Nat.le_refl _, fun _ _ _ => rfl⟩
  ws := fun h => trivial
  vs := fun k h => by rw [JO] at h; cases h
  cl := fun k h => by rw [JO] at h; cases h
  lt := fun k h => by rw [JO] at h; cases h } (Ap.mk (fun k h => by rw [JO] at h; cases h) (fun j k _ h => by rw [JO] at h; cases h) (fun i j h => by rw [JO] at h; cases h))
 rw [show m + (l.length - m) = l.toArray.size by simp; omega] at this; exact this
theorem ZV {n m : Nat} {l : List Oper} {ps : List Plan} {fs : List Nat} (h : QS n l ps m fs = true) : Zj n l ps m fs m = true := by
 have e : ∀ i, (Nat.blt i m && i != m) = Nat.blt i m := fun i => by
  cases hb : Nat.blt i m with
  | false => rfl
  | true =>
   have h1 : i < m := by rw [Nat.blt_eq] at hb; exact hb
   simp only [Bool.true_and, bne_iff_ne, ne_eq]; omega
 unfold Zj; simp only [e]; exact h
theorem Zp {P : Program} {n : Nat} {ro : Option Nat} {df : List Deferred} {l : List Oper} {al : Nat -> Bool} {cp : Nat -> Option Nat} {ph : Nat -> Value -> Value -> Prop} {V : Nat -> Value -> World -> Prop} {D : Nat -> Value -> World -> Nat -> Prop} {w0 : World} {L : Fr} {o9 : Nat} : ∀ (os : List Oper) (ps : List Plan) (bs : List Fr) (i : Nat),
  ZD P n ro df l al cp ph V D w0 L i os ps bs -> obsH P n ro df l al cp ph V D w0 L o9 i os ps bs
 | [], [], [], _, _ => trivial
 | [], _ :: _, _, _, h => h.elim
 | [], [], _ :: _, _, h => h.elim
 | _ :: _, [], _, _, h => h.elim
 | _ :: _, _ :: _, [], _, h => h.elim
 | o :: os, p :: ps, b :: bs, i, h => ⟨⟨h.1.1, h.1.2.1, fun _ => h.1.2.2⟩, Zp os ps bs (i + 1) h.2⟩
theorem YS {P : Program} {n id : Nat} {ro : Option Nat} {df : List Deferred} {l : List Oper} {N : Jo} {B : Js} {L : Fr} {w0 : World} (m : Nat) (fs : List Nat) (al : Nat -> Bool) (cp : Nat -> Option Nat) (ph : Nat -> Value -> Value -> Prop) (ps : List Plan) (bs : List Fr) (V : Nat -> Value -> World -> Prop) (D : Nat -> Value -> World -> Nat -> Prop)
  (hm : P.follows .mixedOrders = true) (hB : QS n l ps m fs = true)
  (hV : ∀ j v w1 w2, V j v w1 -> w1.grownBy w2 none -> V j v w2)
  (hD : ∀ j v w1 w2, V j v w1 -> w1.grownBy w2 none -> ∀ g, D j v w2 g -> D j v w1 g)
  (hcp : (List.range m).all (fun i => match cp i with | none => true | some j => (Jp l i).contains j) = true)
  (hobs : ZD P n ro df l al cp ph V D w0 L 0 (l.take m) ps bs)
  (hN2 : ∀ X ∈ Ym fs, ∀ (vals : Nat -> Value) w', w0.grownBy w' none -> (∀ i, i < m -> X.contains i = false -> V i (vals i) w') -> (∀ j k, j ≠ k -> j < m -> k < m -> X.contains j = false -> X.contains k = false -> al j = true -> al k = true -> ∀ g, D j (vals j) w' g -> ¬ D k (vals k) w' g) -> (∀ i j, i < m -> X.contains i = false -> cp i = some j -> ph i (vals j) (vals i)) -> ∀ q, q = (((List.range l.length).map fun k => Nat.blt k m && !(X.contains k)).filter (!·)).length ->
   WA P n ro df l N q ((List.range l.length).map fun k => Nat.blt k m && !(X.contains k)) ((((List.range m).filterMap fun i => if X.contains i = true then none else (Jm l i).map fun t => (t, vals i))) ++ L) w') : W P n ro df (.region id l.toArray true) N B L w0 :=
 Jan m fs m al cp ph ps bs V D hm (ZV hB) hV hD hcp (Zp _ _ _ _ hobs) (fun X hX _ => hN2 X hX)
end Go.Proofs.Ytppkigdakobebaa
namespace Go.Proofs.Ytppkigdakobebaa
open Go.RowKit
section
variable {b : Nat} {mr : Option Nat} {w w' : World} {R L : List Rw}
theorem Rows.perm {L L' : List Rw} (hp : L.Perm L') : Rows b mr w L -> Rows b mr w L' := by
 induction hp with
 | nil => exact id
 | cons x hp ih => exact fun h => ⟨h.1, fun s hs => h.2.1 s (hp.mem_iff.2 hs), ih h.2.2⟩
 | swap x y l =>
  exact fun h => ⟨h.2.2.1, fun s hs => by
   rcases List.mem_cons.1 hs with rfl | hs
   .exact (h.2.1 _ (List.mem_cons_self ..)).symm
   .exact h.2.2.2.1 s hs, h.1, fun s hs => h.2.1 s (List.mem_cons_of_mem _ hs), h.2.2.2.2⟩
 | trans _ _ ih1 ih2 => exact fun h => ih2 (ih1 h)
theorem Jaq : ∀ {L : List Rw}, Rows b mr w (L ++ R) -> Rows b mr w L /\ (∀ r ∈ L, ∀ s ∈ R, r.Apt s) /\ Rows b mr w R
 | [], h => ⟨trivial, fun _ h => by simp at h, h⟩
 | r :: L, h => by
  obtain ⟨h1, h2, h3⟩ := Jaq (L := L) h.2.2; refine ⟨⟨h.1, fun s hs => h.2.1 s (List.mem_append_left _ hs), h1⟩, fun q hq s hs => ?_, h3⟩; rcases List.mem_cons.1 hq with rfl | hq
  .exact h.2.1 s (List.mem_append_right _ hs)
  .exact h2 q hq s hs
def Rw.isRow : Rw -> Bool
  | .row .. => true
  | _ => false
def grp (L : List Rw) : Rw := .mu (fun g => ∃ r ∈ L, r.at_ g) (fun w => Rows 0 none w L)
theorem Own.block {w w' : World} {b e z m c : Nat} {A : Option Addr} {cs : List Value} (h : Own b w e z A m c cs) (hk : ∀ g, bl A = some g -> w'.heap[g]? = w.heap[g]?) : Own b w' e z A m c cs :=
 ⟨h.1, h.2.imp id fun ⟨g, cap, cur, h1, h2, h3, h4⟩ => ⟨g, cap, cur, h1, h2, (hk g (by cases h1; rfl)).trans h3, h4⟩⟩
theorem Rows.low : ∀ {L : List Rw}, (∀ r ∈ L, r.isRow = true) -> Rows b mr w L -> Rows 0 none w L
 | [], _, _ => trivial
 | r :: L, hr, h => by
  refine ⟨?_, h.2.1, Rows.low (fun q hq => hr q (List.mem_cons_of_mem _ hq)) h.2.2⟩; have h1 := hr r (List.mem_cons_self ..); have h2 := h.1; cases r with
  | row e z A m c cs => exact ⟨h2.1, fun g _ => .inl (Nat.zero_le _)⟩
  | _ => cases h1
end
section
variable {X : World -> Prop} {w0 w w' : World} {mr : Option Nat} {R L : List Rw}
theorem St.perm {L' : List Rw} (h : St X w0 mr w L) (hp : L.Perm L') : St X w0 mr w L' := ⟨h.ext, h.rows.perm hp, h.x, h.cl, h.lt⟩
end
abbrev Hs := Nat -> Option Addr × Nat
def JB (hs : Hs) (ls : LL) : List Value := ls.mapIdx fun i l => .slice (hs i).1 l.length (hs i).2
def inr (eI : Nat) (hs : Hs) (ls : LL) : List Rw := ls.mapIdx fun i l => .row eI 1 (hs i).1 l.length (hs i).2 (is l)
def mx (eS eI : Nat) (A : Option Addr) (m c : Nat) (hs : Hs) (ls : LL) : Rw := grp (.row eS 1 A m c (JB hs ls) :: inr eI hs ls)
theorem Y7 (hs : Hs) (ls : LL) : (JB hs ls).length = ls.length := by simp [JB]
theorem Zs {α : Type} {ls : List α} {i : Nat} {d : α} (h : i < ls.length) : ls[i]? = some (ls.getD i d) := by
 rw [List.getElem?_eq_getElem h, List.getD_eq_getElem?_getD, List.getElem?_eq_getElem h]; rfl
theorem inr_at (eI : Nat) (hs : Hs) (ls : LL) {i : Nat} (hi : i < ls.length) : (inr eI hs ls)[i]? = some (.row eI 1 (hs i).1 (ls.getD i []).length (hs i).2 (is (ls.getD i []))) := by
 simp only [inr, List.getElem?_mapIdx, Zs (d := []) hi, Option.map_some]
theorem ZI (hs : Hs) (ls : LL) {i : Nat} (hi : i < ls.length) : (JB hs ls)[i]? = some (.slice (hs i).1 (ls.getD i []).length (hs i).2) := by
 simp only [JB, List.getElem?_mapIdx, Zs (d := []) hi, Option.map_some]
theorem Zl {α : Type} : ∀ {l : List α} {i : Nat} {a : α}, l[i]? = some a -> l.Perm (a :: l.eraseIdx i)
 | [], _, _, h => by simp at h
 | x :: l, 0, a, h => by cases h; exact List.Perm.refl _
 | x :: l, i + 1, a, h => ((Zl (l := l) (i := i) (by simpa using h)).cons x).trans (List.Perm.swap _ _ _)
section
variable {X : World -> Prop} {w0 w w' : World} {mr : Option Nat} {R : List Rw} {eS eI m c : Nat} {A : Option Addr} {hs : Hs} {ls : LL}
theorem St.mxrows {i : Nat} (h : St X w0 mr w R) (hi : R[i]? = some (mx eS eI A m c hs ls)) : Rows 0 none w (.row eS 1 A m c (JB hs ls) :: inr eI hs ls) := (h.rows.get hi).1
theorem St.mxout {i : Nat} (h : St X w0 mr w R) (hi : R[i]? = some (mx eS eI A m c hs ls)) : Rd w.heap.size w 1 A m c (JB hs ls) := (h.mxrows hi).1.1.rd
theorem Al.mk {w : World} (eI : Nat) (f : Nat -> Nat) : ∀ (ls : LL) (hs : Hs), Rows 0 none w (inr eI hs ls) -> Al w (JB hs ls) ls
 | [], _, _ => trivial
 | l :: ls, hs, h => by
  simp only [inr, List.mapIdx_cons] at h; simp only [JB, List.mapIdx_cons]; exact ⟨⟨_, _, _, rfl, h.1.1.rd⟩, Al.mk eI f ls (fun i => hs (i + 1)) h.2.2⟩
theorem St.rl {i : Nat} (h : St X w0 mr w R) (hi : R[i]? = some (mx eS eI A m c hs ls)) : Rl w A m c ls := ⟨_, _, h.mxout hi, Al.mk eI id ls hs (h.mxrows hi).2.2⟩
end
end Go.Proofs.Ytppkigdakobebaa
namespace Go.Proofs.Ytppkigdakobebaa
open Go.RowKit
def apHs (m : Nat) (hs hs' : Hs) : Hs := fun i => if i < m then hs i else hs' (i - m)
section
variable {X : World -> Prop} {w0 w w' : World} {mr : Option Nat} {R : List Rw} {eS eI m c : Nat} {A : Option Addr} {hs : Hs} {ls : LL}
theorem St.at_ {i : Nat} {r : Rw} (h : St X w0 mr w R) (hi : R[i]? = some r) : St X w0 mr w (r :: R.eraseIdx i) := h.perm (Zl hi)
end
section
variable {P : Program} {n : Nat} {ro : Option Nat} {df : List Deferred} {N : Jo} {L : Fr} {w w0 : World} {ops : Array Oper} {rest : List Oper}
variable {d : Nat} {ty : TypeId} {pos : String} {af : Array Edge} {X : World -> Prop} {mr : Option Nat} {R : List Rw} {eS eI m c : Nat} {A : Option Addr} {hs : Hs} {ls : LL}
end
end Go.Proofs.Ytppkigdakobebaa
namespace Go.Proofs.Ytppkigdakobebaa
open Go.RowKit
theorem Yh (m n : Nat) (h : m <= n) : (List.range n).map (fun k => Nat.blt k m && !(([] : List Nat).contains k)) = List.replicate m true ++ List.replicate (n - m) false := by
 apply List.ext_getElem
 .simp; omega
 intro k h1 h2; simp only [List.getElem_map, List.getElem_range, List.getElem_append, List.length_replicate, List.getElem_replicate, List.contains_nil, Bool.not_false, Bool.and_true]; split
 .simpa [Nat.blt_eq] using ‹k < m›
 .rw [Bool.eq_false_iff]; intro hh; exact absurd (Nat.blt_eq.mp hh) ‹_›
theorem QY (m n : Nat) : ((List.replicate m true ++ List.replicate (n - m) false).filter (!·)).length = n - m := by simp
theorem Jbs {P : Program} {n id : Nat} {ro : Option Nat} {df : List Deferred} {l : List Oper} {N : Jo} {B : Js} {L : Fr} {w0 : World} (m : Nat) (al : Nat -> Bool) (cp : Nat -> Option Nat) (ph : Nat -> Value -> Value -> Prop) (ps : List Plan) (bs : List Fr) (V : Nat -> Value -> World -> Prop) (D : Nat -> Value -> World -> Nat -> Prop)
  (hm : P.follows .mixedOrders = true) (hB : YA n l ps m = true)
  (hV : ∀ j v w1 w2, V j v w1 -> w1.grownBy w2 none -> V j v w2)
  (hD : ∀ j v w1 w2, V j v w1 -> w1.grownBy w2 none -> ∀ g, D j v w2 g -> D j v w1 g)
  (hcp : (List.range m).all (fun i => match cp i with | none => true | some j => (Jp l i).contains j) = true)
  (hobs : ZD P n ro df l al cp ph V D w0 L 0 (l.take m) ps bs)
  (hN : ∀ (vals : Nat -> Value) w', w0.grownBy w' none -> (∀ i, i < m -> V i (vals i) w') -> (∀ j k, j ≠ k -> j < m -> k < m -> al j = true -> al k = true -> ∀ g, D j (vals j) w' g -> ¬ D k (vals k) w' g) -> (∀ i j, i < m -> cp i = some j -> ph i (vals j) (vals i)) ->
   WA P n ro df l N (l.length - m) (List.replicate m true ++ List.replicate (l.length - m) false) ((((List.range m).filterMap fun i => (Jm l i).map fun t => (t, vals i))) ++ L) w') : W P n ro df (.region id l.toArray true) N B L w0 := by
 have hG : QS n l ps m [] = true := by
  unfold QS; unfold YA at hB; simp only [List.contains_nil, Bool.false_or]; exact hB
 have hlm : m <= l.length := by simp only [YA, Bool.and_eq_true] at hB; simpa [Nat.ble_eq] using hB.1.1.1.2
 refine YS m [] al cp ph ps bs V D hm hG hV hD hcp hobs fun X hX vals w' hw h1 h2 h3 q hq => ?_; obtain rfl : X = [] := by simpa [Ym] using hX
 rw [Yh m l.length hlm] at hq ⊢; rw [QY] at hq; subst hq; have := hN vals w' hw (fun i hi => h1 i hi rfl) (fun j k hjk hj hk => h2 j k hjk hj hk rfl rfl) (fun i j hi => h3 i j hi rfl)
 simpa using this
end Go.Proofs.Ytppkigdakobebaa
namespace Go.Proofs.Ytppkigdakobebaa
open Go.RowKit
/-! ### regions that draw their order, all of whose values are known -/
theorem YR {P : Program} {n : Nat} {ro : Option Nat} {df : List Deferred} {ops : Array Oper} {o : Oper} {N N' : Jo} {L : Fr} {w : World} (h : ∀ df L w, N df L w -> N' df L w) (hw : WL P n ro df ops [o] N L w) : WL P n ro df ops [o] N' L w :=
  ⟨fun a ha B => by
    have hW := hw.out a ha B
    have f : ∀ e a w, QK n df N B e a w -> QK n df N' B e a w := by
      intro e a w hh
      cases e <;> first | exact hh | (obtain ⟨L, h1, h2⟩ := hh; exact ⟨L, h1, h _ _ _ h2⟩)
    simp only [wpListIn] at hW ⊢
    by_cases hwant : Region.wanted o (yielded ops a.tmps) = true
    . rw [if_pos hwant] at hW ⊢
      exact J1 (fun a w hh => f _ _ _ hh) (fun e a w _ hh => f _ _ _ hh) hW
    . rw [if_neg hwant] at hW ⊢
      exact ⟨hW.1, f _ _ _ hW.2⟩⟩
def F0 : Nat × Value := (0, .int .i64 0)
def Ye (F : Fr) : List Nat -> Fr -> Fr
  | [], A => A
  | j :: js, A => Ye F js (F.getD j F0 :: A)
def obV (P : Program) (n : Nat) (ro : Option Nat) (df : List Deferred) (l : List Oper) (F : Fr) (w0 : World) (i : Nat) (o : Oper) (p : Plan) (b : Fr) : Prop :=
  ∀ w, (p.pure = false -> w0.grownBy w none) -> ∀ R : Fr, WL P n ro df l.toArray [o] (fun _ L' w' => L' = F.getD i F0 :: (Ye F p.on b ++ R) /\ (if p.pure then w' = w else w.grownBy w' none)) (Ye F p.on b ++ R) w
def obsV (P : Program) (n : Nat) (ro : Option Nat) (df : List Deferred) (l : List Oper) (F : Fr) (w0 : World) (L : Fr) : Nat -> List Oper -> List Plan -> List Fr -> Prop
  | i, o :: os, p :: ps, b :: bs => (b.map (·.1) = p.slots /\ sub b L /\ obV P n ro df l F w0 i o p b) /\ obsV P n ro df l F w0 L (i + 1) os ps bs
  | _, [], [], [] => True
  | _, _, _, _ => False
def eqV (F : Fr) : Nat -> Value -> World -> Prop := fun i v _ => v = (F.getD i F0).2
theorem Zg {l : List Oper} {F : Fr} {w : World} {K : Fr -> Prop} : ∀ (js : List Nat) (A : Fr), (∀ j ∈ js, (Jm l j).getD 0 = (F.getD j F0).1) -> K (Ye F js A) -> Zz l (eqV F) w K js A
 | [], _, _, h => h
 | j :: js, A, hd, h => by
  intro u hu; have hu : u = (F.getD j F0).2 := hu; have e : ((Jm l j).getD 0, u) = F.getD j F0 := by rw [hd j List.mem_cons_self, hu]
  rw [e]; exact Zg js _ (fun k hk => hd k (List.mem_cons_of_mem _ hk)) h
theorem Zr {P : Program} {n : Nat} {ro : Option Nat} {df : List Deferred} {l : List Oper} {F : Fr} {w0 : World} {L : Fr} {m : Nat} (hd : ∀ j, j < m -> (Jm l j).getD 0 = (F.getD j F0).1) : ∀ (os : List Oper) (ps : List Plan) (bs : List Fr) (i : Nat), i + os.length <= m -> (∀ p ∈ ps, ∀ j ∈ p.on, j < m) ->
  obsV P n ro df l F w0 L i os ps bs -> ZD P n ro df l (fun _ => false) (fun _ => none) (fun _ v u => u = v) (eqV F) (fun _ _ _ _ => False) w0 L i os ps bs
 | [], [], [], _, _, _, _ => trivial
 | [], [], _ :: _, _, _, _, h => h.elim
 | [], _ :: _, _, _, _, _, h => h.elim
 | _ :: _, [], _, _, _, _, h => h.elim
 | _ :: _, _ :: _, [], _, _, _, h => h.elim
 | o :: os, p :: ps, b :: bs, i, hi, hp, h => by
  simp only [List.length_cons] at hi; refine ⟨⟨h.1.1, h.1.2.1, fun w hw => Zg _ _ (fun j hj => hd j (hp p List.mem_cons_self j hj)) fun R => YR (fun df' L' w' ⟨h1, h2⟩ => ?_) (h.1.2.2 w hw R)⟩, Zr hd os ps bs (i + 1) (by omega) (fun q hq => hp q (List.mem_cons_of_mem _ hq)) h.2⟩; refine ⟨(F.getD i F0).2, ?_, h2, rfl, (fun h => Bool.noConfusion h), (fun j h => by cases h)⟩; rw [h1, hd i (by omega)]
theorem YK {l : List Oper} {vals : Nat -> Value} : ∀ (is : List Nat) (F : Fr), is.map (Jm l) = F.map (fun q => some q.1) -> is.map vals = F.map (·.2) -> (is.filterMap fun i => (Jm l i).map fun t => (t, vals i)) = F
 | [], [], _, _ => rfl
 | [], _ :: _, h, _ => by simp at h
 | _ :: _, [], h, _ => by simp at h
 | i :: is, (t, v) :: F, h, h' => by
  simp only [List.map_cons, List.cons.injEq] at h h'; rw [List.filterMap_cons, h.1]; simp only [Option.map_some]; rw [YK is F h.2 h'.2, h'.1]
theorem Jbt {P : Program} {n id : Nat} {ro : Option Nat} {df : List Deferred} {l : List Oper} {N : Jo} {B : Js} {L : Fr} {w0 : World} (m : Nat) (ps : List Plan) (bs : List Fr) (F : Fr)
  (hm : P.follows .mixedOrders = true) (hB : (YA n l ps m && ps.all fun p => p.on.all (Nat.blt · m)) = true) (hlen : F.length = m) (hds : (List.range m).map (Jm l) = F.map (fun q => some q.1))
  (hobs : obsV P n ro df l F w0 L 0 (l.take m) ps bs)
  (hN : ∀ w', w0.grownBy w' none -> WA P n ro df l N (l.length - m) (List.replicate m true ++ List.replicate (l.length - m) false) (F ++ L) w') : W P n ro df (.region id l.toArray true) N B L w0 := by
 rw [Bool.and_eq_true] at hB; obtain ⟨hB, hp⟩ := hB; have hd : ∀ j, j < m -> (Jm l j).getD 0 = (F.getD j F0).1 := by
  intro j hj; have h := congrArg (fun x : List (Option Nat) => x[j]?) hds; simp only [List.getElem?_map, List.getElem?_range hj, Option.map_some] at h; rw [List.getElem?_eq_getElem (by omega : j < F.length)] at h; simp only [Option.map_some, Option.some.injEq] at h; rw [List.getD_eq_getElem?_getD, List.getElem?_eq_getElem (by omega : j < F.length), h]; rfl
 refine Jbs m (fun _ => false) (fun _ => none) (fun _ v u => u = v) ps bs (eqV F) (fun _ _ _ _ => False) hm hB (fun _ _ _ _ h _ => h) (fun _ _ _ _ _ _ _ h => h) (by simp) (Zr hd _ _ _ _ (by simp [List.length_take]; omega) (fun p hp' j hj => ?_) hobs) ?_
 .have := List.all_eq_true.1 hp p hp'
  simpa [Nat.blt_eq] using List.all_eq_true.1 this j hj
 .intro vals w' hw hV _ _; rw [YK (List.range m) F hds ?_]
  .exact hN w' hw
  .refine List.ext_getElem (by simp [hlen]) fun k h1 h2 => ?_; simp only [List.getElem_map, List.getElem_range]; simp only [List.length_map, List.length_range] at h1 h2; rw [show vals k = (F.getD k F0).2 from hV k h1, List.getD_eq_getElem?_getD, List.getElem?_eq_getElem h2]; rfl
end Go.Proofs.Ytppkigdakobebaa
namespace Go.Proofs.Ytppkigdakobebaa
open Go.RowKit
theorem Q3 {P : Program} {n : Nat} {ro : Option Nat} {df : List Deferred} {l : List Oper} {N : Jo} {listed : List Bool} {L : Fr} {w : World} (h : N df L w) (hr : Region.ready .any l.toArray listed.toArray = [] := by decide +kernel) : WA P n ro df l N 0 listed L w := Jbo hr h
structure RlH (w : World) (A : Option Addr) (n k : Nat) (hs : Hs) (ls : LL) : Prop where
  out : ∃ B, Rd B w 1 A n k (JB hs ls)
  at__ : ∀ i, i < ls.length -> ∃ B, Rd B w 1 (hs i).1 (ls.getD i []).length (hs i).2 (is (ls.getD i []))
theorem Al.heads {w : World} : ∀ {vs : List Value} {ls : LL}, Al w vs ls -> ∃ hs : Hs, vs = JB hs ls /\ ∀ i, i < ls.length -> ∃ B, Rd B w 1 (hs i).1 (ls.getD i []).length (hs i).2 (is (ls.getD i []))
 | [], [], _ => ⟨fun _ => (none, 0), rfl, fun i hi => absurd hi (Nat.not_lt_zero i)⟩
 | v :: vs, l :: ls, ⟨⟨A, k, B, h1, h2⟩, h3⟩ => by
  obtain ⟨hs, e, h⟩ := Al.heads h3; refine ⟨fun i => match i with | 0 => (A, k) | i + 1 => hs i, ?_, ?_⟩
  .rw [JB, List.mapIdx_cons, h1, e]; rfl
  .intro i hi; cases i with
   | zero => exact ⟨B, h2⟩
   | succ i => exact h i (by simpa using hi)
 | [], _ :: _, h => h.elim
 | _ :: _, [], h => h.elim
theorem Rl.heads {w : World} {A : Option Addr} {n k : Nat} {ls : LL} (h : Rl w A n k ls) : ∃ hs : Hs, RlH w A n k hs ls := by
 obtain ⟨B, cs, h1, h2⟩ := h.ex; obtain ⟨hs, e, h3⟩ := h2.heads; subst e; exact ⟨hs, ⟨B, h1⟩, h3⟩
section
variable {w w' : World} {A : Option Addr} {n k : Nat} {hs : Hs} {ls : LL}
theorem RlH.len (h : RlH w A n k hs ls) : ls.length = n := by
 obtain ⟨B, h1⟩ := h.out; have := h1.len; rw [Y7] at this; omega
theorem Jac : ∀ {ls : LL} {hs : Hs}, (∀ i, i < ls.length -> ∃ B, Rd B w 1 (hs i).1 (ls.getD i []).length (hs i).2 (is (ls.getD i []))) -> Al w (JB hs ls) ls
 | [], _, _ => trivial
 | l :: ls, hs, h => by
  simp only [JB, List.mapIdx_cons]; obtain ⟨B, h0⟩ := h 0 (by simp); exact ⟨⟨_, _, B, rfl, h0⟩, Jac (ls := ls) (hs := fun i => hs (i + 1)) (fun i hi => h (i + 1) (by simpa using hi))⟩
theorem RlH.rl (h : RlH w A n k hs ls) : Rl w A n k ls := by
 obtain ⟨B, h1⟩ := h.out; exact ⟨B, _, h1, Jac h.at__⟩
theorem RlH.ext (h : RlH w A n k hs ls) (hg : w.grownBy w' none) : RlH w' A n k hs ls := by
 obtain ⟨B, h1⟩ := h.out; exact ⟨⟨B, h1.ext hg⟩, fun i hi => by obtain ⟨B, h2⟩ := h.at__ i hi; exact ⟨B, h2.ext hg⟩⟩
theorem RlH.cell (h : RlH w A n k hs ls) {I : Int} (hI : 0 <= I /\ I < (n : Nat)) : w.cell? ((Qk A).add I.toNat) = some (.slice (hs I.toNat).1 (gl ls I).length (hs I.toNat).2) := by
 have hl := h.len; obtain ⟨B, h1⟩ := h.out; exact h1.at_ (ZI hs ls (by omega))
theorem RlH.row (h : RlH w A n k hs ls) {I : Int} (hI : 0 <= I /\ I < (n : Nat)) : Rd w.heap.size w 1 (hs I.toNat).1 (gl ls I).length (hs I.toNat).2 (is (gl ls I)) := by
  have hl := h.len
  obtain ⟨B, h1⟩ := h.at__ I.toNat (by omega)
  exact h1.norm
theorem RlH.nil (w : World) : RlH w none 0 0 (fun _ => (none, 0)) [] := ⟨⟨0, Rd.nil (by simp only [maxLen]; omega)⟩, fun i hi => absurd hi (Nat.not_lt_zero i)⟩
end
abbrev Mt := Int × LL
def gm (ms : List Mt) (i : Int) : Mt := ms.getD i.toNat (0, [])
def Am (w : World) : List Value -> List Mt -> Prop
  | [], [] => True
  | u :: v :: vs, (c, l) :: ls => u = .int .i64 c /\ (∃ A k, v = .slice A l.length k /\ Rl w A l.length k l) /\ Am w vs ls
  | _, _ => False
structure Rm (w : World) (A : Option Addr) (n k : Nat) (ms : List Mt) : Prop where
  ex : ∃ B cs, Rd B w 2 A n k cs /\ Am w cs ms
abbrev HM := Nat -> (Option Addr × Nat) × Hs
def J4 (H : HM) (ms : List Mt) : List Value := (ms.mapIdx fun i m => [Value.int .i64 m.1, .slice (H i).1.1 m.2.length (H i).1.2]).flatten
structure RmH (w : World) (A : Option Addr) (n k : Nat) (H : HM) (ms : List Mt) : Prop where
  out : ∃ B, Rd B w 2 A n k (J4 H ms)
  at__ : ∀ i, i < ms.length -> RlH w (H i).1.1 (ms.getD i (0, [])).2.length (H i).1.2 (H i).2 (ms.getD i (0, [])).2
theorem JN (H : HM) (m : Mt) (ms : List Mt) : J4 H (m :: ms) = .int .i64 m.1 :: .slice (H 0).1.1 m.2.length (H 0).1.2 :: J4 (fun i => H (i + 1)) ms := by
 simp [J4, List.mapIdx_cons]
theorem QW : ∀ (ms : List Mt) (H : HM), (J4 H ms).length = ms.length * 2
 | [], _ => rfl
 | m :: ms, H => by rw [JN, List.length_cons, List.length_cons, QW ms, List.length_cons]; omega
theorem Yg : ∀ (ms : List Mt) (H : HM) (i : Nat), i < ms.length -> (J4 H ms)[i * 2]? = some (.int .i64 (ms.getD i (0, [])).1) /\ (J4 H ms)[i * 2 + 1]? = some (.slice (H i).1.1 (ms.getD i (0, [])).2.length (H i).1.2)
 | [], _, i, h => absurd h (Nat.not_lt_zero i)
 | m :: ms, H, 0, _ => by rw [JN]; exact ⟨rfl, rfl⟩
 | m :: ms, H, i + 1, h => by
  rw [JN, show (i + 1) * 2 = i * 2 + 1 + 1 by omega]; exact Yg ms (fun i => H (i + 1)) i (by simpa using h)
theorem Am.heads {w : World} : ∀ {ms : List Mt} {vs : List Value}, Am w vs ms -> ∃ H : HM, vs = J4 H ms /\ ∀ i, i < ms.length -> RlH w (H i).1.1 (ms.getD i (0, [])).2.length (H i).1.2 (H i).2 (ms.getD i (0, [])).2
 | [], [], _ => ⟨fun _ => ((none, 0), fun _ => (none, 0)), rfl, fun i hi => absurd hi (Nat.not_lt_zero i)⟩
 | (c, l) :: ms, u :: v :: vs, ⟨h1, ⟨A, k, h2, h3⟩, h4⟩ => by
  obtain ⟨H, e, h⟩ := Am.heads h4; obtain ⟨hs, h5⟩ := h3.heads; refine ⟨fun i => match i with | 0 => ((A, k), hs) | i + 1 => H i, ?_, ?_⟩
  .rw [JN, h1, h2, e]
  .intro i hi; cases i with
   | zero => exact h5
   | succ i => exact h i (by simpa using hi)
 | (_, _) :: _, [], h => absurd h (by simp [Am])
 | (_, _) :: _, [_], h => absurd h (by simp [Am])
 | [], _ :: _, h => absurd h (by simp [Am])
theorem Rm.heads {w : World} {A : Option Addr} {n k : Nat} {ms : List Mt} (h : Rm w A n k ms) : ∃ H, RmH w A n k H ms := by
 obtain ⟨B, cs, h1, h2⟩ := h.ex; obtain ⟨H, e, h3⟩ := h2.heads; subst e; exact ⟨H, ⟨B, h1⟩, h3⟩
section
variable {w w' : World} {A : Option Addr} {n k : Nat} {H : HM} {ms : List Mt}
theorem RmH.len (h : RmH w A n k H ms) : ms.length = n := by
 obtain ⟨B, h1⟩ := h.out; have := h1.len; rw [QW] at this; omega
theorem RmH.ext (h : RmH w A n k H ms) (hg : w.grownBy w' none) : RmH w' A n k H ms := by
 obtain ⟨B, h1⟩ := h.out; exact ⟨⟨B, h1.ext hg⟩, fun i hi => (h.at__ i hi).ext hg⟩
theorem am_of : ∀ {ms : List Mt} {H : HM}, (∀ i, i < ms.length -> RlH w (H i).1.1 (ms.getD i (0, [])).2.length (H i).1.2 (H i).2 (ms.getD i (0, [])).2) -> Am w (J4 H ms) ms
 | [], _, _ => trivial
 | (c, l) :: ms, H, h => by
  rw [JN]; exact ⟨rfl, ⟨_, _, rfl, (h 0 (by simp)).rl⟩, am_of (ms := ms) (H := fun i => H (i + 1)) (fun i hi => h (i + 1) (by simpa using hi))⟩
theorem RmH.rm (h : RmH w A n k H ms) : Rm w A n k ms := by
 obtain ⟨B, h1⟩ := h.out; exact ⟨B, _, h1, am_of h.at__⟩
theorem Rm.ext (h : Rm w A n k ms) (hg : w.grownBy w' none) : Rm w' A n k ms := by
 obtain ⟨H, h⟩ := h.heads; exact (h.ext hg).rm
theorem Rm.len (h : Rm w A n k ms) : ms.length = n := by
 obtain ⟨H, h⟩ := h.heads; exact h.len
theorem RmH.row (h : RmH w A n k H ms) {I : Int} (hI : 0 <= I /\ I < (n : Nat)) : RlH w (H I.toNat).1.1 (gm ms I).2.length (H I.toNat).1.2 (H I.toNat).2 (gm ms I).2 := h.at__ _ (by have := h.len; omega)
theorem RmH.cells (h : RmH w A n k H ms) {I : Int} (hI : 0 <= I /\ I < (n : Nat)) : Rd w.heap.size w 2 (some ((Qk A).add (I.toNat * 2))) 1 1 [.int .i64 (gm ms I).1, .slice (H I.toNat).1.1 (gm ms I).2.length (H I.toNat).1.2] := by
  have hl := h.len
  obtain ⟨B, h1⟩ := h.out
  obtain ⟨ad, e, h2, h3⟩ := (h1.norm).cells (by omega)
  subst e
  obtain ⟨c1, c2⟩ := Yg ms H I.toNat (by omega)
  refine ⟨rfl, Nat.le_refl _, by simp [maxLen], fun _ => ⟨_, rfl, by rw [JS]; exact h2, fun j u hj => ?_⟩⟩
  rw [Zt]
  match j with
  | 0 => cases hj; exact h3 _ _ c1
  | 1 => cases hj; exact h3 _ _ c2
  | j + 2 => simp at hj
end
def vbD : Value -> World -> Nat -> Prop := fun v _ g => vb v = some g
section
variable {w w' : World} {A : Option Addr} {eS eI m c : Nat} {hs : Hs} {ls : LL} {b : Nat} {mr : Option Nat}
end
section
variable {X : World -> Prop} {w0 w w' wS : World} {mr : Option Nat} {R R0 : List Rw} {eS eI m c : Nat} {A : Option Addr} {hs : Hs} {ls : LL}
theorem St.n0 (h : St X w0 mr w ([] ++ R)) : St X w0 mr w R := h
theorem St.n1 {a : Rw} (h : St X w0 mr w ([a] ++ R)) : St X w0 mr w (a :: R) := h
def Tl (R0 R : List Rw) : Prop := ∃ L, R = L ++ R0
theorem Tl.mem (h : Tl R0 R) {r : Rw} (hr : r ∈ R0) : r ∈ R := by obtain ⟨L, rfl⟩ := h; exact List.mem_append_right _ hr
end
section
variable {P : Program} {n : Nat} {ro : Option Nat} {df : List Deferred} {N : Jo} {L : Fr} {w w0 : World} {ops : Array Oper} {rest : List Oper}
variable {d : Nat} {ty : TypeId} {pos : String} {af : Array Edge} {X : World -> Prop} {mr : Option Nat} {R : List Rw} {eS eI m c : Nat} {A : Option Addr} {hs : Hs} {ls : LL}
end
theorem Rm.nil (w : World) : Rm w none 0 0 [] := ⟨0, [], Rd.nil (by simp only [maxLen]; omega), trivial⟩
theorem ZY {w : World} {A : Option Addr} {n k : Nat} {ls : LL} (h : Rl w A n k ls) {J : Int} (hJ : 0 <= J /\ J <= (n : Nat)) : J.toNat = (ls.take J.toNat).length := by
 have := h.len; rw [List.length_take]; omega
theorem Al.take {w : World} : ∀ {vs : List Value} {ls : LL} (k : Nat), Al w vs ls -> Al w (vs.take k) (ls.take k)
 | [], [], k, _ => by simp [Al]
 | v :: vs, l :: ls, 0, _ => trivial
 | v :: vs, l :: ls, k + 1, h => ⟨h.1, Al.take k h.2⟩
 | [], _ :: _, _, h => h.elim
 | _ :: _, [], _, h => h.elim
theorem Rl.take {w : World} {A : Option Addr} {n k : Nat} {ls : LL} (h : Rl w A n k ls) {J : Int} (hJ : 0 <= J /\ J <= (n : Nat)) : Rl w A (ls.take J.toNat).length k (ls.take J.toNat) := by
 have hl := ZY h hJ; obtain ⟨B, cs, h1, h2⟩ := h.ex; have h3 := h1.take (k := J.toNat) (by omega); rw [Nat.mul_one] at h3; rw [<- hl]; exact ⟨B, _, h3, h2.take _⟩
end Go.Proofs.Ytppkigdakobebaa
namespace Go.Proofs.Ytppkigdakobebaa
open Go.RowKit
/-! ### many plain steps as one -/
def opv (L : Fr) : Op -> Option Value
  | .move x => ev L x
  | .assign x => ev L x
  | .pick c x y => match ev L c with
    | some (.bool b) => ev L (bif b then x else y)
    | _ => none
  | .extract x i => match ev L x with
    | some (.tuple vs) => vs[i]?
    | _ => none
  | .unOp .not _ x => match ev L x with
    | some (.bool b) => some (.bool !b)
    | _ => none
  | .binOp .lss _ x y _ => match ev L x, ev L y with
    | some (.int .i64 a), some (.int .i64 b) => some (.bool (decide (a < b)))
    | _, _ => none
  | .binOp .leq _ x y _ => match ev L x, ev L y with
    | some (.int .i64 a), some (.int .i64 b) => some (.bool (decide (a <= b)))
    | _, _ => none
  | .binOp .gtr _ x y _ => match ev L x, ev L y with
    | some (.int .i64 a), some (.int .i64 b) => some (.bool (decide (b < a)))
    | _, _ => none
  | .binOp .geq _ x y _ => match ev L x, ev L y with
    | some (.int .i64 a), some (.int .i64 b) => some (.bool (decide (b <= a)))
    | _, _ => none
  | .binOp .eql _ x y _ => match ev L x, ev L y with
    | some (.int .i64 a), some (.int .i64 b) => some (.bool (decide (a = b)))
    | _, _ => none
  | .binOp .neq _ x y _ => match ev L x, ev L y with
    | some (.int .i64 a), some (.int .i64 b) => some (.bool (decide (a ≠ b)))
    | _, _ => none
  | .nilCheck x => match ev L x with
    | some (.pointer (some p)) => some (.pointer (some p))
    | _ => none
  | _ => none
inductive Stp
  | val (L : Fr)
  | opr (o : Oper)
  | no
def stp (all : Array Oper) (n : Nat) (L : Fr) : Oper -> Stp
  | ⟨some d, op, ty, ps, af, some (j, want)⟩ => match (all[j]?.bind (·.dst)).bind (lk L) with
    | some (.bool b) => bif b == want then .opr ⟨some d, op, ty, ps, af, none⟩ else bif Nat.blt d n then .val ((d, undef) :: L) else .no
    | _ => .no
  | ⟨some d, op, ty, ps, af, none⟩ => match opv L op with
    | some v => bif Nat.blt d n then .val ((d, v) :: L) else .no
    | none => .no
  | _ => .no
inductive Gs
  | C (c : Code)
  | R (all : Array Oper) (rest : List Oper)
section
variable (P : Program) (n : Nat) (ro : Option Nat) (df : List Deferred) (N : Jo) (B : Js)
def Ns : List Code -> Jo
  | [] => N
  | c :: st => fun df L w => W P n ro df c (Ns st) B L w
def goS (w : World) : Nat -> List Code -> Gs -> Fr -> Prop
  | 0, st, .C c, L => W P n ro df c (Ns P n ro N B st) B L w
  | 0, st, .R all rest, L => WL P n ro df all rest (Ns P n ro N B st) L w
  | k + 1, st, .C (.seq a b), L => goS w k (b :: st) (.C a) L
  | k + 1, st, .C (.region _ ops false), L => goS w k st (.R ops ops.toList) L
  | k + 1, b :: st, .C .skip, L => goS w k st (.C b) L
  | _ + 1, [], .C .skip, L => N df L w
  | _ + 1, [], .R _ [], L => N df L w
  | k + 1, b :: st, .R _ [], L => goS w k st (.C b) L
  | k + 1, st, .R all (o :: rest), L => match stp all n L o with
    | .val L' => goS w k st (.R all rest) L'
    | .opr o' => goS w k st (.R all (o' :: rest)) L
    | .no => False
  | _, _, _, _ => False
end
section
variable {P : Program} {n : Nat} {ro : Option Nat} {df : List Deferred} {N : Jo} {B : Js} {L : Fr} {w : World} {all : Array Oper} {rest : List Oper}
theorem QE {d : Nat} {op : Op} {ty : TypeId} {ps : String} {af : Array Edge} {v : Value} (hv : opv L op = some v) (hn : Nat.blt d n = true) (h : WL P n ro df all rest N ((d, v) :: L) w) :
  WL P n ro df all (⟨some d, op, ty, ps, af, none⟩ :: rest) N L w := by
 unfold opv at hv; split at hv
 .exact Jf hv hn h
 .exact ZN hv hn h
 .split at hv
  .rename_i hc; exact WL.pick hc hv hn h
  .cases hv
 .split at hv
  .rename_i hc; exact Zc hc hv hn h
  .cases hv
 .split at hv
  .rename_i hc; cases hv; exact Yw hc hn h
  .cases hv
 .split at hv
  .rename_i h1 h2; cases hv; exact Jbi h1 h2 hn h
  .cases hv
 .split at hv
  .rename_i h1 h2; cases hv; exact Jbk h1 h2 hn h
  .cases hv
 .split at hv
  .rename_i h1 h2; cases hv; exact Jv h1 h2 hn h
  .cases hv
 .split at hv
  .rename_i h1 h2; cases hv; exact Jbl h1 h2 hn h
  .cases hv
 .split at hv
  .rename_i h1 h2; cases hv; exact Jbm h1 h2 hn h
  .cases hv
 .split at hv
  .rename_i h1 h2; cases hv; exact JH h1 h2 hn h
  .cases hv
 .split at hv
  .rename_i h1; cases hv; exact YQ h1 hn h
  .cases hv
 .cases hv
theorem stp_ok {o : Oper} : (∀ L', stp all n L o = .val L' -> WL P n ro df all rest N L' w -> WL P n ro df all (o :: rest) N L w) /\ (∀ o', stp all n L o = .opr o' -> WL P n ro df all (o' :: rest) N L w -> WL P n ro df all (o :: rest) N L w) := by
 obtain ⟨dst, op, ty, ps, af, g⟩ := o; cases dst with
 | none => exact ⟨fun _ h => by simp [stp] at h, fun _ h => by simp [stp] at h⟩
 | some d =>
  cases g with
  | none =>
   refine ⟨fun L' h hw => ?_, fun o' h => ?_⟩
   .simp only [stp] at h; split at h
    .rename_i v hv
     cases hn : Nat.blt d n <;> rw [hn] at h
     .cases h
     .cases h; exact QE hv hn hw
    .cases h
   .simp only [stp] at h; split at h
    .cases hn : Nat.blt d n <;> rw [hn] at h <;> cases h
    .cases h
  | some jw =>
   obtain ⟨j, want⟩ := jw; refine ⟨fun L' h hw => ?_, fun o' h hw => ?_⟩
   .simp only [stp] at h; split at h
    .rename_i b hb
     cases hbw : (b == want) <;> rw [hbw] at h
     .cases hn : Nat.blt d n <;> rw [hn] at h
      .cases h
      .cases h; exact Zw hb hbw hn hw
     .cases h
    .cases h
   .simp only [stp] at h; split at h
    .rename_i b hb
     cases hbw : (b == want) <;> rw [hbw] at h
     .cases hn : Nat.blt d n <;> rw [hn] at h <;> cases h
     .cases h; have e : b = want := by simpa using hbw
      subst e; exact WL.take hb hw
    .cases h
def Gs.prop (P : Program) (n : Nat) (ro : Option Nat) (df : List Deferred) (N : Jo) (B : Js) (L : Fr) (w : World) (st : List Code) : Gs -> Prop
  | .C c => W P n ro df c (Ns P n ro N B st) B L w
  | .R all rest => WL P n ro df all rest (Ns P n ro N B st) L w
theorem Qc : ∀ (k : Nat) (st : List Code) (s : Gs) (L : Fr), goS P n ro df N B w k st s L -> s.prop P n ro df N B L w st
 | 0, _, .C _, _, h => h
 | 0, _, .R _ _, _, h => h
 | k + 1, st, .C (.seq a b), L, h => JP (Qc k (b :: st) (.C a) L h)
 | k + 1, st, .C (.region i ops false), L, h => by
  have := Qc k st (.R ops ops.toList) L h; have := Qu (B := B) (id := i) (l := ops.toList) this; exact this
 | k + 1, b :: st, .C .skip, L, h => Jl (Qc k st (.C b) L h)
 | _ + 1, [], .C .skip, L, h => Jl h
 | _ + 1, [], .R _ [], L, h => Ja h
 | k + 1, b :: st, .R _ [], L, h => Ja (Qc k st (.C b) L h)
 | k + 1, st, .R all (o :: rest), L, h => by
  have hs := stp_ok (P := P) (ro := ro) (df := df) (N := Ns P n ro N B st) (w := w) (all := all) (n := n) (L := L) (o := o) (rest := rest); unfold goS at h; split at h
  .rename_i L' e; exact hs.1 L' e (Qc k st (.R all rest) L' h)
  .rename_i o' e; exact hs.2 o' e (Qc k st (.R all (o' :: rest)) L h)
  .exact h.elim
/-- k plain steps. -/
theorem Jd {c : Code} (k : Nat) (h : goS P n ro df N B w k [] (.C c) L) : W P n ro df c N B L w := Qc k [] (.C c) L h
theorem Jc (k : Nat) (h : goS P n ro df N (fun _ _ _ _ => False) w k [] (.R all rest) L) : WL P n ro df all rest N L w := Qc k [] (.R all rest) L h
end
end Go.Proofs.Ytppkigdakobebaa
namespace Go.Proofs.Ytppkigdakobebaa
open Go.RowKit
structure SInv (n : Nat) (df : List Deferred) (l : List Oper) (F : Fr) (q : Nat -> Option Nat) (T : Nat) (G : Nat -> World -> Prop) (L : Fr) (d : Nat -> Bool) (a : Act) (w : World) : Prop where
  nd : a.defers = df
  sz : a.tmps.size = n
  old : ∀ t v, lk L t = some v -> (∀ k, d k = true -> Jm l k ≠ some t) -> a.tmps[t]? = some v
  new : ∀ k t, d k = true -> Jm l k = some t -> a.tmps[t]? = some (F.getD k F0).2
  st : ∃ s, s <= T /\ G s w /\ ∀ i r, i < l.length -> q i = some r -> (d i = true ↔ r < s)
  cl : ∀ k, d k = true -> ∀ j ∈ Jp l k, d j = true
  lt : ∀ k, d k = true -> k < l.length
end Go.Proofs.Ytppkigdakobebaa
namespace Go.Proofs.Ytppkigdakobebaa
open Go.RowKit
section
variable {P : Program} {n : Nat} {ro : Option Nat} {df : List Deferred} {N : Jo} {L : Fr} {w : World} {ops : Array Oper} {rest : List Oper}
variable {d : Nat} {ty : TypeId} {pos : String} {af : Array Edge}
end
end Go.Proofs.Ytppkigdakobebaa
namespace Go.Proofs.Ytppkigdakobebaa
open Go.RowKit
/-! ### regions that draw their order: known values beside values with memory -/
/-- What an operation yields into its slot: a known value, or one that something is known of. -/
inductive Ent
  | k (d : Nat) (v : Value)
  | m (d : Nat) (Pr : Value -> World -> Prop) (h : ∀ v w1 w2, Pr v w1 -> w1.grownBy w2 none -> Pr v w2)
def Ent.d : Ent -> Nat
  | .k d _ => d
  | .m d _ _ => d
def Ent.V : Ent -> Value -> World -> Prop
  | .k _ v => fun u _ => u = v
  | .m _ Pr _ => Pr
def Ent.val : Ent -> Value -> Value
  | .k _ v, _ => v
  | .m _ _ _, u => u
def E0 : Ent := .k 0 (.int .i64 0)
def eV (F : List Ent) : Nat -> Value -> World -> Prop := fun i => (F.getD i E0).V
/-- A row of the call's own, in a value made of it. -/
def eO (w : World) (d e m : Nat) (f : Option Addr -> Nat -> Value) (cs : List Value) : Ent :=
  .m d (fun v wQ => ∃ A k, v = f A k /\ Own 0 wQ e 1 A m k cs /\ ∀ g, bl A = some g -> w.heap.size <= g) fun _ _ _ ⟨A, k, h1, h2, h3⟩ hg => ⟨A, k, h1, h2.ext hg, h3⟩
def eS (w : World) (d e m : Nat) (cs : List Value) : Ent := eO w d e m (fun A k => .slice A m k) cs
def Ql (F : List Ent) (w : World) (K : Fr -> Prop) : List Nat -> Fr -> Prop
  | [], A => K A
  | j :: js, A => match F.getD j E0 with
    | .k d v => Ql F w K js ((d, v) :: A)
    | .m d Pr _ => ∀ u, Pr u w -> Ql F w K js ((d, u) :: A)
def Yc (L : Fr) : List Nat -> Fr
  | [] => []
  | t :: ts => (t, (lk L t).getD (.int .i64 0)) :: Yc L ts
def obY (P : Program) (n : Nat) (ro : Option Nat) (df : List Deferred) (l : List Oper) (al : Nat -> Bool) (cp : Nat -> Option Nat) (ph : Nat -> Value -> Value -> Prop) (F : List Ent) (D : Nat -> Value -> World -> Nat -> Prop) (w0 : World) (i : Nat) (o : Oper) (p : Plan) (base : Fr) : Prop :=
  ∀ w, (p.pure = false -> w0.grownBy w none) -> Ql F w (fun A => ∀ R : Fr, WL P n ro df l.toArray [o]
    (fun _ L' w' => match F.getD i E0 with
      | .k d v => L' = (d, v) :: (A ++ R) /\ (if p.pure then w' = w else w.grownBy w' none)
      | .m d Pr _ => ∃ u, L' = (d, u) :: (A ++ R) /\ (if p.pure then w' = w else w.grownBy w' none) /\ Pr u w' /\ (al i = true -> ∀ g, D i u w' g -> w.heap.size <= g /\ g < w'.heap.size) /\ (∀ j, cp i = some j -> ∃ u', lk (A ++ R) (F.getD j E0).d = some u' /\ ph i u' u)) (A ++ R) w) p.on base
def obsY (P : Program) (n : Nat) (ro : Option Nat) (df : List Deferred) (l : List Oper) (al : Nat -> Bool) (cp : Nat -> Option Nat) (ph : Nat -> Value -> Value -> Prop) (F : List Ent) (D : Nat -> Value -> World -> Nat -> Prop) (w0 : World) (L : Fr) : Nat -> List Oper -> List Plan -> Prop
  | i, o :: os, p :: ps => obY P n ro df l al cp ph F D w0 i o p (Yc L p.slots) /\ obsY P n ro df l al cp ph F D w0 L (i + 1) os ps
  | _, [], [] => True
  | _, _, _ => False
def frY (X : List Nat) (vals : Nat -> Value) : Nat -> List Ent -> Fr
  | _, [] => []
  | i, e :: F => bif X.contains i then frY X vals (i + 1) F else (e.d, e.val (vals i)) :: frY X vals (i + 1) F
def kcB (al : Nat -> Bool) (cp : Nat -> Option Nat) : Nat -> List Ent -> Bool
  | _, [] => true
  | i, .k _ _ :: F => !al i && (cp i).isNone && kcB al cp (i + 1) F
  | i, .m _ _ _ :: F => kcB al cp (i + 1) F
theorem Y5 {al : Nat -> Bool} {cp : Nat -> Option Nat} : ∀ (F : List Ent) (i k : Nat) {d : Nat} {v : Value}, kcB al cp i F = true -> F[k]? = some (.k d v) -> al (i + k) = false /\ cp (i + k) = none
 | [], _, _, _, _, _, h => by simp at h
 | .k d v :: F, i, 0, _, _, h, e => by
  simp only [kcB, Bool.and_eq_true, Bool.not_eq_true', Option.isNone_iff_eq_none] at h; exact h.1
 | .m d Pr hh :: F, i, 0, _, _, h, e => by simp at e
 | .k d v :: F, i, k + 1, _, _, h, e => by
  simp only [kcB, Bool.and_eq_true] at h; have := Y5 F (i + 1) k h.2 (by simpa using e); rw [show i + (k + 1) = i + 1 + k by omega]; exact this
 | .m d Pr hh :: F, i, k + 1, _, _, h, e => by
  simp only [kcB] at h; have := Y5 F (i + 1) k h (by simpa using e); rw [show i + (k + 1) = i + 1 + k by omega]; exact this
theorem Qp (L : Fr) : ∀ ts : List Nat, (Yc L ts).map (·.1) = ts
 | [] => rfl
 | t :: ts => by simp [Yc, Qp L ts]
theorem Q0 (L : Fr) : ∀ ts : List Nat, (ts.all fun t => (lk L t).isSome) = true -> sub (Yc L ts) L
 | [], _ => trivial
 | t :: ts, h => by
  simp only [List.all_cons, Bool.and_eq_true] at h; refine ⟨?_, Q0 L ts h.2⟩; cases e : lk L t with
  | none => rw [e] at h; exact absurd h.1 (by simp)
  | some v => rfl
theorem QR {l : List Oper} {F : List Ent} {w : World} {K : Fr -> Prop} : ∀ (js : List Nat) (A : Fr), (∀ j ∈ js, (Jm l j).getD 0 = (F.getD j E0).d) -> Ql F w K js A -> Zz l (eV F) w K js A
 | [], _, _, h => h
 | j :: js, A, hd, h => by
  intro u hu; unfold eV at hu; unfold Ql at h; have hd1 := hd j List.mem_cons_self; rw [hd1]; cases e : F.getD j E0 with
  | k d v =>
   rw [e] at hu h; obtain rfl : u = v := hu; exact QR js _ (fun q hq => hd q (List.mem_cons_of_mem _ hq)) h
  | m d Pr hh =>
   rw [e] at hu h; exact QR js _ (fun q hq => hd q (List.mem_cons_of_mem _ hq)) (h u hu)
theorem Qm {F : List Ent} {w : World} {K K' : Fr -> Prop} (h : ∀ A, K A -> K' A) : ∀ (js : List Nat) (A : Fr), Ql F w K js A -> Ql F w K' js A
 | [], _, hk => h _ hk
 | j :: js, A, hk => by
  unfold Ql at hk ⊢; cases e : F.getD j E0 with
  | k d v => rw [e] at hk; exact Qm h js _ hk
  | m d Pr hh => rw [e] at hk; exact fun u hu => Qm h js _ (hk u hu)
theorem YG {P : Program} {n : Nat} {ro : Option Nat} {df : List Deferred} {l : List Oper} {al : Nat -> Bool} {cp : Nat -> Option Nat} {ph : Nat -> Value -> Value -> Prop} {F : List Ent} {D : Nat -> Value -> World -> Nat -> Prop} {w0 : World} {L : Fr} {m : Nat}
  (hd : ∀ j, j < m -> (Jm l j).getD 0 = (F.getD j E0).d) (hF : F.length = m) (hk : kcB al cp 0 F = true) (hcp : ∀ i j, i < m -> cp i = some j -> j < m) : ∀ (os : List Oper) (ps : List Plan) (i : Nat), i + os.length <= m -> (∀ p ∈ ps, ∀ j ∈ p.on, j < m) -> (∀ p ∈ ps, (p.slots.all fun t => (lk L t).isSome) = true) ->
  obsY P n ro df l al cp ph F D w0 L i os ps -> ZD P n ro df l al cp ph (eV F) D w0 L i os ps (ps.map fun p => Yc L p.slots)
 | [], [], _, _, _, _, _ => trivial
 | [], _ :: _, _, _, _, _, h => h.elim
 | _ :: _, [], _, _, _, _, h => h.elim
 | o :: os, p :: ps, i, hi, hp, hs, h => by
  simp only [List.length_cons] at hi; refine ⟨⟨Qp _ _, Q0 _ _ (hs p List.mem_cons_self), fun w hw => QR _ _ (fun j hj => hd j (hp p List.mem_cons_self j hj)) (Qm (fun A hA R => YR (fun df' L' w' hh => ?_) (hA R)) _ _ (h.1 w hw))⟩, YG hd hF hk hcp os ps (i + 1) (by omega) (fun q hq => hp q (List.mem_cons_of_mem _ hq)) (fun q hq => hs q (List.mem_cons_of_mem _ hq)) h.2⟩; have hgi : F[i]? = some (F.getD i E0) := by
   rw [List.getD_eq_getElem?_getD, List.getElem?_eq_getElem (by omega : i < F.length)]; rfl
  rw [hd i (by omega)]; unfold eV; cases e : F.getD i E0 with
  | k d v =>
   rw [e] at hh hgi; obtain ⟨h1, h2⟩ := Y5 F 0 i hk hgi; rw [Nat.zero_add] at h1 h2; exact ⟨v, hh.1, hh.2, rfl, (fun h => by rw [h1] at h; cases h), (fun j h => by rw [h2] at h; cases h)⟩
  | m d Pr hm_ =>
   rw [e] at hh; obtain ⟨u, h1, h2, h3, h4, h5⟩ := hh; exact ⟨u, h1, h2, h3, h4, fun j hj => by rw [hd j (hcp i j (by omega) hj)]; exact h5 j hj⟩
theorem Z4 {X : List Nat} {vals : Nat -> Value} {w : World} (f : Nat -> Option Nat) : ∀ (F : List Ent) (i : Nat), (∀ k e, F[k]? = some e -> f (i + k) = some e.d /\ (X.contains (i + k) = false -> e.V (vals (i + k)) w)) ->
  ((List.range' i F.length).filterMap fun i => if X.contains i = true then none else (f i).map fun t => (t, vals i)) = frY X vals i F
 | [], _, _ => rfl
 | e :: F, i, h => by
  have ih := Z4 f F (i + 1) (fun k e' hk => by
   have := h (k + 1) e' (by simpa using hk); rw [show i + 1 + k = i + (k + 1) by omega]; exact this)
  obtain ⟨h1, h2⟩ := h 0 e rfl; rw [Nat.add_zero] at h1 h2; rw [List.length_cons, List.range'_succ, List.filterMap_cons]; unfold frY; cases hc : X.contains i with
  | true => simp only [if_true, cond_true]; exact ih
  | false =>
   have := h2 hc; simp only [Bool.false_eq_true, if_false, cond_false, h1, Option.map_some]; rw [ih]; cases e with
   | k d v => rw [show vals i = v from this]; rfl
   | m d Pr hh => rfl
theorem Jbr {P : Program} {n id : Nat} {ro : Option Nat} {df : List Deferred} {l : List Oper} {N : Jo} {B : Js} {L : Fr} {w0 : World} (m : Nat) (fs : List Nat) (al : Nat -> Bool) (cp : Nat -> Option Nat) (ph : Nat -> Value -> Value -> Prop) (ps : List Plan) (F : List Ent) (D : Nat -> Value -> World -> Nat -> Prop)
  (hm : P.follows .mixedOrders = true) (hB : (QS n l ps m fs && (List.range m).all (fun i => match cp i with | none => true | some j => Nat.blt j m && (Jp l i).contains j) && ps.all fun p => p.on.all (Nat.blt · m)) = true)
  (hds : (List.range m).map (Jm l) = F.map (fun e => some e.d)) (hk : (kcB al cp 0 F && ps.all fun p => p.slots.all fun t => (lk L t).isSome) = true)
  (hD : ∀ j v w1 w2, eV F j v w1 -> w1.grownBy w2 none -> ∀ g, D j v w2 g -> D j v w1 g)
  (hobs : obsY P n ro df l al cp ph F D w0 L 0 (l.take m) ps)
  (hN2 : ∀ X ∈ Ym fs, ∀ (vals : Nat -> Value) w', w0.grownBy w' none -> (∀ i, i < m -> X.contains i = false -> eV F i (vals i) w') -> (∀ j k, j ≠ k -> j < m -> k < m -> X.contains j = false -> X.contains k = false -> al j = true -> al k = true -> ∀ g, D j (vals j) w' g -> ¬ D k (vals k) w' g) -> (∀ i j, i < m -> X.contains i = false -> cp i = some j -> ph i (vals j) (vals i)) -> ∀ q, q = (((List.range l.length).map fun k => Nat.blt k m && !(X.contains k)).filter (!·)).length ->
   WA P n ro df l N q ((List.range l.length).map fun k => Nat.blt k m && !(X.contains k)) (frY X vals 0 F ++ L) w') : W P n ro df (.region id l.toArray true) N B L w0 := by
 simp only [Bool.and_eq_true] at hB hk; obtain ⟨⟨hB, hcp⟩, hp⟩ := hB; have hF : F.length = m := by have := congrArg List.length hds; simpa using this.symm
 have hd1 : ∀ k e, F[k]? = some e -> Jm l k = some e.d := by
  intro k e he; have h := congrArg (fun x : List (Option Nat) => x[k]?) hds; have hk' : k < m := by rw [<- hF]; exact (List.getElem?_eq_some_iff.1 he).1
  simp only [List.getElem?_map, List.getElem?_range hk', Option.map_some, he, Option.some.injEq] at h; exact h
 have hd : ∀ j, j < m -> (Jm l j).getD 0 = (F.getD j E0).d := by
  intro j hj; have e1 : F[j]? = some (F.getD j E0) := by
   rw [List.getD_eq_getElem?_getD, List.getElem?_eq_getElem (by omega : j < F.length)]; rfl
  rw [hd1 j _ e1]; rfl
 have hcp1 : ∀ i j, i < m -> cp i = some j -> j < m /\ (Jp l i).contains j = true := fun i j hi hj => by
  have := List.all_eq_true.1 hcp i (List.mem_range.2 hi); rw [hj] at this; simp only [Bool.and_eq_true] at this; exact ⟨by simpa [Nat.blt_eq] using this.1, this.2⟩
 have hV : ∀ j v w1 w2, eV F j v w1 -> w1.grownBy w2 none -> eV F j v w2 := by
  intro j v w1 w2 h1 hg; unfold eV at h1 ⊢; cases e : F.getD j E0 with
  | k d u => rw [e] at h1; exact h1
  | m d Pr hh => rw [e] at h1; exact hh v w1 w2 h1 hg
 refine YS m fs al cp ph ps (ps.map fun p => Yc L p.slots) (eV F) D hm hB hV hD (List.all_eq_true.2 fun i hi => ?_) (YG hd hF hk.1 (fun i j hi hj => (hcp1 i j hi hj).1) _ _ _ (by simp [List.length_take]; omega) (fun p hp' j hj => ?_) (fun p hp' => List.all_eq_true.1 hk.2 p hp') hobs) ?_
 .cases hc : cp i with
  | none => rfl
  | some j => exact (hcp1 i j (List.mem_range.1 hi) hc).2
 .have := List.all_eq_true.1 hp p hp'
  simpa [Nat.blt_eq] using List.all_eq_true.1 this j hj
 .intro X hX vals w' hw h1 h2 h3 q hq; have h := hN2 X hX vals w' hw h1 h2 h3 q hq; have e : (List.range m).filterMap (fun i => if X.contains i = true then none else (Jm l i).map fun t => (t, vals i)) = frY X vals 0 F := by
   rw [List.range_eq_range', <- hF]; refine Z4 (w := w') (Jm l) F 0 fun k e he => ?_; rw [Nat.zero_add]; refine ⟨hd1 k e he, fun hc => ?_⟩; have hkm : k < m := by rw [<- hF]; exact (List.getElem?_eq_some_iff.1 he).1
   have := h1 k hkm hc; unfold eV at this; rw [List.getD_eq_getElem?_getD, he] at this; exact this
  rw [e]; exact h
def ovl : List (Nat × Value) -> Nat -> Value -> Value
  | [], _, u => u
  | p :: t, i, u => bif Nat.beq p.1 i then p.2 else ovl t i u
def ovs (vals : Nat -> Value) : List (Nat × Value) -> Prop
  | [] => True
  | p :: t => vals p.1 = p.2 /\ ovs vals t
theorem ZZ {vals : Nat -> Value} {i : Nat} : ∀ {ov : List (Nat × Value)}, ovs vals ov -> ovl ov i (vals i) = vals i
 | [], _ => rfl
 | p :: t, h => by
  unfold ovl; cases e : Nat.beq p.1 i with
  | true => simp only [cond_true]; rw [<- h.1, Nat.eq_of_beq_eq_true e]
  | false => simp only [cond_false]; exact ZZ h.2
theorem Jam {P : Program} {n : Nat} {ro : Option Nat} {df : List Deferred} {l : List Oper} {N : Jo} {q : Nat} {li : List Bool} {L : Fr} {w : World} {X : List Nat} {vals : Nat -> Value} {F : List Ent} (ov : List (Nat × Value)) (h : ovs vals ov) (h2 : WA P n ro df l N q li (frY X (fun i => ovl ov i (vals i)) 0 F ++ L) w) : WA P n ro df l N q li (frY X vals 0 F ++ L) w := by
 rwa [show (fun i => ovl ov i (vals i)) = vals from funext fun i => ZZ h] at h2
theorem Q4 {P : Program} {n id : Nat} {ro : Option Nat} {df : List Deferred} {l : List Oper} {N : Jo} {B : Js} {L : Fr} {w0 : World} (m : Nat) (al : Nat -> Bool) (cp : Nat -> Option Nat) (ph : Nat -> Value -> Value -> Prop) (ps : List Plan) (F : List Ent) (D : Nat -> Value -> World -> Nat -> Prop)
  (hm : P.follows .mixedOrders = true) (hB : (QS n l ps m [] && (List.range m).all (fun i => match cp i with | none => true | some j => Nat.blt j m && (Jp l i).contains j) && ps.all fun p => p.on.all (Nat.blt · m)) = true)
  (hds : (List.range m).map (Jm l) = F.map (fun e => some e.d)) (hk : (kcB al cp 0 F && ps.all fun p => p.slots.all fun t => (lk L t).isSome) = true)
  (hD : ∀ j v w1 w2, eV F j v w1 -> w1.grownBy w2 none -> ∀ g, D j v w2 g -> D j v w1 g)
  (hobs : obsY P n ro df l al cp ph F D w0 L 0 (l.take m) ps)
  (hN : ∀ (vals : Nat -> Value) w', w0.grownBy w' none -> (∀ i, i < m -> eV F i (vals i) w') -> (∀ j k, j ≠ k -> j < m -> k < m -> al j = true -> al k = true -> ∀ g, D j (vals j) w' g -> ¬ D k (vals k) w' g) -> (∀ i j, i < m -> cp i = some j -> ph i (vals j) (vals i)) ->
   WA P n ro df l N (l.length - m) (List.replicate m true ++ List.replicate (l.length - m) false) (frY [] vals 0 F ++ L) w') : W P n ro df (.region id l.toArray true) N B L w0 := by
 have hlm : m <= l.length := by
  simp only [Bool.and_eq_true] at hB; have h := hB.1.1; simp only [QS, Bool.and_eq_true] at h
  simpa [Nat.ble_eq] using h.1.1.1.2
 refine Jbr m [] al cp ph ps F D hm hB hds hk hD hobs fun X hX vals w' hw h1 h2 h3 q hq => ?_; obtain rfl : X = [] := by simpa [Ym] using hX
 rw [Yh m l.length hlm] at hq ⊢; rw [QY] at hq; subst hq; exact hN vals w' hw (fun i hi => h1 i hi rfl) (fun j k hjk hj hk => h2 j k hjk hj hk rfl rfl) (fun i j hi => h3 i j hi rfl)
def obsW (P : Program) (n : Nat) (ro : Option Nat) (df : List Deferred) (l : List Oper) (F : Fr) (w0 : World) (L : Fr) : Nat -> List Oper -> List Plan -> Prop
  | i, o :: os, p :: ps => obV P n ro df l F w0 i o p (Yc L p.slots) /\ obsW P n ro df l F w0 L (i + 1) os ps
  | _, [], [] => True
  | _, _, _ => False
theorem Zo {P : Program} {n : Nat} {ro : Option Nat} {df : List Deferred} {l : List Oper} {F : Fr} {w0 : World} {L : Fr} : ∀ (os : List Oper) (ps : List Plan) (i : Nat), (∀ p ∈ ps, (p.slots.all fun t => (lk L t).isSome) = true) -> obsW P n ro df l F w0 L i os ps -> obsV P n ro df l F w0 L i os ps (ps.map fun p => Yc L p.slots)
 | [], [], _, _, _ => trivial
 | [], _ :: _, _, _, h => h.elim
 | _ :: _, [], _, _, h => h.elim
 | _ :: os, p :: ps, i, hs, h => ⟨⟨Qp _ _, Q0 _ _ (hs p List.mem_cons_self), h.1⟩, Zo os ps (i + 1) (fun q hq => hs q (List.mem_cons_of_mem _ hq)) h.2⟩
theorem JV {P : Program} {n id : Nat} {ro : Option Nat} {df : List Deferred} {l : List Oper} {N : Jo} {B : Js} {L : Fr} {w0 : World} (m : Nat) (ps : List Plan) (F : Fr)
  (hm : P.follows .mixedOrders = true) (hB : (YA n l ps m && ps.all fun p => p.on.all (Nat.blt · m)) = true) (hds : (List.range m).map (Jm l) = F.map (fun q => some q.1)) (hk : (ps.all fun p => p.slots.all fun t => (lk L t).isSome) = true)
  (hobs : obsW P n ro df l F w0 L 0 (l.take m) ps)
  (hN : ∀ w', w0.grownBy w' none -> WA P n ro df l N (l.length - m) (List.replicate m true ++ List.replicate (l.length - m) false) (F ++ L) w') : W P n ro df (.region id l.toArray true) N B L w0 :=
 Jbt m ps (ps.map fun p => Yc L p.slots) F hm hB (by have := congrArg List.length hds; simpa using this.symm) hds (Zo _ _ 0 (fun p hp => List.all_eq_true.1 hk p hp) hobs) hN
end Go.Proofs.Ytppkigdakobebaa
namespace Go.Proofs.Ytppkigdakobebaa
open Go.RowKit
/-! ### shorter words for values and pieces -/
abbrev nI (x : Int) : Value := .int .i64 x
abbrev nA (g : Nat) : Option Addr := some ⟨g, 0, none⟩
abbrev nP (g : Nat) : Value := .pointer (some ⟨g, 0, none⟩)
abbrev nS {α : Type} (A : Option Addr) (x : List α) (k : Nat) : Value := .slice A x.length k
abbrev nR (e : Nat) (A : Option Addr) (x : LI) (k : Nat) : Rw := .row e 1 A x.length k (is x)
section
variable {P : Program} {n : Nat} {ro : Option Nat} {df : List Deferred} {N : Jo} {L : Fr} {w w0 : World} {ops : Array Oper} {rest : List Oper}
variable {d : Nat} {ty : TypeId} {pos : String} {af : Array Edge} {X : World -> Prop} {mr : Option Nat} {R : List Rw}
/-- A part of a variable of the call's own is loaded. -/
theorem Je (i j : Nat) {x : Operand} {t e z g : Nat} {D : TypeDesc} {cs : List Value} {v : Value} (hu : P.underlying t = some D) (hS : St X w0 mr w R) (hr : R[i]? = some (.row e z (some ⟨g, 0, none⟩) 1 1 cs)) (hx : ev L x = some (.pointer (some ((⟨g, 0, none⟩ : Addr).add j)))) (hc : cs[j]? = some v)
    (hq : (match D with | .struct _ | .array _ _ => true | _ => false) = false /\ Nat.blt d n = true) (h : WL P n ro df ops rest N ((d, v) :: L) w) : WL P n ro df ops (⟨some d, .load t x, ty, pos, af, none⟩ :: rest) N L w :=
  Qt hu hq.1 hx (Q7 (hS.own hr) j v hc) hq.2 h
theorem Qw (i : Nat) {x : Operand} {t e z z' by_ g : Nat} {zero : Value} {cs : List Value} (he : Elem P t z by_ zero) (hag : ZL P t = true) (hS : St X w0 mr w R) (hr : R[i]? = some (.row e z' (some ⟨g, 0, none⟩) 1 1 cs)) (hq : cs.length = z /\ Nat.blt d n = true) (hx : ev L x = some (.pointer (some ⟨g, 0, none⟩)))
  (h : WL P n ro df ops rest N ((d, .agg cs.toArray) :: L) w) : WL P n ro df ops (⟨some d, .load t x, ty, pos, af, none⟩ :: rest) N L w :=
 Jai he hag hx hq.1 (Q7 (hS.own hr)) hq.2 h
end
/-! ### plain operations of a pool, by their value -/
def YY (all : Array Oper) (n : Nat) (L : Fr) : Oper -> Option (Nat × Value)
  | ⟨some d, op, _, _, _, some (j, want)⟩ => match (all[j]?.bind (·.dst)).bind (lk L) with
    | some (.bool b) => bif b == want then (opv L op).bind (fun v => bif Nat.blt d n then some (d, v) else none) else bif Nat.blt d n then some (d, undef) else none
    | some (.tuple ⟨[]⟩) => bif Nat.blt d n then some (d, undef) else none
    | _ => none
  | ⟨some d, op, _, _, _, none⟩ => (opv L op).bind fun v => bif Nat.blt d n then some (d, v) else none
  | _ => none
theorem Zk {P : Program} {n : Nat} {ro : Option Nat} {df : List Deferred} {N : Jo} {L : Fr} {w : World} {all : Array Oper} {o : Oper} {q : Nat × Value} (h : YY all n L o = some q) (hN : N df (q :: L) w) : WL P n ro df all [o] N L w := by
 obtain ⟨dst, op, ty, ps, af, g⟩ := o; cases dst with
 | none => simp [YY] at h
 | some d =>
  cases g with
  | none =>
   simp only [YY] at h; cases hv : opv L op with
   | none => rw [hv] at h; simp at h
   | some v =>
    rw [hv] at h; cases hn : Nat.blt d n <;> simp [hn] at h; subst h; exact QE hv hn (Ja hN)
  | some jw =>
   obtain ⟨j, want⟩ := jw; simp only [YY] at h; split at h
   .rename_i b hb
    cases hbw : (b == want) <;> rw [hbw] at h
    .cases hn : Nat.blt d n <;> simp [hn] at h; subst h; exact Zw hb hbw hn (Ja hN)
    .have e : b = want := by simpa using hbw
     subst e; simp only [cond_true] at h; cases hv : opv L op with
     | none => rw [hv] at h; simp at h
     | some v =>
      rw [hv] at h; cases hn : Nat.blt d n <;> simp [hn] at h; subst h; exact WL.take hb (QE hv hn (Ja hN))
   .rename_i hb
    cases hn : Nat.blt d n <;> simp [hn] at h; subst h; exact Jah hb hn (Ja hN)
   .cases h
theorem oA {P : Program} {n : Nat} {ro : Option Nat} {df : List Deferred} {l : List Oper} {F : Fr} {w0 : World} {i : Nat} {o : Oper} {p : Plan} {b : Fr} (h : ∀ R, YY l.toArray n (Ye F p.on b ++ R) o = some (F.getD i F0)) : obV P n ro df l F w0 i o p b := fun w _ R => Zk (h R) ⟨rfl, by
 cases p.pure
 .exact Jg _
 .rfl⟩
def ekV : Ent -> Option (Nat × Value)
  | .k d v => some (d, v)
  | _ => none
def ZT (F : List Ent) : List Nat -> Fr -> Option Fr
  | [], A => some A
  | j :: js, A => match F.getD j E0 with
    | .k d v => ZT F js ((d, v) :: A)
    | _ => none
theorem Zi {F : List Ent} {w : World} {K : Fr -> Prop} : ∀ (js : List Nat) (A B : Fr), ZT F js A = some B -> K B -> Ql F w K js A
 | [], _, _, h, hk => by cases h; exact hk
 | j :: js, A, B, h, hk => by
  unfold ZT at h; unfold Ql; cases e : F.getD j E0 with
  | k d v => rw [e] at h; exact Zi js _ _ h hk
  | m d Pr hh => rw [e] at h; cases h
/-- the value by the frame that it is Zz -/
def stpB (l : List Oper) (n : Nat) (F : List Ent) (o : Oper) (on : List Nat) (b R : Fr) : Option (Nat × Value) := (ZT F on b).bind fun A => YY l.toArray n (A ++ R) o
def isK : Option (Nat × Value) -> Bool
  | some _ => true
  | none => false
theorem oB {P : Program} {n : Nat} {ro : Option Nat} {df : List Deferred} {l : List Oper} {al : Nat -> Bool} {cp : Nat -> Option Nat} {ph : Nat -> Value -> Value -> Prop} {F : List Ent} {D : Nat -> Value -> World -> Nat -> Prop} {w0 : World} {i : Nat} {o : Oper} {p : Plan} {b : Fr}
  (h : ∀ R, stpB l n F o p.on b R = ekV (F.getD i E0)) (hk : isK (ekV (F.getD i E0)) = true) : obY P n ro df l al cp ph F D w0 i o p b := fun w _ => by
 cases e : F.getD i E0 with
 | m d Pr hh => rw [e] at hk; cases hk
 | k d v =>
  cases hA : ZT F p.on b with
  | none =>
   have := h []; rw [e] at this; unfold stpB at this; rw [hA] at this; cases this
  | some A =>
   refine Zi _ _ _ hA fun R => ?_; have := h R; rw [e] at this; unfold stpB at this; rw [hA] at this; exact Zk this ⟨rfl, by
    cases p.pure
    .exact Jg _
    .rfl⟩
theorem St.fin {w0 w : World} {R : List Rw} {K : List Rw -> Prop} (h : St TT w0 none w R) (hr : R.all (fun r => !r.isRo) = true) (hk : K R) : ∃ Q, w0.grownBy w none /\ Rows w0.heap.size none w Q /\ News w0.heap.size Q /\ K Q := ⟨R, h.ext, h.rows, Yy h.rows hr, hk⟩
theorem oT {p : Prop} [Decidable p] (h : decide p = true) : p := of_decide_eq_true h
theorem oF {p : Prop} [Decidable p] (h : decide p = false) : ¬ p := of_decide_eq_false h
theorem oC {P : Program} {n : Nat} {ro : Option Nat} {df : List Deferred} {l : List Oper} {al : Nat -> Bool} {cp : Nat -> Option Nat} {ph : Nat -> Value -> Value -> Prop} {F : List Ent} {D : Nat -> Value -> World -> Nat -> Prop} {w0 : World} {i : Nat} {o : Oper} {p : Plan} {b : Fr}
 (h : ∀ R, stpB l n F o p.on b R = ekV (F.getD i E0) := by exact fun _ => rfl) (hk : isK (ekV (F.getD i E0)) = true := by exact rfl) : obY P n ro df l al cp ph F D w0 i o p b := oB h hk
theorem og {X : World -> Prop} {w0 wa : World} {mr : Option Nat} {R : List Rw} {G : World -> Fr -> Prop} (hS : St X w0 mr wa R) (h : ∀ w B, St X w0 mr w R -> G w B) : ∀ w, (false = false -> wa.grownBy w none) -> ∀ B, G w B := fun w hE B => h w B (hS.grow (hE rfl))
theorem oD {P : Program} {n : Nat} {ro : Option Nat} {df : List Deferred} {l : List Oper} {F : Fr} {w0 : World} {i : Nat} {o : Oper} {p : Plan} {b : Fr} (h : ∀ R, YY l.toArray n (Ye F p.on b ++ R) o = some (F.getD i F0) := by exact fun _ => rfl) : obV P n ro df l F w0 i o p b := oA h
end Go.Proofs.Ytppkigdakobebaa
namespace Go.Proofs.Ytppkigdakobebaa
open Go.RowKit
/-! ### lists of lists some of whose rows came in -/
/-- The rows by themselves. -/
def RlR (w : World) (hs : Hs) (ls : LL) : Prop := ∀ i, i < ls.length -> ∃ B, Rd B w 1 (hs i).1 (ls.getD i []).length (hs i).2 (is (ls.getD i []))
theorem RlR.ext {w w' : World} {hs : Hs} {ls : LL} (h : RlR w hs ls) (hg : w.grownBy w' none) : RlR w' hs ls := fun i hi => by obtain ⟨B, h2⟩ := h i hi; exact ⟨B, h2.ext hg⟩
theorem RlR.nil (w : World) (hs : Hs) : RlR w hs [] := fun i hi => absurd hi (Nat.not_lt_zero i)
theorem RlR.append {w : World} {hs hs' : Hs} {ls ls' : LL} (h : RlR w hs ls) (h' : RlR w hs' ls') : RlR w (apHs ls.length hs hs') (ls ++ ls') := fun i hi => by
 rw [List.length_append] at hi; rcases Nat.lt_or_ge i ls.length with hl | hl
 .have e1 : (ls ++ ls').getD i [] = ls.getD i [] := by rw [List.getD_eq_getElem?_getD, List.getElem?_append_left hl, <- List.getD_eq_getElem?_getD]
  have e2 : apHs ls.length hs hs' i = hs i := by unfold apHs; rw [if_pos hl]
  rw [e1, e2]; exact h i hl
 .have e1 : (ls ++ ls').getD i [] = ls'.getD (i - ls.length) [] := by rw [List.getD_eq_getElem?_getD, List.getElem?_append_right hl, <- List.getD_eq_getElem?_getD]
  have e2 : apHs ls.length hs hs' i = hs' (i - ls.length) := by unfold apHs; rw [if_neg (by omega)]
  rw [e1, e2]; exact h' _ (by omega)
theorem RlR.rl {w : World} {A : Option Addr} {n k B : Nat} {hs : Hs} {ls : LL} (h : RlR w hs ls) (hA : Rd B w 1 A n k (JB hs ls)) : Rl w A n k ls := RlH.rl ⟨⟨B, hA⟩, h⟩
theorem RlH.rows {w : World} {A : Option Addr} {n k : Nat} {hs : Hs} {ls : LL} (h : RlH w A n k hs ls) : RlR w hs ls := h.at__
theorem RlR.inr {w : World} {eI : Nat} {hs : Hs} {ls : LL} (h : Rows 0 none w (inr eI hs ls)) : RlR w hs ls := fun i hi => by
 have := (h.get (inr_at eI hs ls hi)).1.rd; exact ⟨_, this⟩
section
variable {P : Program} {n : Nat} {ro : Option Nat} {df : List Deferred} {N : Jo} {L : Fr} {w w0 : World} {ops : Array Oper} {rest : List Oper}
variable {d : Nat} {ty : TypeId} {pos : String} {af : Array Edge} {X : World -> Prop} {mr : Option Nat} {R : List Rw} {eI m c : Nat} {A : Option Addr} {hs : Hs} {ls : LL}
end
/-! ### lists of lists of lists -/
abbrev HZ := Nat -> (Option Addr × Nat) × Hs
def zcells (H : HZ) (zs : List LL) : List Value := zs.mapIdx fun i l => .slice (H i).1.1 l.length (H i).1.2
structure Rll (w : World) (A : Option Addr) (n k : Nat) (H : HZ) (zs : List LL) : Prop where
  out : ∃ B, Rd B w 1 A n k (zcells H zs)
  at__ : ∀ i, i < zs.length -> RlH w (H i).1.1 (zs.getD i []).length (H i).1.2 (H i).2 (zs.getD i [])
theorem Rll.ext {w w' : World} {A : Option Addr} {n k : Nat} {H : HZ} {zs : List LL} (h : Rll w A n k H zs) (hg : w.grownBy w' none) : Rll w' A n k H zs := by
 obtain ⟨B, h1⟩ := h.out; exact ⟨⟨B, h1.ext hg⟩, fun i hi => (h.at__ i hi).ext hg⟩
end Go.Proofs.Ytppkigdakobebaa
namespace Go.Proofs.Ytppkigdakobebaa
open Go.RowKit
theorem WA.sub {P : Program} {n : Nat} {ro : Option Nat} {df : List Deferred} {l : List Oper} {N : Jo} {q : Nat} {li : List Bool} {L M : Fr} {w : World} (hs : sub M L) (h : WA P n ro df l N q li M w) : WA P n ro df l N q li L w := ⟨fun a ha B => h.out a (ha.sub hs) B⟩
end Go.Proofs.Ytppkigdakobebaa
namespace Go.Proofs.Ytppkigdakobebaa
open Go.RowKit
/-! ### what is behind a place of a list of lists -/
theorem Al.drop {w : World} : ∀ {vs : List Value} {ls : LL} (k : Nat), Al w vs ls -> Al w (vs.drop k) (ls.drop k)
  | [], [], k, _ => by simp [Al]
  | v :: vs, l :: ls, 0, h => h
  | v :: vs, l :: ls, k + 1, h => Al.drop (vs := vs) (ls := ls) k h.2
  | [], _ :: _, _, h => h.elim
  | _ :: _, [], _, h => h.elim
theorem Rl.drop {w : World} {A : Option Addr} {n k : Nat} {ls : LL} (h : Rl w A n k ls) {J : Int} (hJ : 0 <= J /\ J <= (n : Nat)) : Rl w (if k = J.toNat then A else A.map (·.add (J.toNat * 1))) (n - J.toNat) (k - J.toNat) (ls.drop J.toNat) := by
 obtain ⟨B, cs, h1, h2⟩ := h.ex; have h3 := h1.drop (k := J.toNat) (by omega); have e : cs.drop (J.toNat * 1) = cs.drop J.toNat := by rw [Nat.mul_one]
 rw [e] at h3; exact ⟨B, _, h3, h2.drop _⟩
end Go.Proofs.Ytppkigdakobebaa
namespace Go.Proofs.Ytppkigdakobebaa
open Go.RowKit
end Go.Proofs.Ytppkigdakobebaa
namespace Go.Proofs.Ytppkigdakobebaa
open Go.RowKit
end Go.Proofs.Ytppkigdakobebaa
namespace Go.Proofs.Ytppkigdakobebaa
open Go.RowKit
section
variable {P : Program} {n : Nat} {ro : Option Nat} {df : List Deferred} {N : Jo} {L : Fr} {w w0 : World} {ops : Array Oper} {rest : List Oper}
variable {d : Nat} {ty : TypeId} {pos : String} {af : Array Edge} {X : World -> Prop} {mr : Option Nat} {R : List Rw} {eS eI m c : Nat} {A : Option Addr} {hs : Hs} {ls : LL}
end
end Go.Proofs.Ytppkigdakobebaa
namespace Go.Proofs.Ytppkigdakobebaa
open Go.RowKit
section
variable {P : Program} {X : World -> Prop} {n : Nat} {ro : Option Nat} {df : List Deferred} {N : Jo} {L : Fr} {w w0 : World} {mr : Option Nat} {R : List Rw} {ops : Array Oper} {rest : List Oper}
variable {d : Nat} {ty : TypeId} {pos : String} {af : Array Edge}
/-- Five ints beside one another. -/
structure F5 (P : Program) (t u : TypeId) : Prop where
  ex : ∃ f0 f1 f2 f3 f4, P.fieldsOf t = #[f0, f1, f2, f3, f4] /\ f0.offset = 0 /\ f1.offset = 1 /\ f2.offset = 2 /\ f3.offset = 3 /\ f4.offset = 4 /\ f0.type = u /\ f1.type = u /\ f2.type = u /\ f3.type = u /\ f4.type = u /\ f0.name ≠ "_" /\ f1.name ≠ "_" /\ f2.name ≠ "_" /\ f3.name ≠ "_" /\ f4.name ≠ "_"
  st : P.underlying t = some (.struct (P.fieldsOf t))
  sh : P.stoodInHeld t = false
  gd : P.eqGuardType P.depth t = false
  int : P.underlying u = some (.int .i64)
end
end Go.Proofs.Ytppkigdakobebaa
namespace Go.Proofs.Ytppkigdakobebaa
open Go.RowKit
theorem Try.mixed : Try.prog.follows .mixedOrders = true := by kernel_rfl
theorem Try.el3 : Elem Try.prog 3 1 8 (.int .i64 0) := .mk' (by kernel_rfl) rfl (by decide)
theorem Try.el4 : Elem Try.prog 4 1 1 (.bool false) := .mk' (by kernel_rfl) rfl (by decide)
theorem Try.el38 : Elem Try.prog 38 5 40 (.agg #[.int .i64 0, .int .i64 0, .int .i64 0, .int .i64 0, .int .i64 0]) := .mk' (by kernel_rfl) rfl (by decide)
theorem Try.fla38_0 : YL Try.prog 38 0 0 = true := by kernel_rfl
theorem Try.fla38_1 : YL Try.prog 38 1 1 = true := by kernel_rfl
theorem Try.fla38_2 : YL Try.prog 38 2 2 = true := by kernel_rfl
theorem Try.fla38_3 : YL Try.prog 38 3 3 = true := by kernel_rfl
theorem Try.fla38_4 : YL Try.prog 38 4 4 = true := by kernel_rfl
theorem Try.agg38 : ZL Try.prog 38 = true := by kernel_rfl
theorem Try.nm22 : (Try.f22.name == "runtime.NumGoroutine") = false := by kernel_rfl
theorem Try.nm23 : (Try.f23.name == "runtime.NumGoroutine") = false := by kernel_rfl
theorem Try.nm27 : (Try.f27.name == "runtime.NumGoroutine") = false := by kernel_rfl
theorem Try.nm28 : (Try.f28.name == "runtime.NumGoroutine") = false := by kernel_rfl
theorem Try.nm48 : (Try.f48.name == "runtime.NumGoroutine") = false := by kernel_rfl
theorem Try.nm51 : (Try.f51.name == "runtime.NumGoroutine") = false := by kernel_rfl
theorem Try.nm53 : (Try.f53.name == "runtime.NumGoroutine") = false := by kernel_rfl
theorem Try.nm58 : (Try.f58.name == "runtime.NumGoroutine") = false := by kernel_rfl
theorem Try.nm59 : (Try.f59.name == "runtime.NumGoroutine") = false := by kernel_rfl
theorem Try.nm60 : (Try.f60.name == "runtime.NumGoroutine") = false := by kernel_rfl
theorem Try.nm61 : (Try.f61.name == "runtime.NumGoroutine") = false := by kernel_rfl
theorem Try.nm62 : (Try.f62.name == "runtime.NumGoroutine") = false := by kernel_rfl
theorem Try.nm63 : (Try.f63.name == "runtime.NumGoroutine") = false := by kernel_rfl
theorem Try.nm64 : (Try.f64.name == "runtime.NumGoroutine") = false := by kernel_rfl
theorem Try.nm99 : (Try.f99.name == "runtime.NumGoroutine") = false := by kernel_rfl
theorem Try.nm100 : (Try.f100.name == "runtime.NumGoroutine") = false := by kernel_rfl
theorem Try.nm104 : (Try.f104.name == "runtime.NumGoroutine") = false := by kernel_rfl
theorem Try.nm126 : (Try.f126.name == "runtime.NumGoroutine") = false := by kernel_rfl
theorem Try.nm127 : (Try.f127.name == "runtime.NumGoroutine") = false := by kernel_rfl
theorem Try.nm128 : (Try.f128.name == "runtime.NumGoroutine") = false := by kernel_rfl
end Go.Proofs.Ytppkigdakobebaa
namespace Go.Proofs.Ytppkigdakobebaa
open Go.RowKit
abbrev QD := Try.fla38_0
abbrev Jy := Try.fla38_1
abbrev Jw := Try.fla38_2
abbrev JW := Try.fla38_3
abbrev Jr := Try.fla38_4
abbrev XE3 := Try.el3
abbrev Yv := Try.el38
abbrev XE4 := Try.el4
abbrev Zv := Try.func100
abbrev Zu := Try.func104
abbrev Jag := Try.func126
abbrev XF127 := Try.func127
abbrev Jaf := Try.func128
abbrev XF22 := Try.func22
abbrev XF23 := Try.func23
abbrev YP := Try.func27
abbrev QL := Try.func28
abbrev XF48 := Try.func48
abbrev XF5 := Try.func5
abbrev XF51 := Try.func51
abbrev XF53 := Try.func53
abbrev XF58 := Try.func58
abbrev YO := Try.func59
abbrev XF60 := Try.func60
abbrev XF61 := Try.func61
abbrev XF62 := Try.func62
abbrev XF63 := Try.func63
abbrev XF64 := Try.func64
abbrev XF99 := Try.func99
abbrev Yu := Try.agg38
abbrev Jae := Try.nm100
abbrev Jad := Try.nm104
abbrev XN126 := Try.nm126
abbrev XN127 := Try.nm127
abbrev XN128 := Try.nm128
abbrev XN22 := Try.nm22
abbrev XN23 := Try.nm23
abbrev Zb := Try.nm27
abbrev Q1 := Try.nm28
abbrev XN48 := Try.nm48
abbrev XN51 := Try.nm51
abbrev XN53 := Try.nm53
abbrev XN58 := Try.nm58
abbrev Za := Try.nm59
abbrev XN60 := Try.nm60
abbrev XN61 := Try.nm61
abbrev XN62 := Try.nm62
abbrev XN63 := Try.nm63
abbrev XN64 := Try.nm64
abbrev XN99 := Try.nm99
abbrev Yt := Try.underlying22
abbrev XU3 := Try.underlying3
abbrev XU4 := Try.underlying4
abbrev XU79 := Try.underlying79
end Go.Proofs.Ytppkigdakobebaa
set_option maxRecDepth 4000
set_option maxHeartbeats 4000000
namespace Go.Proofs.Ytppkigdakobebaa
open Go.RowKit
end Go.Proofs.Ytppkigdakobebaa
namespace Go.Proofs.Ytppkigdakobebaa
open Go.RowKit
def J6 (n : Int) (Q : Bool -> Prop) : Prop :=
  (((1 : Int) <= n) -> (Q (decide (n <= 64)))) /\ (¬ ((1 : Int) <= n) -> Q false)
theorem YF {w : World} {Q : Bool -> Prop} {n : Int}  (hv : J6 n Q) :
   Calls Try.prog 48 #[.int .i64 n] w <| Rt w fun v Qr => ∃ (r0 : Bool), v = .bool r0 /\ Qr = [] /\ Q r0 := by
 refine Jh <| Ji (vs := [nI n]) [2] XF48 rfl rfl rfl rfl ?_; have hS := Jn w; unfold J6 at hv; refine Jd 8 <| Jf rfl rfl ?_; by_cases g11 : (1 : Int) <= n
 .have hv := hv.1 g11; rw [decide_eq_true g11]; refine Jc 7 <| W.ret <| ⟨_, rfl, Fin.nil ?_⟩
  exact (hS.pick [] rfl).fin rfl ⟨(decide (n <= 64)), rfl, rfl, hv⟩
 have hv := hv.2 g11; rw [decide_eq_false g11]; refine Jc 5 <| W.ret <| ⟨_, rfl, Fin.nil ?_⟩
 exact (hS.pick [] rfl).fin rfl ⟨false, rfl, rfl, hv⟩
def JE (x : Int) (n : Int) (Q : Int -> Prop) : Prop :=
  (n ≠ 0) /\ ((I64 ((x.tmod n) + n)) /\ ((n ≠ 0) /\ (Q (((x.tmod n) + n).tmod n))))
theorem J2 {w : World} {Q : Int -> Prop} {x : Int} {n : Int}  (hv : JE x n Q) :
  Calls Try.prog 100 #[.int .i64 x, .int .i64 n] w <| Rt w fun v Qr => ∃ (r0 : Int), v = .int .i64 r0 /\ Qr = [] /\ Q r0 := by
 refine Jh <| Ji (vs := [nI x, nI n]) [4] Zv rfl rfl rfl rfl ?_; have hS := Jn w; unfold JE at hv; refine Jd 8 ?_; obtain ⟨o11, hv⟩ := hv; refine Q2 (r := (x.tmod n)) rfl rfl o11 rfl rfl <| Jf rfl rfl ?_; obtain ⟨o12, hv⟩ := hv; refine WL.add (r := ((x.tmod n) + n)) rfl rfl (wr o12) rfl <| Jf rfl rfl ?_; obtain ⟨o13, hv⟩ := hv; refine Q2 (r := (((x.tmod n) + n).tmod n)) rfl rfl o13 rfl rfl <| Jc 2 <| W.ret <| ⟨_, rfl, Fin.nil ?_⟩
 exact (hS.pick [] rfl).fin rfl ⟨(((x.tmod n) + n).tmod n), rfl, rfl, hv⟩
def JU (n : Int) (l : LI) (Q : List Bool -> Prop) : Prop :=
  (0 <= n /\ n * 1 <= 281474976710656 /\ n <= 281474976710656) /\ (∃ (I21 : List Bool -> Int -> Prop) (μ22 : List Bool -> Int -> Nat), I21 (List.replicate n.toNat false) (0 : Int) /\ ∀ (x19 : List Bool) (z20 : Int), (I21 x19 z20 -> (((z20 < (l.length : Int)) -> ((0 <= z20 /\ z20 < (l.length : Nat)) /\ (JE (gi l z20) n (fun r27 => (0 <= r27 /\ r27 < (n.toNat : Nat)) /\ ((I64 (z20 + 1)) /\ (I21 (sb x19 r27 true) (z20 + 1) /\ μ22 (sb x19 r27 true) (z20 + 1) < μ22 x19 z20)))))) /\ (¬ (z20 < (l.length : Int)) -> Q x19))))
theorem Qy {w : World} {Q : List Bool -> Prop} {n : Int} {l : LI} {Bl : Nat} {Al : Option Addr} {nl kl : Nat} (hl : Rd Bl w 1 Al nl kl (is l)) (hv : JU n l Q) :
  Calls Try.prog 53 #[.int .i64 n, .slice Al nl kl] w <| Rt w fun v Qr => ∃ (x : List Bool)  (A : Option Addr) (c : Nat), v = .slice A x.length c /\ Qr = [.row 4 1 A x.length c (bs x)] /\ Q x := by
 have hnl := hl.ilen; subst hnl; refine Jh <| Ji (vs := [nI n, nS Al l kl]) [4] XF53 rfl rfl rfl rfl ?_; have hS := Jn w; unfold JU at hv; refine Jd 7 ?_; obtain ⟨o11, hv⟩ := hv; refine Jbu (J := n) hS XU79 XE4 rfl rfl o11 (Ja5 _) rfl ?_; intro A12 w13 hS; refine Jc 2 <| Jd 4 <| WL.len Yt rfl rfl <| Jc 2 <| W.block ?_; obtain ⟨I21, μ22, hv, hk31⟩ := hv; refine JK (σ := List Bool × Int) (fun q w1 => match q with | (x19, z20) => I21 x19 z20 /\ St TT w none w1 [.row 4 1 A12 n.toNat n.toNat (bs x19)]) (fun (x19, z20) => [(0, nI n), (4, .slice none 0 0), (5, .slice A12 n.toNat n.toNat), (10, nS Al l kl), (11, nI (l.length : Int)), (12, nI z20)]) (fun (x19, z20) => μ22 x19 z20) (List.replicate n.toNat false, (0 : Int)) ⟨hv, hS⟩ ⟨rfl, rfl, rfl, rfl, rfl, rfl, trivial⟩ ?_; rintro ⟨x19, z20⟩ w23 ⟨hv, hS⟩; have hv := hk31 x19 z20 hv; refine Jd 5 <| Jk rfl (fun c24 => ?_) (fun c24 => ?_)
 .have hv := hv.1 (oT c24); refine Jl <| JP <| W.block <| Jd 2 ?_; obtain ⟨o25, hv⟩ := hv; refine Qf Yt XE3 (hS.ro hl) rfl rfl o25 rfl <| Qt XU3 rfl rfl (Jar (hS.ro hl) o25) rfl <| Jc 2 <| Jd 4 <| SL.call hS (J2  hv) Zv rfl Jae rfl rfl ?_; rintro _ _ w26 ⟨r27, rfl, rfl, hv⟩ hGw26 hS; have hS := hS.n0; obtain ⟨o28, hv⟩ := hv; refine Qf XU79 XE4 (hS.rd (i := 0) rfl) rfl rfl o28 rfl <| Jap (cs' := bs (sb x19 r27 true)) 0 r27.toNat hS rfl XE4 rfl rfl rfl (bs_lt (hS.rd (i := 0) rfl) o28) (bs_set _ _ _) ?_; intro w29 hS; refine Ja <| Qu ?_; obtain ⟨o30, hv⟩ := hv; refine WL.add (r := (z20 + 1)) rfl rfl (wr o30) rfl <| Jc 2 ?_; exact ⟨(sb x19 r27 true, (z20 + 1)), sp rfl, hv.2, rfl, hv.1, hS⟩
 have hv := hv.2 (oF c24); refine JL <| Jd 5 <| W.ret ?_; have hm := (hS.rd (i := 0) rfl).blen; have hS := hS.relen (i := 0) rfl hm.symm; refine ⟨_, rfl, Fin.nil ?_⟩; exact ⟨_, hS.ext, (hS.pick [0] rfl).rows, Yy (hS.pick [0] rfl).rows rfl, ⟨x19, A12, n.toNat, (by rw [hm]), rfl, hv⟩⟩
def JZ (x : Int) (Q : Bool -> Prop) : Prop :=
  (((-2147483647 : Int) <= x) -> (Q (decide (x <= 2147483647)))) /\ (¬ ((-2147483647 : Int) <= x) -> Q false)
theorem QU {w : World} {Q : Bool -> Prop} {x : Int}  (hv : JZ x Q) :
   Calls Try.prog 126 #[.int .i64 x] w <| Rt w fun v Qr => ∃ (r0 : Bool), v = .bool r0 /\ Qr = [] /\ Q r0 := by
 refine Jh <| Ji (vs := [nI x]) [2] Jag rfl rfl rfl rfl ?_; have hS := Jn w; unfold JZ at hv; refine Jd 8 <| Jf rfl rfl ?_; by_cases g11 : (-2147483647 : Int) <= x
 .have hv := hv.1 g11; rw [decide_eq_true g11]; refine Jc 7 <| W.ret <| ⟨_, rfl, Fin.nil ?_⟩
  exact (hS.pick [] rfl).fin rfl ⟨(decide (x <= 2147483647)), rfl, rfl, hv⟩
 have hv := hv.2 g11; rw [decide_eq_false g11]; refine Jc 5 <| W.ret <| ⟨_, rfl, Fin.nil ?_⟩
 exact (hS.pick [] rfl).fin rfl ⟨false, rfl, rfl, hv⟩
def Q5 (x : Int) (Q : Int -> Prop) : Prop :=
  ((x < 0) -> ((I64 (-x)) /\ (Q (-x)))) /\ (¬ (x < 0) -> Q x)
theorem Zn {w : World} {Q : Int -> Prop} {x : Int}  (hv : Q5 x Q) :
   Calls Try.prog 128 #[.int .i64 x] w <| Rt w fun v Qr => ∃ (r0 : Int), v = .int .i64 r0 /\ Qr = [] /\ Q r0 := by
 refine Jh <| Ji (vs := [nI x]) [2] Jaf rfl rfl rfl rfl ?_; have hS := Jn w; unfold Q5 at hv; refine Jd 10 <| Jk rfl (fun c11 => ?_) (fun c11 => ?_)
 .have hv := hv.1 (oT c11); refine Jd 3 ?_; obtain ⟨o12, hv⟩ := hv; refine WL.neg (r := (-x)) rfl (wrn o12) rfl <| Jc 2 <| W.ret <| ⟨_, rfl, Fin.nil ?_⟩
  exact (hS.pick [] rfl).fin rfl ⟨(-x), rfl, rfl, hv⟩
 have hv := hv.2 (oF c11); refine Jl <| Jd 5 <| W.ret <| ⟨_, rfl, Fin.nil ?_⟩
 exact (hS.pick [] rfl).fin rfl ⟨x, rfl, rfl, hv⟩
def QO (a : Int) (b : Int) (Q : Int × Int -> Prop) : Prop :=
  ∃ (I23 : Int -> Int -> Int -> Int -> Prop) (μ24 : Int -> Int -> Int -> Int -> Nat), I23 a b (1 : Int) (0 : Int) /\ ∀ (z19 : Int) (z20 : Int) (z21 : Int) (z22 : Int), (I23 z19 z20 z21 z22 -> (((z20 ≠ 0) -> ((z20 ≠ 0 /\ I64 (z19.tdiv z20)) /\ ((I64 ((z19.tdiv z20) * z20)) /\ ((I64 (z19 - ((z19.tdiv z20) * z20))) /\ ((I64 ((z19.tdiv z20) * z22)) /\ ((I64 (z21 - ((z19.tdiv z20) * z22))) /\ (I23 z20 (z19 - ((z19.tdiv z20) * z20)) z22 (z21 - ((z19.tdiv z20) * z22)) /\ μ24 z20 (z19 - ((z19.tdiv z20) * z20)) z22 (z21 - ((z19.tdiv z20) * z22)) < μ24 z19 z20 z21 z22))))))) /\ (¬ (z20 ≠ 0) -> (Q (z19, z21)))))
theorem Z0 {w : World} {Q : Int × Int -> Prop} {a : Int} {b : Int}  (hv : QO a b Q) :
  Calls Try.prog 127 #[.int .i64 a, .int .i64 b] w <| Rt w fun v Qr => ∃ (r0 : Int) (r1 : Int), v = .tuple #[.int .i64 r0, .int .i64 r1] /\ Qr = [] /\ Q (r0, r1) := by
 refine Jh <| Ji (vs := [nI a, nI b]) [4, 5] XF127 rfl rfl rfl rfl ?_; have hS := Jn w; unfold QO at hv; refine Jd 11 <| W.block ?_; obtain ⟨I23, μ24, hv, hk32⟩ := hv; refine JK (σ := Int × Int × Int × Int) (fun q w1 => match q with | (z19, z20, z21, z22) => I23 z19 z20 z21 z22 /\ St TT w none w1 []) (fun (z19, z20, z21, z22) => [(0, nI z19), (1, nI z20), (4, nI 0), (5, nI 0), (6, nI z21), (7, nI z22)]) (fun (z19, z20, z21, z22) => μ24 z19 z20 z21 z22) (a, b, (1 : Int), (0 : Int)) ⟨hv, hS⟩ ⟨rfl, rfl, rfl, rfl, rfl, rfl, trivial⟩ ?_; rintro ⟨z19, z20, z21, z22⟩ w25 ⟨hv, hS⟩; have hv := hk32 z19 z20 z21 z22 hv; refine Jd 6 <| Jk rfl (fun c26 => ?_) (fun c26 => ?_)
 .have hv := hv.1 (oT c26); refine Jl <| W.block <| Jd 4 ?_; obtain ⟨o27, hv⟩ := hv; refine WL.quo (r := (z19.tdiv z20)) rfl rfl o27.1 (wr o27.2) rfl <| Jc 2 <| Jd 6 ?_; obtain ⟨o28, hv⟩ := hv; refine JX (r := ((z19.tdiv z20) * z20)) rfl rfl (wr o28) rfl ?_; obtain ⟨o29, hv⟩ := hv; refine WL.sub (r := (z19 - ((z19.tdiv z20) * z20))) rfl rfl (wr o29) rfl <| Jc 3 <| Jd 5 ?_; obtain ⟨o30, hv⟩ := hv; refine JX (r := ((z19.tdiv z20) * z22)) rfl rfl (wr o30) rfl ?_; obtain ⟨o31, hv⟩ := hv; refine WL.sub (r := (z21 - ((z19.tdiv z20) * z22))) rfl rfl (wr o31) rfl <| Jc 3 ?_; exact ⟨(z20, (z19 - ((z19.tdiv z20) * z20)), z22, (z21 - ((z19.tdiv z20) * z22))), sp rfl, hv.2, rfl, hv.1, hS⟩
 have hv := hv.2 (oF c26); refine JL <| Jd 7 <| W.ret <| ⟨_, rfl, Fin.nil ?_⟩
 exact (hS.pick [] rfl).fin rfl ⟨z19, z21, rfl, rfl, hv⟩
def Zx (a : Int) (b : Int) (Q : Int × Int -> Prop) : Prop :=
  JZ a (fun r12 => (((!r12) = true) -> (Q ((0 : Int), (6 : Int)))) /\ ((!r12) = false -> (JZ b (fun r15 => (((!r15) = true) -> (Q ((0 : Int), (6 : Int)))) /\ ((!r15) = false -> (Q5 a (fun r18 => Q5 b (fun r20 => QO r18 r20 (fun (r22, r23) => Q (r22, (0 : Int)))))))))))
theorem ok_Gcd {w : World} {Q : Int × Int -> Prop} {a : Int} {b : Int}  (hv : Zx a b Q) :
   Calls Try.prog 99 #[.int .i64 a, .int .i64 b] w <| Rt w fun v Qr => ∃ (r0 : Int) (r1 : Int), v = .tuple #[.int .i64 r0, .int .i64 r1] /\ Qr = [] /\ Q (r0, r1) := by
 refine Jh <| Ji (vs := [nI a, nI b]) [4, 5] XF99 rfl rfl rfl rfl ?_; have hS := Jn w; unfold Zx at hv; refine Jd 9 <| SL.call hS (QU  hv) Jag rfl XN126 rfl rfl ?_; rintro _ _ w11 ⟨r12, rfl, rfl, hv⟩ hGw11 hS; have hS := hS.n0; refine Yw rfl rfl <| Jf rfl rfl ?_; rcases g13 : (!r12) with _ | _
 .have hv := hv.2 g13; refine Jc 3 <| SL.call hS (QU  hv) Jag rfl XN126 rfl rfl ?_; rintro _ _ w14 ⟨r15, rfl, rfl, hv⟩ hGw14 hS; have hS := hS.n0; refine Jc 4 <| Jk rfl (fun c16 => ?_) (fun c16 => ?_)
  .have hv := hv.1 (c16); refine Jd 5 <| W.ret <| ⟨_, rfl, Fin.nil ?_⟩
   exact (hS.pick [] rfl).fin rfl ⟨(0 : Int), (6 : Int), rfl, rfl, hv⟩
  have hv := hv.2 (c16); refine Jl <| Jd 3 <| SL.call hS (Zn  hv) Jaf rfl XN128 rfl rfl ?_; rintro _ _ w17 ⟨r18, rfl, rfl, hv⟩ hGw17 hS; have hS := hS.n0; refine Jf rfl rfl <| SL.call hS (Zn  hv) Jaf rfl XN128 rfl rfl ?_; rintro _ _ w19 ⟨r20, rfl, rfl, hv⟩ hGw19 hS; have hS := hS.n0; refine SL.call hS (Z0  hv) XF127 rfl XN127 rfl rfl ?_; rintro _ _ w21 ⟨r22, r23, rfl, rfl, hv⟩ hGw21 hS; have hS := hS.n0; refine Jc 6 <| Jd 6 <| W.ret <| ⟨_, rfl, Fin.nil ?_⟩
  exact (hS.pick [] rfl).fin rfl ⟨r22, (0 : Int), rfl, rfl, hv⟩
 have hv := hv.1 g13; refine Jc 5 <| Jq rfl <| Jd 5 <| W.ret <| ⟨_, rfl, Fin.nil ?_⟩
 exact (hS.pick [] rfl).fin rfl ⟨(0 : Int), (6 : Int), rfl, rfl, hv⟩
def JA (x : Int) (n : Int) (Q : Int -> Prop) : Prop :=
  JE x n (fun r12 => Zx r12 n (fun (r14, r15) => Q r14))
theorem JI {w : World} {Q : Int -> Prop} {x : Int} {n : Int}  (hv : JA x n Q) :
  Calls Try.prog 59 #[.int .i64 x, .int .i64 n] w <| Rt w fun v Qr => ∃ (r0 : Int), v = .int .i64 r0 /\ Qr = [] /\ Q r0 := by
 refine Jh <| Ji (vs := [nI x, nI n]) [4] YO rfl rfl rfl rfl ?_; have hS := Jn w; unfold JA at hv; refine Jd 8 <| SL.call hS (J2  hv) Zv rfl Jae rfl rfl ?_; rintro _ _ w11 ⟨r12, rfl, rfl, hv⟩ hGw11 hS; have hS := hS.n0; refine Jf rfl rfl <| SL.call hS (ok_Gcd  hv) XF99 rfl XN99 rfl rfl ?_; rintro _ _ w13 ⟨r14, r15, rfl, rfl, hv⟩ hGw13 hS; have hS := hS.n0; refine Jc 6 <| Jd 5 <| W.ret <| ⟨_, rfl, Fin.nil ?_⟩
 exact (hS.pick [] rfl).fin rfl ⟨r14, rfl, rfl, hv⟩
def J0 (x : Int) (Q : Bool -> Prop) : Prop :=
  (((-2147483648 : Int) <= x) -> (Q (decide (x <= 2147483648)))) /\ (¬ ((-2147483648 : Int) <= x) -> Q false)
theorem Qz {w : World} {Q : Bool -> Prop} {x : Int}  (hv : J0 x Q) :
   Calls Try.prog 58 #[.int .i64 x] w <| Rt w fun v Qr => ∃ (r0 : Bool), v = .bool r0 /\ Qr = [] /\ Q r0 := by
 refine Jh <| Ji (vs := [nI x]) [2] XF58 rfl rfl rfl rfl ?_; have hS := Jn w; unfold J0 at hv; refine Jd 8 <| Jf rfl rfl ?_; by_cases g11 : (-2147483648 : Int) <= x
 .have hv := hv.1 g11; rw [decide_eq_true g11]; refine Jc 7 <| W.ret <| ⟨_, rfl, Fin.nil ?_⟩
  exact (hS.pick [] rfl).fin rfl ⟨(decide (x <= 2147483648)), rfl, rfl, hv⟩
 have hv := hv.2 g11; rw [decide_eq_false g11]; refine Jc 5 <| W.ret <| ⟨_, rfl, Fin.nil ?_⟩
 exact (hS.pick [] rfl).fin rfl ⟨false, rfl, rfl, hv⟩
def JD (r0 : Int) (r1 : Int) (r2 : Int) (r3 : Int) (r4 : Int) (z : List Bool) (Q : Bool -> Prop) : Prop :=
  (I64 (r4 + 1)) /\ (∃ (I17 : Int -> Prop) (μ18 : Int -> Nat), I17 0 /\ ∀ (z16 : Int), (I17 z16 -> (((z16 < (r4 + 1)) -> (∃ (I24 : Int -> Prop) (μ25 : Int -> Nat), I24 0 /\ ∀ (z23 : Int), (I24 z23 -> (((z23 < r2) -> ((I64 (z23 * r1)) /\ ((I64 (r0 + (z23 * r1))) /\ ((I64 (z16 * r3)) /\ ((I64 ((r0 + (z23 * r1)) + (z16 * r3))) /\ (JE ((r0 + (z23 * r1)) + (z16 * r3)) (z.length : Int) (fun r33 => (0 <= r33 /\ r33 < (z.length : Nat)) /\ ((((!(gb z r33)) = true) -> Q false) /\ ((!(gb z r33)) = false -> ((I64 (z23 + 1)) /\ (I24 (z23 + 1) /\ μ25 (z23 + 1) < μ25 z23))))))))))) /\ (¬ (z23 < r2) -> ((I64 (z16 + 1)) /\ (I17 (z16 + 1) /\ μ18 (z16 + 1) < μ18 z16))))))) /\ (¬ (z16 < (r4 + 1)) -> Q true))))
theorem Qa {w : World} {Q : Bool -> Prop} {r0 : Int} {r1 : Int} {r2 : Int} {r3 : Int} {r4 : Int} {z : List Bool} {Bz : Nat} {Az : Option Addr} {nz kz : Nat} (hz : Rd Bz w 1 Az nz kz (bs z)) (hv : JD r0 r1 r2 r3 r4 z Q) :
   Calls Try.prog 60 #[.agg #[.int .i64 r0, .int .i64 r1, .int .i64 r2, .int .i64 r3, .int .i64 r4], .slice Az nz kz] w <| Rt w fun v Qr => ∃ (r0 : Bool), v = .bool r0 /\ Qr = [] /\ Q r0 := by
 have hnz := hz.blen; subst hnz; refine Jh <| Ji (vs := [.agg #[nI r0, nI r1, nI r2, nI r3, nI r4], nS Az z kz]) [4] XF60 rfl rfl rfl rfl ?_; have hS := Jn w; unfold JD at hv; refine Jd 2 <| QG (z := 5) (cs := [nI r0, nI r1, nI r2, nI r3, nI r4]) hS rfl rfl rfl rfl ?_; intro g11 w12 hS; refine Jc 2 <| Jd 3 <| Jb (off := 4) Jr rfl rfl <| Je 0 4 XU3 hS rfl rfl rfl ⟨rfl, rfl⟩ ?_; obtain ⟨o13, hv⟩ := hv; refine WL.add (r := (r4 + 1)) rfl rfl (wr o13) rfl <| Jc 2 <| W.block ?_; obtain ⟨I17, μ18, hv, hk39⟩ := hv; refine JK (σ := Int) (fun z16 w1 => I17 z16 /\ St TT w none w1 [.row 38 5 (nA g11) 1 1 [nI r0, nI r1, nI r2, nI r3, nI r4]]) (fun z16 => [(1, nS Az z kz), (2, nP g11), (4, .bool false), (9, nI (r4 + 1)), (10, nI z16)]) (fun z16 => μ18 z16) (0 : Int) ⟨hv, hS⟩ ⟨rfl, rfl, rfl, rfl, rfl, trivial⟩ ?_; rintro z16 w19 ⟨hv, hS⟩; have hv := hk39 z16 hv; refine Jd 5 <| Jk rfl (fun c20 => ?_) (fun c20 => ?_)
 .have hv := hv.1 (oT c20); refine Jl <| JP <| W.block <| Jd 7 <| Jb (off := 2) Jw rfl rfl <| Je 0 2 XU3 hS rfl rfl rfl ⟨rfl, rfl⟩ <| Jc 2 <| W.block ?_; obtain ⟨I24, μ25, hv, hk38⟩ := hv; refine JK (σ := Int) (fun z23 w1 => I24 z23 /\ St TT w none w1 [.row 38 5 (nA g11) 1 1 [nI r0, nI r1, nI r2, nI r3, nI r4]]) (fun z23 => [(1, nS Az z kz), (2, nP g11), (4, .bool false), (5, nI z16), (9, nI (r4 + 1)), (10, nI z16), (11, .bool (decide (z16 < (r4 + 1)))), (14, nI r2), (15, nI z23)]) (fun z23 => μ25 z23) (0 : Int) ⟨hv, hS⟩ ⟨rfl, rfl, rfl, rfl, rfl, rfl, rfl, rfl, rfl, trivial⟩ ?_; rintro z23 w26 ⟨hv, hS⟩; have hv := hk38 z23 hv; refine Jd 5 <| Jk rfl (fun c27 => ?_) (fun c27 => ?_)
  .have hv := hv.1 (oT c27); refine Jl <| JP <| W.block <| Jd 8 <| Jb (off := 0) QD rfl rfl <| Je 0 0 XU3 hS rfl rfl rfl ⟨rfl, rfl⟩ <| Jf rfl rfl <| Jb (off := 1) Jy rfl rfl <| Je 0 1 XU3 hS rfl rfl rfl ⟨rfl, rfl⟩ ?_; obtain ⟨o28, hv⟩ := hv; refine JX (r := (z23 * r1)) rfl rfl (wr o28) rfl ?_; obtain ⟨o29, hv⟩ := hv; refine WL.add (r := (r0 + (z23 * r1))) rfl rfl (wr o29) rfl <| Jf rfl rfl <| Jb (off := 3) JW rfl rfl <| Je 0 3 XU3 hS rfl rfl rfl ⟨rfl, rfl⟩ ?_; obtain ⟨o30, hv⟩ := hv; refine JX (r := (z16 * r3)) rfl rfl (wr o30) rfl ?_; obtain ⟨o31, hv⟩ := hv; refine WL.add (r := ((r0 + (z23 * r1)) + (z16 * r3))) rfl rfl (wr o31) rfl <| Jf rfl rfl <| WL.len XU79 rfl rfl <| SL.call hS (J2  hv) Zv rfl Jae rfl rfl ?_; rintro _ _ w32 ⟨r33, rfl, rfl, hv⟩ hGw32 hS; have hS := hS.n0; obtain ⟨o34, hv⟩ := hv; refine Qf XU79 XE4 (hS.ro hz) rfl rfl o34 rfl <| Qt XU4 rfl rfl (Rd.gb (hS.ro hz) o34) rfl <| Jc 2 <| Jk rfl (fun c35 => ?_) (fun c35 => ?_)
   .have hv := hv.1 (c35); refine Jd 4 <| W.ret <| ⟨_, rfl, Fin.nil ?_⟩
    exact (hS.pick [] rfl).fin rfl ⟨false, rfl, rfl, hv⟩
   have hv := hv.2 (c35); refine Jl <| Qu ?_; obtain ⟨o36, hv⟩ := hv; refine WL.add (r := (z23 + 1)) rfl rfl (wr o36) rfl <| Jc 2 ?_; exact ⟨(z23 + 1), sp rfl, hv.2, rfl, hv.1, hS⟩
  have hv := hv.2 (oF c27); refine JL <| Qu ?_; obtain ⟨o37, hv⟩ := hv; refine WL.add (r := (z16 + 1)) rfl rfl (wr o37) rfl <| Jc 2 ?_; exact ⟨(z16 + 1), sp rfl, hv.2, rfl, hv.1, hS⟩
 have hv := hv.2 (oF c20); refine JL <| Jd 4 <| W.ret <| ⟨_, rfl, Fin.nil ?_⟩
 exact (hS.pick [] rfl).fin rfl ⟨true, rfl, rfl, hv⟩
def J7 (r0 : Int) (r1 : Int) (r2 : Int) (r3 : Int) (r4 : Int) (Q : Int -> Prop) : Prop :=
  (I64 (r2 + 1)) /\ ((I64 ((r2 + 1) + r4)) /\ (Q ((r2 + 1) + r4)))
theorem QV {w : World} {Q : Int -> Prop} {r0 : Int} {r1 : Int} {r2 : Int} {r3 : Int} {r4 : Int}  (hv : J7 r0 r1 r2 r3 r4 Q) :
  Calls Try.prog 61 #[.agg #[.int .i64 r0, .int .i64 r1, .int .i64 r2, .int .i64 r3, .int .i64 r4]] w <| Rt w fun v Qr => ∃ (r0 : Int), v = .int .i64 r0 /\ Qr = [] /\ Q r0 := by
 refine Jh <| Ji (vs := [.agg #[nI r0, nI r1, nI r2, nI r3, nI r4]]) [2] XF61 rfl rfl rfl rfl ?_; have hS := Jn w; unfold J7 at hv; refine Jd 2 <| QG (z := 5) (cs := [nI r0, nI r1, nI r2, nI r3, nI r4]) hS rfl rfl rfl rfl ?_; intro g11 w12 hS; refine Jc 2 <| Jd 2 <| Jb (off := 2) Jw rfl rfl <| Je 0 2 XU3 hS rfl rfl rfl ⟨rfl, rfl⟩ ?_; obtain ⟨o13, hv⟩ := hv; refine WL.add (r := (r2 + 1)) rfl rfl (wr o13) rfl <| Jb (off := 4) Jr rfl rfl <| Je 0 4 XU3 hS rfl rfl rfl ⟨rfl, rfl⟩ ?_; obtain ⟨o14, hv⟩ := hv; refine WL.add (r := ((r2 + 1) + r4)) rfl rfl (wr o14) rfl <| Jc 2 <| W.ret <| ⟨_, rfl, Fin.nil ?_⟩
 exact (hS.pick [] rfl).fin rfl ⟨((r2 + 1) + r4), rfl, rfl, hv⟩
def Qv (n : Int) (z : LI) (r0 : Int) (r1 : Int) (r2 : Int) (r3 : Int) (r4 : Int) (Q : Int × Int -> Prop) : Prop :=
  J6 n (fun r14 => (((!r14) = true) -> (Q ((0 : Int), (4 : Int)))) /\ ((!r14) = false -> (J0 r0 (fun r17 => (((!r17) = true) -> (Q ((0 : Int), (6 : Int)))) /\ ((!r17) = false -> (J0 r1 (fun r20 => (((!r20) = true) -> (Q ((0 : Int), (6 : Int)))) /\ ((!r20) = false -> (J0 r3 (fun r23 => (((!r23) = true) -> (Q ((0 : Int), (6 : Int)))) /\ ((!r23) = false -> (((r2 < 1) -> (Q ((0 : Int), (6 : Int)))) /\ (¬ (r2 < 1) -> (((n < r2) -> (Q ((0 : Int), (6 : Int)))) /\ (¬ (n < r2) -> (((r4 < 0) -> (Q ((0 : Int), (6 : Int)))) /\ (¬ (r4 < 0) -> (((n < r4) -> (Q ((0 : Int), (6 : Int)))) /\ (¬ (n < r4) -> ((∃ (r33 : Int), JA r1 n (fun q => q = r33) /\ ((r33 ≠ 1) /\ (Q ((0 : Int), (13 : Int))))) ∨ ((((0 : Int) < r4) -> (∃ (r66 : Int), JA r1 n (fun q => q = r66) /\ ((¬ (r66 ≠ 1)) /\ (∃ (r80 : Int), JA r3 n (fun q => q = r80) /\ ((r2 < r80) /\ (Q ((0 : Int), (13 : Int)))))))) /\ (¬ ((0 : Int) < r4) -> (∃ (r102 : Int), JA r1 n (fun q => q = r102) /\ ((¬ (r102 ≠ 1)) /\ (∃ (x126 : List Bool), JU n z (fun q => q = x126) /\ (∃ (r135 : Bool), JD r0 r1 r2 r3 r4 x126 (fun q => q = r135) /\ ((((!r135) = true) -> (Q ((0 : Int), (13 : Int)))) /\ ((!r135) = false -> (J7 r0 r1 r2 r3 r4 (fun r143 => Q (r143, (0 : Int)))))))))))) ∨ ((((0 : Int) < r4) -> (∃ (r149 : Int), JA r1 n (fun q => q = r149) /\ ((¬ (r149 ≠ 1)) /\ (∃ (r163 : Int), JA r3 n (fun q => q = r163) /\ ((¬ (r2 < r163)) /\ (∃ (x177 : List Bool), JU n z (fun q => q = x177) /\ (∃ (r186 : Bool), JD r0 r1 r2 r3 r4 x177 (fun q => q = r186) /\ ((((!r186) = true) -> (Q ((0 : Int), (13 : Int)))) /\ ((!r186) = false -> (J7 r0 r1 r2 r3 r4 (fun r194 => Q (r194, (0 : Int))))))))))))) /\ (¬ ((0 : Int) < r4) -> (∃ (r199 : Int), JA r1 n (fun q => q = r199) /\ ((¬ (r199 ≠ 1)) /\ (∃ (x223 : List Bool), JU n z (fun q => q = x223) /\ (∃ (r232 : Bool), JD r0 r1 r2 r3 r4 x223 (fun q => q = r232) /\ ((((!r232) = true) -> (Q ((0 : Int), (13 : Int)))) /\ ((!r232) = false -> (J7 r0 r1 r2 r3 r4 (fun r240 => Q (r240, (0 : Int))))))))))))))))))))))))))))))))
theorem ZC {w : World} {Q : Int × Int -> Prop} {n : Int} {z : LI} {r0 : Int} {r1 : Int} {r2 : Int} {r3 : Int} {r4 : Int} {Bz : Nat} {Az : Option Addr} {nz kz : Nat} (hz : Rd Bz w 1 Az nz kz (is z)) (hv : Qv n z r0 r1 r2 r3 r4 Q) :
   Calls Try.prog 22 #[.int .i64 n, .slice Az nz kz, .agg #[.int .i64 r0, .int .i64 r1, .int .i64 r2, .int .i64 r3, .int .i64 r4]] w <| Rt w fun v Qr => ∃ (r0 : Int) (r1 : Int), v = .tuple #[.int .i64 r0, .int .i64 r1] /\ Qr = [] /\ Q (r0, r1) := by
 have hnz := hz.ilen; subst hnz; refine Jh <| Ji (vs := [nI n, nS Az z kz, .agg #[nI r0, nI r1, nI r2, nI r3, nI r4]]) [6, 7] XF22 rfl rfl rfl rfl ?_; have hS := Jn w; unfold Qv at hv; refine Jd 2 <| QG (z := 5) (cs := [nI r0, nI r1, nI r2, nI r3, nI r4]) hS rfl rfl rfl rfl ?_; intro g11 w12 hS; refine Jc 3 <| Jd 4 <| SL.call hS (YF  hv) XF48 rfl XN48 rfl rfl ?_; rintro _ _ w13 ⟨r14, rfl, rfl, hv⟩ hGw13 hS; have hS := hS.n0; refine Jc 2 <| Jk rfl (fun c15 => ?_) (fun c15 => ?_)
 .have hv := hv.1 (c15); refine Jd 5 <| W.ret <| ⟨_, rfl, Fin.nil ?_⟩
  exact (hS.pick [] rfl).fin rfl ⟨(0 : Int), (4 : Int), rfl, rfl, hv⟩
 have hv := hv.2 (c15); refine Jl <| Jd 3 <| Jb (off := 0) QD rfl rfl <| Je 0 0 XU3 hS rfl rfl rfl ⟨rfl, rfl⟩ <| SL.call hS (Qz  hv) XF58 rfl XN58 rfl rfl ?_; rintro _ _ w16 ⟨r17, rfl, rfl, hv⟩ hGw16 hS; have hS := hS.n0; refine Yw rfl rfl <| Jf rfl rfl ?_; rcases g18 : (!r17) with _ | _
 .have hv := hv.2 g18; refine WL.take rfl <| Jb (off := 1) Jy rfl rfl <| WL.take rfl <| Je 0 1 XU3 hS rfl rfl rfl ⟨rfl, rfl⟩ <| WL.take rfl <| SL.call hS (Qz  hv) XF58 rfl XN58 rfl rfl ?_; rintro _ _ w19 ⟨r20, rfl, rfl, hv⟩ hGw19 hS; have hS := hS.n0; refine Jc 3 <| Jf rfl rfl ?_; rcases g21 : (!r20) with _ | _
  .have hv := hv.2 g21; refine WL.take rfl <| Jb (off := 3) JW rfl rfl <| WL.take rfl <| Je 0 3 XU3 hS rfl rfl rfl ⟨rfl, rfl⟩ <| WL.take rfl <| SL.call hS (Qz  hv) XF58 rfl XN58 rfl rfl ?_; rintro _ _ w22 ⟨r23, rfl, rfl, hv⟩ hGw22 hS; have hS := hS.n0; refine Jc 3 <| Jf rfl rfl ?_; rcases g24 : (!r23) with _ | _
   .have hv := hv.2 g24; refine WL.take rfl <| Jb (off := 2) Jw rfl rfl <| WL.take rfl <| Je 0 2 XU3 hS rfl rfl rfl ⟨rfl, rfl⟩ <| Jc 3 <| Jf rfl rfl ?_; by_cases g25 : r2 < 1
    .have hv := hv.1 g25; rw [decide_eq_true g25]; refine Jc 17 <| Jq rfl <| Jd 5 <| W.ret <| ⟨_, rfl, Fin.nil ?_⟩
     exact (hS.pick [] rfl).fin rfl ⟨(0 : Int), (6 : Int), rfl, rfl, hv⟩
    have hv := hv.2 g25; rw [decide_eq_false g25]; refine WL.take rfl <| Jb (off := 2) Jw rfl rfl <| WL.take rfl <| Je 0 2 XU3 hS rfl rfl rfl ⟨rfl, rfl⟩ <| Jc 5 <| Jf rfl rfl ?_; by_cases g26 : n < r2
    .have hv := hv.1 g26; rw [decide_eq_true g26]; refine Jc 11 <| Jq rfl <| Jd 5 <| W.ret <| ⟨_, rfl, Fin.nil ?_⟩
     exact (hS.pick [] rfl).fin rfl ⟨(0 : Int), (6 : Int), rfl, rfl, hv⟩
    have hv := hv.2 g26; rw [decide_eq_false g26]; refine WL.take rfl <| Jb (off := 4) Jr rfl rfl <| WL.take rfl <| Je 0 4 XU3 hS rfl rfl rfl ⟨rfl, rfl⟩ <| Jc 3 <| Jf rfl rfl ?_; by_cases g27 : r4 < 0
    .have hv := hv.1 g27; rw [decide_eq_true g27]; refine Jc 6 <| Jq rfl <| Jd 5 <| W.ret <| ⟨_, rfl, Fin.nil ?_⟩
     exact (hS.pick [] rfl).fin rfl ⟨(0 : Int), (6 : Int), rfl, rfl, hv⟩
    have hv := hv.2 g27; rw [decide_eq_false g27]; refine WL.take rfl <| Jb (off := 4) Jr rfl rfl <| WL.take rfl <| Je 0 4 XU3 hS rfl rfl rfl ⟨rfl, rfl⟩ <| Jc 6 <| Jk rfl (fun c28 => ?_) (fun c28 => ?_)
    .have hv := hv.1 (oT c28); refine Jd 5 <| W.ret <| ⟨_, rfl, Fin.nil ?_⟩
     exact (hS.pick [] rfl).fin rfl ⟨(0 : Int), (6 : Int), rfl, rfl, hv⟩
    have hv := hv.2 (oF c28); refine Jl <| JP <| JP ?_; rcases hv with hv | hv | hv
    .obtain ⟨r33, o35, hv⟩ := hv; obtain ⟨o37, hv⟩ := hv; refine JV 27 [⟨[], [5], true⟩, ⟨[0], [], false⟩, ⟨[], [0], true⟩, ⟨[1, 2], [], false⟩, ⟨[3], [], true⟩, ⟨[4], [], true⟩, ⟨[5], [5], true⟩, ⟨[5, 6], [], false⟩, ⟨[5, 7], [], true⟩, ⟨[5, 8], [], true⟩, ⟨[9], [5], true⟩, ⟨[9, 10], [], false⟩, ⟨[9], [0], true⟩, ⟨[9, 11, 12], [], false⟩, ⟨[9], [5], true⟩, ⟨[9, 14], [], false⟩, ⟨[9, 13, 15], [], true⟩, ⟨[5, 9, 16], [], true⟩, ⟨[5, 17], [], true⟩, ⟨[18], [], true⟩, ⟨[19], [5], false⟩, ⟨[19], [0], true⟩, ⟨[19], [1], true⟩, ⟨[19, 21, 22], [], false⟩, ⟨[19, 20, 23], [], false⟩, ⟨[19, 24], [], true⟩, ⟨[19, 25], [], true⟩] [(49, .pointer (some ((⟨g11, 0, none⟩ : Addr).add 1))), (50, nI r1), (51, nI n), (52, nI r33), (53, .bool true), (54, .bool true), (55, undef), (56, undef), (57, undef), (58, undef), (59, undef), (60, undef), (61, undef), (62, undef), (63, undef), (64, undef), (65, undef), (66, undef), (67, .bool true), (68, .bool true), (69, undef), (70, undef), (71, undef), (72, undef), (73, undef), (74, undef), (75, .bool true)] Try.mixed (by kernel_rfl) rfl rfl ?_ ?_
     . refine ⟨fun _ _ _ => Jb (off := 1) Jy rfl rfl <| Ja ⟨rfl, rfl⟩, og hS fun _ _ hS => Je 0 1 XU3 hS rfl rfl rfl ⟨rfl, rfl⟩ <| Ja ⟨rfl, Jg _⟩, oD, ?_, ?_, oD, oD, oD, oD, oD, oD, oD, oD, oD, oD, oD, oD, oD, oD, oD, oD, oD, oD, oD, oD, oD, oD, trivial⟩
       .intro w32 hE RR; refine WL.call YO rfl Za rfl rfl (Jj (JI  o35)) ?_; rintro _ w34 ⟨_, hGw34, hRww34, hNww34, r33q, rfl, rfl, he⟩; subst he; exact Ja ⟨rfl, hGw34⟩
       intro w36 hE RR; refine JH rfl rfl rfl ?_; rw [decide_eq_true o37]; exact Ja ⟨rfl, rfl⟩
     intro w60 hT; have hS := hS.grow hT; refine Q3 <| Jq rfl <| Jd 5 <| W.ret <| ⟨_, rfl, Fin.nil ?_⟩
     exact (hS.pick [] rfl).fin rfl ⟨(0 : Int), (13 : Int), rfl, rfl, hv⟩
    .by_cases g61 : (0 : Int) < r4
     .have hv := hv.1 g61; obtain ⟨r66, o68, hv⟩ := hv; obtain ⟨o70, hv⟩ := hv; obtain ⟨r80, o82, hv⟩ := hv; obtain ⟨o86, hv⟩ := hv; refine JV 27 [⟨[], [5], true⟩, ⟨[0], [], false⟩, ⟨[], [0], true⟩, ⟨[1, 2], [], false⟩, ⟨[3], [], true⟩, ⟨[4], [], true⟩, ⟨[5], [5], true⟩, ⟨[5, 6], [], false⟩, ⟨[5, 7], [], true⟩, ⟨[5, 8], [], true⟩, ⟨[9], [5], true⟩, ⟨[9, 10], [], false⟩, ⟨[9], [0], true⟩, ⟨[9, 11, 12], [], false⟩, ⟨[9], [5], true⟩, ⟨[9, 14], [], false⟩, ⟨[9, 13, 15], [], true⟩, ⟨[5, 9, 16], [], true⟩, ⟨[5, 17], [], true⟩, ⟨[18], [], true⟩, ⟨[19], [5], false⟩, ⟨[19], [0], true⟩, ⟨[19], [1], true⟩, ⟨[19, 21, 22], [], false⟩, ⟨[19, 20, 23], [], false⟩, ⟨[19, 24], [], true⟩, ⟨[19, 25], [], true⟩] [(49, .pointer (some ((⟨g11, 0, none⟩ : Addr).add 1))), (50, nI r1), (51, nI n), (52, nI r66), (53, .bool false), (54, .bool false), (55, .pointer (some ((⟨g11, 0, none⟩ : Addr).add 4))), (56, nI r4), (57, .bool true), (58, .bool true), (59, .pointer (some ((⟨g11, 0, none⟩ : Addr).add 3))), (60, nI r3), (61, nI n), (62, nI r80), (63, .pointer (some ((⟨g11, 0, none⟩ : Addr).add 2))), (64, nI r2), (65, .bool true), (66, .bool true), (67, .bool true), (68, .bool true), (69, undef), (70, undef), (71, undef), (72, undef), (73, undef), (74, undef), (75, .bool true)] Try.mixed (by kernel_rfl) rfl rfl ?_ ?_
      . refine ⟨fun _ _ _ => Jb (off := 1) Jy rfl rfl <| Ja ⟨rfl, rfl⟩, og hS fun _ _ hS => Je 0 1 XU3 hS rfl rfl rfl ⟨rfl, rfl⟩ <| Ja ⟨rfl, Jg _⟩, oD, ?_, ?_, oD, fun _ _ _ => WL.take rfl <| Jb (off := 4) Jr rfl rfl <| Ja ⟨rfl, rfl⟩, og hS fun _ _ hS => WL.take rfl <| Je 0 4 XU3 hS rfl rfl rfl ⟨rfl, rfl⟩ <| Ja ⟨rfl, Jg _⟩, ?_, oD, fun _ _ _ => WL.take rfl <| Jb (off := 3) JW rfl rfl <| Ja ⟨rfl, rfl⟩, og hS fun _ _ hS => WL.take rfl <| Je 0 3 XU3 hS rfl rfl rfl ⟨rfl, rfl⟩ <| Ja ⟨rfl, Jg _⟩, oD, ?_, fun _ _ _ => WL.take rfl <| Jb (off := 2) Jw rfl rfl <| Ja ⟨rfl, rfl⟩, og hS fun _ _ hS => WL.take rfl <| Je 0 2 XU3 hS rfl rfl rfl ⟨rfl, rfl⟩ <| Ja ⟨rfl, Jg _⟩, ?_, oD, oD, oD, oD, oD, oD, oD, oD, oD, oD, trivial⟩
        .intro w65 hE RR; refine WL.call YO rfl Za rfl rfl (Jj (JI  o68)) ?_; rintro _ w67 ⟨_, hGw67, hRww67, hNww67, r66q, rfl, rfl, he⟩; subst he; exact Ja ⟨rfl, hGw67⟩
        .intro w69 hE RR; refine JH rfl rfl rfl ?_; rw [decide_eq_false o70]; exact Ja ⟨rfl, rfl⟩
        .intro w74 hE RR; refine WL.take rfl <| Jv rfl rfl rfl ?_; rw [decide_eq_true g61]; exact Ja ⟨rfl, rfl⟩
        .intro w79 hE RR; refine WL.take rfl <| WL.call YO rfl Za rfl rfl (Jj (JI  o82)) ?_; rintro _ w81 ⟨_, hGw81, hRww81, hNww81, r80q, rfl, rfl, he⟩; subst he; exact Ja ⟨rfl, hGw81⟩
        intro w85 hE RR; refine WL.take rfl <| Jv rfl rfl rfl ?_; rw [decide_eq_true o86]; exact Ja ⟨rfl, rfl⟩
      intro w97 hT; have hS := hS.grow hT; refine Q3 <| Jq rfl <| Jd 5 <| W.ret <| ⟨_, rfl, Fin.nil ?_⟩
      exact (hS.pick [] rfl).fin rfl ⟨(0 : Int), (13 : Int), rfl, rfl, hv⟩
     have hv := hv.2 g61; obtain ⟨r102, o104, hv⟩ := hv; obtain ⟨o106, hv⟩ := hv; obtain ⟨x126, o133, hv⟩ := hv; obtain ⟨r135, o137, hv⟩ := hv; have hS0 := hS; refine Q4 27 (fun iA => [false, false, false, false, false, false, false, false, false, false, false, false, false, false, false, false, false, false, false, false, false, false, false, true, false, false, false].getD iA false) (fun _ => none) (fun _ v u => u = v) [⟨[], [5], true⟩, ⟨[0], [], false⟩, ⟨[], [0], true⟩, ⟨[1, 2], [], false⟩, ⟨[3], [], true⟩, ⟨[4], [], true⟩, ⟨[5], [5], true⟩, ⟨[5, 6], [], false⟩, ⟨[5, 7], [], true⟩, ⟨[5, 8], [], true⟩, ⟨[9], [5], true⟩, ⟨[9, 10], [], false⟩, ⟨[9], [0], true⟩, ⟨[9, 11, 12], [], false⟩, ⟨[9], [5], true⟩, ⟨[9, 14], [], false⟩, ⟨[9, 13, 15], [], true⟩, ⟨[5, 9, 16], [], true⟩, ⟨[5, 17], [], true⟩, ⟨[18], [], true⟩, ⟨[19], [5], false⟩, ⟨[19], [0], true⟩, ⟨[19], [1], true⟩, ⟨[19, 21, 22], [], false⟩, ⟨[19, 20, 23], [], false⟩, ⟨[19, 24], [], true⟩, ⟨[19, 25], [], true⟩] [.k 49 (.pointer (some ((⟨g11, 0, none⟩ : Addr).add 1))), .k 50 (nI r1), .k 51 (nI n), .k 52 (nI r102), .k 53 (.bool false), .k 54 (.bool false), .k 55 (.pointer (some ((⟨g11, 0, none⟩ : Addr).add 4))), .k 56 (nI r4), .k 57 (.bool false), .k 58 (.bool false), .k 59 undef, .k 60 undef, .k 61 undef, .k 62 undef, .k 63 undef, .k 64 undef, .k 65 undef, .k 66 (.bool false), .k 67 (.bool false), .k 68 (.bool false), .k 69 (.agg #[nI r0, nI r1, nI r2, nI r3, nI r4]), .k 70 (nI n), .k 71 (nS Az z kz), eS w22 72 4 x126.length (bs x126), .k 73 (.bool r135), .k 74 (.bool (!r135)), .k 75 (.bool (!r135))] (fun _ => vbD) Try.mixed (by kernel_rfl) rfl rfl (fun _ _ _ _ _ _ _ h => h) ?_ ?_
     . refine ⟨fun _ _ _ => Jb (off := 1) Jy rfl rfl <| Ja ⟨rfl, rfl⟩, og hS fun _ _ hS => Je 0 1 XU3 hS rfl rfl rfl ⟨rfl, rfl⟩ <| Ja ⟨rfl, Jg _⟩, oC, ?_, ?_, oC, fun _ _ _ => WL.take rfl <| Jb (off := 4) Jr rfl rfl <| Ja ⟨rfl, rfl⟩, og hS fun _ _ hS => WL.take rfl <| Je 0 4 XU3 hS rfl rfl rfl ⟨rfl, rfl⟩ <| Ja ⟨rfl, Jg _⟩, ?_, oC, oC, oC, oC, oC, oC, oC, oC, oC, oC, oC, og hS fun _ _ hS => WL.take rfl <| Qw 0 Yv Yu hS rfl ⟨rfl, rfl⟩ rfl <| Ja ⟨rfl, Jg _⟩, oC, oC, ?_, ?_, oC, oC, trivial⟩
       .intro w101 hE; intro RR; refine WL.call YO rfl Za rfl rfl (Jj (JI  o104)) ?_; rintro _ w103 ⟨_, hGw103, hRww103, hNww103, r102q, rfl, rfl, he⟩; subst he; exact Ja ⟨rfl, hGw103⟩
       .intro w105 hE; intro RR; refine JH rfl rfl rfl ?_; rw [decide_eq_false o106]; exact Ja ⟨rfl, rfl⟩
       .intro w110 hE; intro RR; refine WL.take rfl <| Jv rfl rfl rfl ?_; rw [decide_eq_false g61]; exact Ja ⟨rfl, rfl⟩
       .intro w125 hE; have hE := hE rfl; have hS := hS.grow hE; intro RR; refine WL.take rfl <| WL.call XF53 rfl XN53 rfl rfl (Jj (Qy (hS.ro hz) o133)) ?_; rintro _ w130 ⟨_, hGw130, hRww130, hNww130, x126q, A127, k128, rfl, rfl, he⟩; subst he; have hO131 := (hRww130.get (i := 0) rfl).1; have hN132 : ∀ g, bl A127 = some g -> _ <= g := fun g hg => Nat.le_trans hE.size (hNww130.1 g hg); exact Ja ⟨_, rfl, hGw130, ⟨A127, k128, rfl, hO131, hN132⟩, (fun _ => fun g hg => ⟨hNww130.1 g hg, (hO131.bl_ge g hg).2⟩), (fun j h => by cases h)⟩
       intro w134 hE; rintro _ ⟨A127_23, k128_23, rfl, hO131_23, hN132_23⟩; intro RR; refine WL.take rfl <| WL.call XF60 rfl XN60 rfl rfl (Jj (Qa hO131_23.rd o137)) ?_; rintro _ w136 ⟨_, hGw136, hRww136, hNww136, r135q, rfl, rfl, he⟩; subst he; exact Ja ⟨rfl, hGw136⟩
     intro vals w140 hT hVs hAp hCp; have hS := hS.grow hT; obtain ⟨A127_23, k128_23, hv23, hO131_23, hN132_23⟩ := hVs 23 (by decide); refine Jam [(23, nS A127_23 x126 k128_23)] ⟨hv23, trivial⟩ <| Q3 <| Jk rfl (fun c141 => ?_) (fun c141 => ?_)
     .have hv := hv.1 (c141); refine Jd 5 <| W.ret <| ⟨_, rfl, Fin.nil ?_⟩
      exact (hS.pick [] rfl).fin rfl ⟨(0 : Int), (13 : Int), rfl, rfl, hv⟩
     have hv := hv.2 (c141); refine Jl <| Jd 2 <| Qw 0 Yv Yu hS rfl ⟨rfl, rfl⟩ rfl <| SL.call hS (QV  hv) XF61 rfl XN61 rfl rfl ?_; rintro _ _ w142 ⟨r143, rfl, rfl, hv⟩ hGw142 hS; have hS := hS.n0; refine Jc 3 <| W.ret <| ⟨_, rfl, Fin.nil ?_⟩
     exact (hS.pick [] rfl).fin rfl ⟨r143, (0 : Int), rfl, rfl, hv⟩
    by_cases g144 : (0 : Int) < r4
    .have hv := hv.1 g144; obtain ⟨r149, o151, hv⟩ := hv; obtain ⟨o153, hv⟩ := hv; obtain ⟨r163, o165, hv⟩ := hv; obtain ⟨o169, hv⟩ := hv; obtain ⟨x177, o184, hv⟩ := hv; obtain ⟨r186, o188, hv⟩ := hv; have hS0 := hS; refine Q4 27 (fun iA => [false, false, false, false, false, false, false, false, false, false, false, false, false, false, false, false, false, false, false, false, false, false, false, true, false, false, false].getD iA false) (fun _ => none) (fun _ v u => u = v) [⟨[], [5], true⟩, ⟨[0], [], false⟩, ⟨[], [0], true⟩, ⟨[1, 2], [], false⟩, ⟨[3], [], true⟩, ⟨[4], [], true⟩, ⟨[5], [5], true⟩, ⟨[5, 6], [], false⟩, ⟨[5, 7], [], true⟩, ⟨[5, 8], [], true⟩, ⟨[9], [5], true⟩, ⟨[9, 10], [], false⟩, ⟨[9], [0], true⟩, ⟨[9, 11, 12], [], false⟩, ⟨[9], [5], true⟩, ⟨[9, 14], [], false⟩, ⟨[9, 13, 15], [], true⟩, ⟨[5, 9, 16], [], true⟩, ⟨[5, 17], [], true⟩, ⟨[18], [], true⟩, ⟨[19], [5], false⟩, ⟨[19], [0], true⟩, ⟨[19], [1], true⟩, ⟨[19, 21, 22], [], false⟩, ⟨[19, 20, 23], [], false⟩, ⟨[19, 24], [], true⟩, ⟨[19, 25], [], true⟩] [.k 49 (.pointer (some ((⟨g11, 0, none⟩ : Addr).add 1))), .k 50 (nI r1), .k 51 (nI n), .k 52 (nI r149), .k 53 (.bool false), .k 54 (.bool false), .k 55 (.pointer (some ((⟨g11, 0, none⟩ : Addr).add 4))), .k 56 (nI r4), .k 57 (.bool true), .k 58 (.bool true), .k 59 (.pointer (some ((⟨g11, 0, none⟩ : Addr).add 3))), .k 60 (nI r3), .k 61 (nI n), .k 62 (nI r163), .k 63 (.pointer (some ((⟨g11, 0, none⟩ : Addr).add 2))), .k 64 (nI r2), .k 65 (.bool false), .k 66 (.bool false), .k 67 (.bool false), .k 68 (.bool false), .k 69 (.agg #[nI r0, nI r1, nI r2, nI r3, nI r4]), .k 70 (nI n), .k 71 (nS Az z kz), eS w22 72 4 x177.length (bs x177), .k 73 (.bool r186), .k 74 (.bool (!r186)), .k 75 (.bool (!r186))] (fun _ => vbD) Try.mixed (by kernel_rfl) rfl rfl (fun _ _ _ _ _ _ _ h => h) ?_ ?_
     . refine ⟨fun _ _ _ => Jb (off := 1) Jy rfl rfl <| Ja ⟨rfl, rfl⟩, og hS fun _ _ hS => Je 0 1 XU3 hS rfl rfl rfl ⟨rfl, rfl⟩ <| Ja ⟨rfl, Jg _⟩, oC, ?_, ?_, oC, fun _ _ _ => WL.take rfl <| Jb (off := 4) Jr rfl rfl <| Ja ⟨rfl, rfl⟩, og hS fun _ _ hS => WL.take rfl <| Je 0 4 XU3 hS rfl rfl rfl ⟨rfl, rfl⟩ <| Ja ⟨rfl, Jg _⟩, ?_, oC, fun _ _ _ => WL.take rfl <| Jb (off := 3) JW rfl rfl <| Ja ⟨rfl, rfl⟩, og hS fun _ _ hS => WL.take rfl <| Je 0 3 XU3 hS rfl rfl rfl ⟨rfl, rfl⟩ <| Ja ⟨rfl, Jg _⟩, oC, ?_, fun _ _ _ => WL.take rfl <| Jb (off := 2) Jw rfl rfl <| Ja ⟨rfl, rfl⟩, og hS fun _ _ hS => WL.take rfl <| Je 0 2 XU3 hS rfl rfl rfl ⟨rfl, rfl⟩ <| Ja ⟨rfl, Jg _⟩, ?_, oC, oC, oC, og hS fun _ _ hS => WL.take rfl <| Qw 0 Yv Yu hS rfl ⟨rfl, rfl⟩ rfl <| Ja ⟨rfl, Jg _⟩, oC, oC, ?_, ?_, oC, oC, trivial⟩
       .intro w148 hE; intro RR; refine WL.call YO rfl Za rfl rfl (Jj (JI  o151)) ?_; rintro _ w150 ⟨_, hGw150, hRww150, hNww150, r149q, rfl, rfl, he⟩; subst he; exact Ja ⟨rfl, hGw150⟩
       .intro w152 hE; intro RR; refine JH rfl rfl rfl ?_; rw [decide_eq_false o153]; exact Ja ⟨rfl, rfl⟩
       .intro w157 hE; intro RR; refine WL.take rfl <| Jv rfl rfl rfl ?_; rw [decide_eq_true g144]; exact Ja ⟨rfl, rfl⟩
       .intro w162 hE; intro RR; refine WL.take rfl <| WL.call YO rfl Za rfl rfl (Jj (JI  o165)) ?_; rintro _ w164 ⟨_, hGw164, hRww164, hNww164, r163q, rfl, rfl, he⟩; subst he; exact Ja ⟨rfl, hGw164⟩
       .intro w168 hE; intro RR; refine WL.take rfl <| Jv rfl rfl rfl ?_; rw [decide_eq_false o169]; exact Ja ⟨rfl, rfl⟩
       .intro w176 hE; have hE := hE rfl; have hS := hS.grow hE; intro RR; refine WL.take rfl <| WL.call XF53 rfl XN53 rfl rfl (Jj (Qy (hS.ro hz) o184)) ?_; rintro _ w181 ⟨_, hGw181, hRww181, hNww181, x177q, A178, k179, rfl, rfl, he⟩; subst he; have hO182 := (hRww181.get (i := 0) rfl).1; have hN183 : ∀ g, bl A178 = some g -> _ <= g := fun g hg => Nat.le_trans hE.size (hNww181.1 g hg); exact Ja ⟨_, rfl, hGw181, ⟨A178, k179, rfl, hO182, hN183⟩, (fun _ => fun g hg => ⟨hNww181.1 g hg, (hO182.bl_ge g hg).2⟩), (fun j h => by cases h)⟩
       intro w185 hE; rintro _ ⟨A178_23, k179_23, rfl, hO182_23, hN183_23⟩; intro RR; refine WL.take rfl <| WL.call XF60 rfl XN60 rfl rfl (Jj (Qa hO182_23.rd o188)) ?_; rintro _ w187 ⟨_, hGw187, hRww187, hNww187, r186q, rfl, rfl, he⟩; subst he; exact Ja ⟨rfl, hGw187⟩
     intro vals w191 hT hVs hAp hCp; have hS := hS.grow hT; obtain ⟨A178_23, k179_23, hv23, hO182_23, hN183_23⟩ := hVs 23 (by decide); refine Jam [(23, nS A178_23 x177 k179_23)] ⟨hv23, trivial⟩ <| Q3 <| Jk rfl (fun c192 => ?_) (fun c192 => ?_)
     .have hv := hv.1 (c192); refine Jd 5 <| W.ret <| ⟨_, rfl, Fin.nil ?_⟩
      exact (hS.pick [] rfl).fin rfl ⟨(0 : Int), (13 : Int), rfl, rfl, hv⟩
     have hv := hv.2 (c192); refine Jl <| Jd 2 <| Qw 0 Yv Yu hS rfl ⟨rfl, rfl⟩ rfl <| SL.call hS (QV  hv) XF61 rfl XN61 rfl rfl ?_; rintro _ _ w193 ⟨r194, rfl, rfl, hv⟩ hGw193 hS; have hS := hS.n0; refine Jc 3 <| W.ret <| ⟨_, rfl, Fin.nil ?_⟩
     exact (hS.pick [] rfl).fin rfl ⟨r194, (0 : Int), rfl, rfl, hv⟩
    have hv := hv.2 g144; obtain ⟨r199, o201, hv⟩ := hv; obtain ⟨o203, hv⟩ := hv; obtain ⟨x223, o230, hv⟩ := hv; obtain ⟨r232, o234, hv⟩ := hv; have hS0 := hS; refine Q4 27 (fun iA => [false, false, false, false, false, false, false, false, false, false, false, false, false, false, false, false, false, false, false, false, false, false, false, true, false, false, false].getD iA false) (fun _ => none) (fun _ v u => u = v) [⟨[], [5], true⟩, ⟨[0], [], false⟩, ⟨[], [0], true⟩, ⟨[1, 2], [], false⟩, ⟨[3], [], true⟩, ⟨[4], [], true⟩, ⟨[5], [5], true⟩, ⟨[5, 6], [], false⟩, ⟨[5, 7], [], true⟩, ⟨[5, 8], [], true⟩, ⟨[9], [5], true⟩, ⟨[9, 10], [], false⟩, ⟨[9], [0], true⟩, ⟨[9, 11, 12], [], false⟩, ⟨[9], [5], true⟩, ⟨[9, 14], [], false⟩, ⟨[9, 13, 15], [], true⟩, ⟨[5, 9, 16], [], true⟩, ⟨[5, 17], [], true⟩, ⟨[18], [], true⟩, ⟨[19], [5], false⟩, ⟨[19], [0], true⟩, ⟨[19], [1], true⟩, ⟨[19, 21, 22], [], false⟩, ⟨[19, 20, 23], [], false⟩, ⟨[19, 24], [], true⟩, ⟨[19, 25], [], true⟩] [.k 49 (.pointer (some ((⟨g11, 0, none⟩ : Addr).add 1))), .k 50 (nI r1), .k 51 (nI n), .k 52 (nI r199), .k 53 (.bool false), .k 54 (.bool false), .k 55 (.pointer (some ((⟨g11, 0, none⟩ : Addr).add 4))), .k 56 (nI r4), .k 57 (.bool false), .k 58 (.bool false), .k 59 undef, .k 60 undef, .k 61 undef, .k 62 undef, .k 63 undef, .k 64 undef, .k 65 undef, .k 66 (.bool false), .k 67 (.bool false), .k 68 (.bool false), .k 69 (.agg #[nI r0, nI r1, nI r2, nI r3, nI r4]), .k 70 (nI n), .k 71 (nS Az z kz), eS w22 72 4 x223.length (bs x223), .k 73 (.bool r232), .k 74 (.bool (!r232)), .k 75 (.bool (!r232))] (fun _ => vbD) Try.mixed (by kernel_rfl) rfl rfl (fun _ _ _ _ _ _ _ h => h) ?_ ?_
    . refine ⟨fun _ _ _ => Jb (off := 1) Jy rfl rfl <| Ja ⟨rfl, rfl⟩, og hS fun _ _ hS => Je 0 1 XU3 hS rfl rfl rfl ⟨rfl, rfl⟩ <| Ja ⟨rfl, Jg _⟩, oC, ?_, ?_, oC, fun _ _ _ => WL.take rfl <| Jb (off := 4) Jr rfl rfl <| Ja ⟨rfl, rfl⟩, og hS fun _ _ hS => WL.take rfl <| Je 0 4 XU3 hS rfl rfl rfl ⟨rfl, rfl⟩ <| Ja ⟨rfl, Jg _⟩, ?_, oC, oC, oC, oC, oC, oC, oC, oC, oC, oC, oC, og hS fun _ _ hS => WL.take rfl <| Qw 0 Yv Yu hS rfl ⟨rfl, rfl⟩ rfl <| Ja ⟨rfl, Jg _⟩, oC, oC, ?_, ?_, oC, oC, trivial⟩
      . intro w198 hE; intro RR; refine WL.call YO rfl Za rfl rfl (Jj (JI  o201)) ?_; rintro _ w200 ⟨_, hGw200, hRww200, hNww200, r199q, rfl, rfl, he⟩; subst he; exact Ja ⟨rfl, hGw200⟩
      . intro w202 hE; intro RR; refine JH rfl rfl rfl ?_; rw [decide_eq_false o203]; exact Ja ⟨rfl, rfl⟩
      . intro w207 hE; intro RR; refine WL.take rfl <| Jv rfl rfl rfl ?_; rw [decide_eq_false g144]; exact Ja ⟨rfl, rfl⟩
      . intro w222 hE; have hE := hE rfl; have hS := hS.grow hE; intro RR; refine WL.take rfl <| WL.call XF53 rfl XN53 rfl rfl (Jj (Qy (hS.ro hz) o230)) ?_; rintro _ w227 ⟨_, hGw227, hRww227, hNww227, x223q, A224, k225, rfl, rfl, he⟩; subst he; have hO228 := (hRww227.get (i := 0) rfl).1; have hN229 : ∀ g, bl A224 = some g -> _ <= g := fun g hg => Nat.le_trans hE.size (hNww227.1 g hg); exact Ja ⟨_, rfl, hGw227, ⟨A224, k225, rfl, hO228, hN229⟩, (fun _ => fun g hg => ⟨hNww227.1 g hg, (hO228.bl_ge g hg).2⟩), (fun j h => by cases h)⟩
      intro w231 hE; rintro _ ⟨A224_23, k225_23, rfl, hO228_23, hN229_23⟩; intro RR; refine WL.take rfl <| WL.call XF60 rfl XN60 rfl rfl (Jj (Qa hO228_23.rd o234)) ?_; rintro _ w233 ⟨_, hGw233, hRww233, hNww233, r232q, rfl, rfl, he⟩; subst he; exact Ja ⟨rfl, hGw233⟩
    intro vals w237 hT hVs hAp hCp; have hS := hS.grow hT; obtain ⟨A224_23, k225_23, hv23, hO228_23, hN229_23⟩ := hVs 23 (by decide); refine Jam [(23, nS A224_23 x223 k225_23)] ⟨hv23, trivial⟩ <| Q3 <| Jk rfl (fun c238 => ?_) (fun c238 => ?_)
    .have hv := hv.1 (c238); refine Jd 5 <| W.ret <| ⟨_, rfl, Fin.nil ?_⟩
     exact (hS.pick [] rfl).fin rfl ⟨(0 : Int), (13 : Int), rfl, rfl, hv⟩
    have hv := hv.2 (c238); refine Jl <| Jd 2 <| Qw 0 Yv Yu hS rfl ⟨rfl, rfl⟩ rfl <| SL.call hS (QV  hv) XF61 rfl XN61 rfl rfl ?_; rintro _ _ w239 ⟨r240, rfl, rfl, hv⟩ hGw239 hS; have hS := hS.n0; refine Jc 3 <| W.ret <| ⟨_, rfl, Fin.nil ?_⟩
    exact (hS.pick [] rfl).fin rfl ⟨r240, (0 : Int), rfl, rfl, hv⟩
   have hv := hv.1 g24; refine Jc 22 <| Jq rfl <| Jd 5 <| W.ret <| ⟨_, rfl, Fin.nil ?_⟩
   exact (hS.pick [] rfl).fin rfl ⟨(0 : Int), (6 : Int), rfl, rfl, hv⟩
  have hv := hv.1 g21; refine Jc 28 <| Jq rfl <| Jd 5 <| W.ret <| ⟨_, rfl, Fin.nil ?_⟩
  exact (hS.pick [] rfl).fin rfl ⟨(0 : Int), (6 : Int), rfl, rfl, hv⟩
 have hv := hv.1 g18; refine Jc 34 <| Jq rfl <| Jd 5 <| W.ret <| ⟨_, rfl, Fin.nil ?_⟩
 exact (hS.pick [] rfl).fin rfl ⟨(0 : Int), (6 : Int), rfl, rfl, hv⟩
end Go.Proofs.Ytppkigdakobebaa
