/- Contracts of functions of the program, and what they lean on: Draw6, Mx, Mx2, Draw8, Draw7, Mx3, Gk, Draw9, Sx, Draw10, Nt, Xl, Draw11, Xm, Bl2, Xo, Xp, Sg, Facts, Ab, D8, So2, Srt, D31, D33, D34, D35, Dt, Pure, Ru, B1, Pa, Pb, Gq, C1. -/
import Derived.Test.YtfeeapdpahcanaaCyclicCosetsG1
import Derived.Deep.MidRow
import Derived.Laws.StructEq
import Derived.Test.YtfeeapdpahcanaaProg
import Derived.Shelf.Sort.Plain
import Derived.Shelf.Slices.In.SortNone
import Derived.Shelf.Slices.CompactI
import Derived.Sort.OwnSortedInts
set_option linter.unusedSimpArgs false
set_option linter.unusedVariables false
namespace Go.Proofs.Ytfeeapdpahcanaa
open Go.RowKit
/-! ### regions that draw their order, where some operations may come late -/
def Y3 : List Nat -> List (List Nat)
  | [] => [[]]
  | x :: l => Y3 l ++ (Y3 l).map (x :: ·)
theorem QC (p : Nat -> Bool) : ∀ l : List Nat, l.filter p ∈ Y3 l
 | [] => by simp [Y3]
 | x :: l => by
  have ih := QC p l; rw [List.filter_cons]; cases h : p x
  .simp only [Bool.false_eq_true, if_false]; exact List.mem_append_left _ ih
  .simp only [if_true]; exact List.mem_append_right _ (List.mem_map.2 ⟨_, ih, rfl⟩)
def Zx (n : Nat) (l : List Oper) (ps : List Plan) (m : Nat) (fs : List Nat) : Bool :=
  ps.length == m && Nat.ble m l.length && (List.range l.length).all (fun i => (Jr l i).all (fun j => Nat.blt j i)) &&
    (List.range l.length).all (fun i => Nat.blt i m || (List.range m).all (fun j => fs.contains j || (YI l 9 (Jr l i)).contains j)) && (List.range m).all fun i =>
    (match ps[i]? with
     | none => false
     | some p => p.on.all (fun j => (Jr l i).contains j) && p.slots.all (fun t => (List.range m).all fun k => k == i || Jm l k != some t || (Jr l k).contains i)) &&
    (match Jm l i with
     | none => false
     | some d => Nat.blt d n && (List.range m).all fun k => k == i || Jm l k != some d)
def Zw (n : Nat) (l : List Oper) (ps : List Plan) (m : Nat) (fs : List Nat) (o9 : Nat) : Bool :=
  ps.length == m && Nat.ble m l.length && (List.range l.length).all (fun i => (Jr l i).all (fun j => Nat.blt j i)) &&
    (List.range l.length).all (fun i => (Nat.blt i m && i != o9) || (List.range m).all (fun j => fs.contains j || (YI l 9 (Jr l i)).contains j)) && (List.range m).all fun i =>
    (match ps[i]? with
     | none => false
     | some p => p.on.all (fun j => (Jr l i).contains j) && p.slots.all (fun t => (List.range m).all fun k => k == i || Jm l k != some t || (Jr l k).contains i)) &&
    (match Jm l i with
     | none => false
     | some d => Nat.blt d n && (List.range m).all fun k => k == i || Jm l k != some d)
def obsH (P : Program) (n : Nat) (ro : Option Nat) (df : List Deferred) (l : List Oper) (al : Nat -> Bool) (cp : Nat -> Option Nat) (ph : Nat -> Value -> Value -> Prop) (V : Nat -> Value -> World -> Prop) (D : Nat -> Value -> World -> Nat -> Prop) (w0 : World) (L : Fr) (o9 : Nat) : Nat -> List Oper -> List Plan -> List Fr -> Prop
  | i, o :: os, p :: ps, b :: bs => (b.map (·.1) = p.slots /\ sub b L /\ (i ≠ o9 -> obA P n ro df l al cp ph V D w0 i o p b)) /\ obsH P n ro df l al cp ph V D w0 L o9 (i + 1) os ps bs
  | _, [], [], [] => True
  | _, _, _, _ => False
theorem ZG {P : Program} {n : Nat} {ro : Option Nat} {df : List Deferred} {l : List Oper} {al : Nat -> Bool} {cp : Nat -> Option Nat} {ph : Nat -> Value -> Value -> Prop} {V : Nat -> Value -> World -> Prop} {D : Nat -> Value -> World -> Nat -> Prop} {w0 : World} {L : Fr} {o9 : Nat} : ∀ (os : List Oper) (ps : List Plan) (bs : List Fr) (i : Nat),
  obsH P n ro df l al cp ph V D w0 L o9 i os ps bs -> ∀ k o p, os[k]? = some o -> ps[k]? = some p -> ∃ b, b.map (·.1) = p.slots /\ sub b L /\ (i + k ≠ o9 -> obA P n ro df l al cp ph V D w0 (i + k) o p b)
 | [], _, _, _, _, k, _, _, ho, _ => by simp at ho
 | o :: os, [], _, _, h, _, _, _, _, hp => by simp at hp
 | o :: os, p :: ps, [], _, h, _, _, _, _, _ => by exact h.elim
 | o :: os, p :: ps, b :: bs, i, h, 0, _, _, ho, hp => by cases ho; cases hp; exact ⟨b, h.1⟩
 | o :: os, p :: ps, b :: bs, i, h, k + 1, o', p', ho, hp => by
  obtain ⟨b', h'⟩ := ZG os ps bs (i + 1) h.2 k o' p' (by simpa using ho) (by simpa using hp); exact ⟨b', by rw [show i + (k + 1) = i + 1 + k by omega]; exact h'⟩
theorem Jb4 {P : Program} {n id : Nat} {ro : Option Nat} {df : List Deferred} {l : List Oper} {N : Ji} {B : Ju} {L : Fr} {w0 : World} (m : Nat) (fs : List Nat) (o9 : Nat) (al : Nat -> Bool) (cp : Nat -> Option Nat) (ph : Nat -> Value -> Value -> Prop) (ps : List Plan) (bs : List Fr) (V : Nat -> Value -> World -> Prop) (D : Nat -> Value -> World -> Nat -> Prop)
  (hm : P.follows .mixedOrders = true) (hB : Zw n l ps m fs o9 = true)
  (hV : ∀ j v w1 w2, V j v w1 -> w1.grownBy w2 none -> V j v w2)
  (hD : ∀ j v w1 w2, V j v w1 -> w1.grownBy w2 none -> ∀ g, D j v w2 g -> D j v w1 g)
  (hcp : (List.range m).all (fun i => match cp i with | none => true | some j => (Jr l i).contains j) = true)
  (hobs : obsH P n ro df l al cp ph V D w0 L o9 0 (l.take m) ps bs)
  (hN2 : ∀ X ∈ Y3 fs, (o9 < m -> X.contains o9 = true) -> ∀ (vals : Nat -> Value) w', w0.grownBy w' none -> (∀ i, i < m -> X.contains i = false -> V i (vals i) w') -> (∀ j k, j ≠ k -> j < m -> k < m -> X.contains j = false -> X.contains k = false -> al j = true -> al k = true -> ∀ g, D j (vals j) w' g -> ¬ D k (vals k) w' g) -> (∀ i j, i < m -> X.contains i = false -> cp i = some j -> ph i (vals j) (vals i)) -> ∀ q, q = (((List.range l.length).map fun k => Nat.blt k m && !(X.contains k)).filter (!·)).length ->
   WA P n ro df l N q ((List.range l.length).map fun k => Nat.blt k m && !(X.contains k)) ((((List.range m).filterMap fun i => if X.contains i = true then none else (Jm l i).map fun t => (t, vals i))) ++ L) w') : W P n ro df (.region id l.toArray true) N B L w0 := by
 simp only [Zw, Bool.and_eq_true, Bool.or_eq_true, List.all_eq_true, List.mem_range, beq_iff_eq, List.contains_iff_mem] at hB; obtain ⟨⟨⟨⟨hlen, hlm0⟩, hlt0⟩, htail⟩, hB⟩ := hB; have hlm : m <= l.length := by simpa [Nat.ble_eq] using hlm0
 refine ⟨fun a ha => wpIn_mono (Q := QI n df N B) (wpIn_region_any hm ?_) QF⟩; have hon_lt : ∀ k, k < l.length -> ∀ j ∈ Jr l k, j < k := fun k hk j hj => by simpa [Nat.blt_eq] using hlt0 k hk j hj
 have fin0 : ∀ (c : Nat) (listed : Array Bool) (vals : Nat -> Value) (a : Act) (w : World), listed.size = l.length -> (listed.toList.filter (!·)).length = c -> (∀ k, listed.getD k false = true -> k < m /\ k ≠ o9) ->
   DInv n df l ps V (fun _ => True) w0 L (l.length + 1) (fun k => listed.getD k false) vals a w -> Ap al cp ph D (fun k => listed.getD k false) vals w -> (∀ k, k < m -> k ∉ fs -> listed.getD k false = true) -> wpAnyIn (JE ro) 0 P .any l.toArray (QI n df N B) c listed a w := by
  intro c listed vals a w hsz hf hnm I hap hcase; have hXm : ∀ k, k < m -> (fs.filter fun k => !listed.getD k false).contains k = !listed.getD k false := fun k hk => by
   cases hb : listed.getD k false with
   | true =>
    cases hc : (fs.filter fun k => !listed.getD k false).contains k with
    | false => rfl
    | true => rw [List.contains_iff_mem, List.mem_filter, hb] at hc; exact absurd hc.2 (by decide)
   | false =>
    show _ = true; rw [List.contains_iff_mem, List.mem_filter, hb]; refine ⟨Classical.byContradiction fun h => ?_, rfl⟩; have := hcase k hk h; rw [hb] at this; cases this
  have hXs := QC (fun k => !listed.getD k false) fs; generalize hXe : (fs.filter fun k => !listed.getD k false) = X at hXm hXs; have hX : listed = ((List.range l.length).map fun k => Nat.blt k m && !(X.contains k)).toArray := by
   apply Array.ext
   .simp [hsz]
   .intro k h1 h2; have hk : k < l.length := by omega
    have hv : listed.getD k false = listed[k] := by simp [Array.getD_eq_getD_getElem?, h1]
    rw [<- hv]; simp only [List.getElem_toArray, List.getElem_map, List.getElem_range]; rcases Nat.lt_or_ge k m with h | h
    .rw [hXm k h, Bool.not_not]; have : Nat.blt k m = true := by rw [Nat.blt_eq]; exact h
     rw [this]; rfl
    .have hb : listed.getD k false = false := by
      cases hb : listed.getD k false with
      | false => rfl
      | true => have := hnm k hb; omega
     have : Nat.blt k m = false := by
      cases hc : Nat.blt k m with
      | false => rfl
      | true => rw [Nat.blt_eq] at hc; omega
     rw [hb, this]; rfl
  have hlk : ∀ k, k < m -> X.contains k = false -> listed.getD k false = true := fun k hk h => by
   have := hXm k hk; rw [h] at this; cases hb : listed.getD k false with
   | true => rfl
   | false => rw [hb] at this; cases this
  have hw := I.wd (by simp [Array.getD_eq_getD_getElem?, show ¬ l.length + 1 < listed.size by omega]); have hvs : ∀ j, j < m -> X.contains j = false -> V j (vals j) w := fun j hj hne => I.vs j (hlk j hj hne) (by omega); have hX9 : o9 < m -> X.contains o9 = true := fun ho9 => by
   rw [hXm o9 ho9]; cases hb : listed.getD o9 false with
   | false => rfl
   | true => exact absurd rfl (hnm o9 hb).2
  have hW := hN2 X hXs hX9 vals w hw hvs (fun j k hjk hj hk hjf hkf h1 h2 => hap.ap j k hjk (hlk j hj hjf) (hlk k hk hkf) h1 h2) (fun i j hi hif h => hap.cp_ i j (hlk i hi hif) h) c (by rw [<- @List.toList_toArray _ ((List.range l.length).map fun k => Nat.blt k m && !(X.contains k)), <- hX]; omega); have hHas : Has n df a ((((List.range m).filterMap fun i => if X.contains i = true then none else (Jm l i).map fun t => (t, vals i))) ++ L) := by
   refine ⟨I.nd, I.sz, fun t v hv => ?_⟩; rw [Qc] at hv; cases hc : lk ((List.range m).filterMap fun i => if X.contains i = true then none else (Jm l i).map fun t => (t, vals i)) t with
   | some u =>
    rw [hc] at hv; cases hv; have := Yu hc; simp only [List.mem_filterMap, List.mem_range] at this; obtain ⟨k, hk, he⟩ := this; cases hkf : X.contains k with
    | true => rw [if_pos hkf] at he; cases he
    | false =>
     rw [if_neg (by rw [hkf]; decide)] at he; simp only [Option.map_eq_some_iff] at he; obtain ⟨t', ht', he⟩ := he; cases he; exact I.new k t (hlk k hk hkf) ht'
   | none =>
    rw [hc] at hv; refine I.old t v hv fun k hk hd => ?_; have hkm := (hnm k hk).1; have hkf : X.contains k = false := by rw [hXm k hkm, hk]; rfl
    have hm2 : (t, vals k) ∈ (List.range m).filterMap fun i => if X.contains i = true then none else (Jm l i).map fun t => (t, vals i) := by
     simp only [List.mem_filterMap, List.mem_range]; exact ⟨k, hkm, by rw [if_neg (by rw [hkf]; decide)]; simp [hd]⟩
    obtain ⟨u, hu⟩ := Z7 hm2; rw [hc] at hu; cases hu
  rw [hX]; exact hW.out a hHas B
 have key : ∀ (fuel : Nat) (listed : Array Bool) (vals : Nat -> Value) (a : Act) (w : World), listed.size = l.length -> (listed.toList.filter (!·)).length = fuel + (l.length - m) -> (∀ k, listed.getD k false = true -> k < m /\ k ≠ o9) ->
   DInv n df l ps V (fun _ => True) w0 L (l.length + 1) (fun k => listed.getD k false) vals a w -> Ap al cp ph D (fun k => listed.getD k false) vals w -> wpAnyIn (JE ro) 0 P .any l.toArray (QI n df N B) (fuel + (l.length - m)) listed a w := by
  intro fuel
  induction fuel with
  | zero =>
   intro listed vals a w hsz hf hnm I hap; have hall : ∀ k, k < m -> listed.getD k false = true := fun k hk => by
    cases hb : listed.getD k false with
    | true => rfl
    | false =>
     exfalso; have hcnt : ∀ (x : List Bool) (m : Nat), m <= x.length -> (∀ j, m <= j -> j < x.length -> x[j]? = some false) -> (x.length - m) + ((x.take m).filter (!·)).length = (x.filter (!·)).length := by
      intro x m hmx hfalse; have h1 : x = x.take m ++ x.drop m := (List.take_append_drop m x).symm; have h2 : (x.drop m).filter (!·) = x.drop m := by
       rw [List.filter_eq_self]; intro b hb; obtain ⟨j, hj, rfl⟩ := List.mem_iff_getElem.1 hb; have := hfalse (m + j) (by omega) (by simp at hj; omega); rw [List.getElem_drop]; rw [List.getElem?_eq_getElem (by simp at hj; omega)] at this
       simpa using this
      conv => rhs; rw [h1]
      rw [List.filter_append, List.length_append, h2, List.length_drop]; omega
     have hx := hcnt listed.toList m (by simp; omega) (fun j h1 h2 => by
      have hj : j < listed.size := by simpa using h2
      cases hbj : listed.getD j false with
      | true => have := hnm j hbj; omega
      | false =>
       simp [Array.getD_eq_getD_getElem?, hj] at hbj; simp [hj, hbj])
     have hsz2 : listed.toList.length = l.length := by simpa using hsz
     have hzero : ((listed.toList.take m).filter (!·)).length = 0 := by omega
     have hz := YQ hzero k (by simp; omega); rw [List.getElem?_take, if_pos hk] at hz; have hk2 : k < listed.size := by omega
     simp [Array.getD_eq_getD_getElem?, hk2] at hb; simp [hk2, hb] at hz
   exact fin0 _ listed vals a w hsz hf hnm I hap (fun k hk _ => hall k hk)
  | succ fuel ih =>
   intro listed vals a w hsz hf hnm I hap; rw [show fuel + 1 + (l.length - m) = (fuel + (l.length - m)) + 1 by omega] at hf ⊢; have hlist : ∀ k, listed.getD k true = false -> k < l.length /\ listed.getD k false = false := fun k hk => by
    rcases Nat.lt_or_ge k listed.size with h | h
    .simp [Array.getD_eq_getD_getElem?, h] at hk ⊢; exact ⟨by omega, hk⟩
    .simp [Array.getD_eq_getD_getElem?, Array.getElem?_eq_none h] at hk
   by_cases hcase : ∀ k, k < m -> k ∉ fs -> listed.getD k false = true
   .exact fin0 _ listed vals a w hsz hf hnm I hap hcase
   .refine ⟨?_, ?_⟩
    .intro hr
     -- the first that has not come up yet is ready
     exfalso; have hex : ∃ k, k < l.length /\ listed.getD k false = false := by
      by_cases hc : ∃ k, k < l.length /\ listed.getD k false = false
      .exact hc
      .have hfe : listed.toList.filter (!·) = [] := by
        rw [List.filter_eq_nil_iff]; intro b hb; obtain ⟨k, hk, rfl⟩ := List.mem_iff_getElem.1 hb; have hk' : k < listed.size := by simpa using hk
        have : ¬ listed.getD k false = false := fun h => hc ⟨k, by omega, h⟩; simp [Array.getD_eq_getD_getElem?, hk'] at this; simp [this]
       rw [hfe] at hf; simp at hf
     have hmin : ∀ m, (∃ k, k <= m /\ k < l.length /\ listed.getD k false = false) -> ∃ k, k < l.length /\ listed.getD k false = false /\ ∀ j, j < k -> listed.getD j false = true := by
      intro m
      induction m with
      | zero => rintro ⟨k, hk, h1, h2⟩; exact ⟨k, h1, h2, fun j hj => by omega⟩
      | succ m ihm =>
       rintro ⟨k, hk, h1, h2⟩; by_cases hc : ∃ j, j <= m /\ j < l.length /\ listed.getD j false = false
       .exact ihm hc
       .refine ⟨k, h1, h2, fun j hj => ?_⟩; cases hb : listed.getD j false with
        | true => rfl
        | false => exact absurd ⟨j, by omega, by omega, hb⟩ hc
     obtain ⟨k0, hk0, hk0'⟩ := hex; obtain ⟨k, h1, h2, h3⟩ := hmin k0 ⟨k0, Nat.le_refl _, hk0, hk0'⟩; have hin : k ∈ Region.ready .any l.toArray listed := by
      refine mem_ready.2 ⟨?_, l[k], by simp [h1], fun e he hb => ?_⟩
      .have : k < listed.size := by omega
       simp [Array.getD_eq_getD_getElem?, this] at h2 ⊢; exact h2
      .have hon : e.on ∈ Jr l k := by
        simp only [Jr, List.getElem?_eq_getElem h1, List.mem_map, List.mem_filter]; exact ⟨e, ⟨by simpa using he, hb⟩, rfl⟩
       exact h3 e.on (hon_lt k h1 _ hon)
     rw [hr] at hin; cases hin
    .intro i hi; obtain ⟨h1, o, ho, hpre⟩ := mem_ready.1 hi; obtain ⟨hil0, hun⟩ := hlist i h1; have ho' : l[i]? = some o := by simpa using ho
     have hpre' : ∀ j ∈ Jr l i, listed.getD j false = true := fun j hj => by
      simp only [Jr, ho', List.mem_map, List.mem_filter] at hj; obtain ⟨e, ⟨he, hb⟩, rfl⟩ := hj; exact hpre e (by simpa using he) hb
     have hil : i < m /\ i ≠ o9 := by
      by_cases h : i < m /\ i ≠ o9
      .exact h
      .exfalso; refine hcase fun k hk hkf => ?_; rcases htail i hil0 with h2 | h2
       .simp [Nat.blt_eq] at h2; omega
       .rcases h2 k hk with h3 | h3
        .exact absurd h3 hkf
        .exact Ye (p := fun k => listed.getD k false = true) I.cl 9 (Jr l i) hpre' k h3
     have hi9 := hil.2; have hil := hil.1; obtain ⟨hp, hd⟩ := hB i hil; have hpi : i < ps.length := by omega
     rw [List.getElem?_eq_getElem hpi] at hp; generalize hpe : ps[i] = p at hp; simp only [Bool.and_eq_true, List.all_eq_true, Bool.or_eq_true, List.mem_range, beq_iff_eq, bne_iff_ne, ne_eq, List.contains_iff_mem] at hp; obtain ⟨hon, hsl⟩ := hp; obtain ⟨b, hbs, hsub, hob⟩ := ZG (l.take m) ps bs 0 hobs i o p (by rw [List.getElem?_take, if_pos hil]; exact ho') (by rw [List.getElem?_eq_getElem hpi, hpe]); rw [Nat.zero_add] at hob; have hw0 : p.pure = false -> w0.grownBy w none := fun _ => I.wd (by
      cases hb : listed.getD (l.length + 1) false with
      | false => rfl
      | true => have := I.lt _ hb; omega)
     have hT := Zv vals p.on b (hob hi9 w hw0) (fun j hj => I.vs j (hpre' j (hon j hj)) (by have := hon_lt i hil0 j (hon j hj); omega)); generalize hF : (List.map (fun j => ((Jm l j).getD 0, vals j)) p.on).reverse ++ b = F at hT; have hdst : ∀ j, j < m -> ∃ d, Jm l j = some d /\ d < n := fun j hj => by
      have := (hB j hj).2; cases hd : Jm l j with
      | none => rw [hd] at this; simp at this
      | some d => rw [hd] at this; simp only [Bool.and_eq_true] at this; exact ⟨d, rfl, by simpa [Nat.blt_eq] using this.1⟩
     have hHF : Has n df a (F ++ (List.range n).map fun t => (t, a.tmps.getD t undef)) := by
      refine ⟨I.nd, I.sz, fun t v hv => ?_⟩; rw [Qc] at hv; cases hc : lk F t with
      | some u =>
       rw [hc] at hv; cases hv; have hm := Yu hc; rw [<- hF] at hm; rcases List.mem_append.1 hm with hm | hm
       .simp only [List.mem_reverse, List.mem_map] at hm; obtain ⟨j, hj, he⟩ := hm; cases he; obtain ⟨d, hd', _⟩ := hdst j (hnm j (hpre' j (hon j hj))).1; rw [hd']; exact I.new j d (hpre' j (hon j hj)) hd'
       .have hL := Jau hsub hm; have hts : t ∈ p.slots := by rw [<- hbs]; exact List.mem_map.2 ⟨_, hm, rfl⟩
        refine I.old t v hL fun k hk hdk => ?_; rcases hsl t hts k (hnm k hk).1 with (h | h) | h
        .subst h; rw [hun] at hk; cases hk
        .exact h hdk
        .have := I.cl k hk i h; rw [hun] at this; cases this
      | none =>
       rw [hc] at hv; have hm := Yu hv; simp only [List.mem_map, List.mem_range] at hm; obtain ⟨t', ht', he⟩ := hm; cases he; have : t < a.tmps.size := by rw [I.sz]; exact ht'
       simp [Array.getD_eq_getD_getElem?, this]
     have hW := (hT ((List.range n).map fun t => (t, a.tmps.getD t undef))).out a hHF (fun _ _ _ _ => False); have fin' : ∀ a' w', wpListIn (JE ro) 0 P l.toArray (QI n df (fun _ L' w' => ∃ u, L' = ((Jm l i).getD 0, u) :: (F ++ (List.range n).map fun t => (t, a.tmps.getD t undef)) /\ (if p.pure then w' = w else w.grownBy w' none) /\ V i u w' /\ (al i = true -> ∀ g, D i u w' g -> w.heap.size <= g /\ g < w'.heap.size) /\ (∀ j, cp i = some j -> ∃ u', lk (F ++ (List.range n).map fun t => (t, a.tmps.getD t undef)) ((Jm l j).getD 0) = some u' /\ ph i u' u)) (fun _ _ _ _ => False)) [] a' w' ->
       wpAnyIn (JE ro) 0 P .any l.toArray (QI n df N B) (fuel + (l.length - m)) (listed.setIfInBounds i true) a' w' := by
      intro a' w' hq; obtain ⟨L', hL', hq⟩ := hq; have hisz : i < listed.size := by omega
      have hset : ∀ k, (listed.setIfInBounds i true).getD k false = true -> k = i ∨ listed.getD k false = true := fun k hk => by
       rw [YO _ _ _ hisz] at hk; simp only [Bool.or_eq_true, decide_eq_true_eq] at hk; exact hk.imp Eq.symm (fun h => h)
      have hset' : ∀ k, k = i ∨ listed.getD k false = true -> (listed.setIfInBounds i true).getD k false = true := fun k hk => by
       rw [YO _ _ _ hisz]; simp only [Bool.or_eq_true, decide_eq_true_eq]; exact hk.imp Eq.symm (fun h => h)
      have hcount : ((listed.setIfInBounds i true).toList.filter (!·)).length = fuel + (l.length - m) := by
       have hg : listed.toList[i]? = some false := by
        simp [Array.getD_eq_getD_getElem?, hisz] at hun; simp [hisz, hun]
       have := Zi listed.toList i hg; rw [Array.toList_setIfInBounds]; omega
      have hm0' : ∀ k, (listed.setIfInBounds i true).getD k false = true -> k < m /\ k ≠ o9 := fun k hk => by
       rcases hset k hk with rfl | h
       .exact ⟨hil, hi9⟩
       .exact hnm k h
      have hcl : ∀ k, (listed.setIfInBounds i true).getD k false = true -> ∀ j ∈ Jr l k, (listed.setIfInBounds i true).getD j false = true := fun k hk j hj => by
       rcases hset k hk with rfl | h
       .exact hset' j (.inr (hpre' j hj))
       .exact hset' j (.inr (I.cl k h j hj))
      have hlt : ∀ k, (listed.setIfInBounds i true).getD k false = true -> k < l.length := fun k hk => by
       rcases hset k hk with rfl | h
       .exact hil0
       .exact I.lt k h
      have hsome : ∀ t, t < n -> ∃ v, lk (F ++ (List.range n).map fun t => (t, a.tmps.getD t undef)) t = some v := fun t ht => by
       rw [Qc]; cases lk F t with
       | some u => exact ⟨u, rfl⟩
       | none => exact ⟨_, Jcw a n t ht⟩
      obtain ⟨u, rfl, hww, hVu, hfr, hcu⟩ := hq; obtain ⟨d, hdd, hdn⟩ := hdst i hil; rw [hdd] at hL' hd; simp only [Option.getD_some] at hL'; simp only [Bool.and_eq_true, List.all_eq_true, List.mem_range, Bool.or_eq_true, beq_iff_eq, bne_iff_ne, ne_eq] at hd; have hsame' : ∀ t v, t ≠ d -> a.tmps[t]? = some v -> a'.tmps[t]? = some v := fun t v hne hv => by
       have ht : t < n := by have := (Array.getElem?_eq_some_iff.1 hv).1; rw [I.sz] at this; exact this
       obtain ⟨v', hv'⟩ := hsome t ht; have h2 := hHF.at_ t v' hv'; rw [hv] at h2; cases h2; exact hL'.at_ t v (by rw [QZ (Ne.symm hne)]; exact hv')
      have hnew : a'.tmps[d]? = some u := hL'.at_ d u (J0 _ _ _); have hgw : w.grownBy w' none := by
       by_cases hp' : p.pure = true
       .rw [if_pos hp'] at hww; subst hww; exact JH _
       .rw [if_neg hp'] at hww; exact hww
      have hVk : ∀ k, listed.getD k false = true -> k ≠ l.length + 1 -> V k (vals k) w' := fun k h hne => hV k _ w w' (I.vs k h hne) hgw; have hDk : ∀ k, listed.getD k false = true -> ∀ g, D k (vals k) w' g -> D k (vals k) w g := fun k h => hD k _ w w' (I.vs k h (by have := hnm k h; omega)) hgw; refine ih _ (fun k => if k = i then u else vals k) a' w' (by simpa using hsz) hcount hm0' ⟨hL'.nd, hL'.sz, fun t v ht hk => ?_, fun k t hk ht => ?_, fun h => ?_, fun h => trivial, fun k hk hne => ?_, hcl, hlt⟩ ⟨fun k hk ha g hg => ?_, fun j k hjk hj hk ha1 ha2 g hg => ?_, fun x y hx hc => ?_⟩
      .exact hsame' t v (fun e' => hk i (hset' i (.inl rfl)) (by rw [hdd, e'])) (I.old t v ht fun k h => hk k (hset' k (.inr h)))
      .by_cases ek : k = i
       .subst ek; rw [hdd] at ht; cases ht; simpa using hnew
       .rw [if_neg ek]; rcases hset k hk with h | h
        .exact absurd h ek
        .refine hsame' t _ (fun e' => ?_) (I.new k t h ht); rcases hd.2 k (hnm k h).1 with h' | h'
         .exact ek h'
         .exact h' (by rw [ht, e'])
      .refine Yk (I.wd ?_) hgw; cases hb : listed.getD (l.length + 1) false with
       | false => rfl
       | true => have := I.lt _ hb; omega
      .by_cases ek : k = i
       .subst ek; simpa using hVu
       .rw [if_neg ek]; rcases hset k hk with h | h
        .exact absurd h ek
        .exact hVk k h hne
      .by_cases ek : k = i
       .subst ek; rw [if_pos rfl] at hg; exact (hfr ha g hg).2
       .rw [if_neg ek] at hg; exact Nat.lt_of_lt_of_le (hap.lt k ((hset k hk).resolve_left ek) ha g (hDk k ((hset k hk).resolve_left ek) g hg)) hgw.size
      .by_cases ej : j = i
       .subst ej; rw [if_pos rfl] at hg; rw [if_neg (Ne.symm hjk)]; have h3 := (hfr ha1 g hg).1; intro h4; have := hap.lt k ((hset k hk).resolve_left (Ne.symm hjk)) ha2 g (hDk k ((hset k hk).resolve_left (Ne.symm hjk)) g h4); omega
       .rw [if_neg ej] at hg; have hj' := (hset j hj).resolve_left ej; by_cases ek : k = i
        .subst ek; rw [if_pos rfl]; intro h4; have h3 := (hfr ha2 g h4).1; have := hap.lt j hj' ha1 g (hDk j hj' g hg); omega
        .rw [if_neg ek]; exact fun h4 => hap.ap j k hjk hj' ((hset k hk).resolve_left ek) ha1 ha2 g (hDk j hj' g hg) (hDk k ((hset k hk).resolve_left ek) g h4)
      .by_cases ex : x = i
       .subst ex; obtain ⟨uy, h1, huy⟩ := hcu y hc; have hym : y ∈ Jr l x := by
         have := List.all_eq_true.1 hcp x (List.mem_range.2 hil); rw [hc] at this
         simpa using this
        have hyd := hpre' y hym; obtain ⟨dy, hdy, _⟩ := hdst y (hnm y hyd).1; rw [hdy] at h1; have h2 := hHF.at_ _ _ h1; have h3 := I.new y dy hyd hdy; simp only [Option.getD_some] at h2; rw [h3] at h2; have hyx : y ≠ x := fun e => by rw [e, hun] at hyd; cases hyd
        rw [if_pos rfl, if_neg hyx]
        first | (rw [Option.some.inj h2] at huy ⊢; exact huy) | (rw [Option.some.inj h2]; exact huy) | (rw [<- Option.some.inj h2]; exact huy)
       .have hx' := (hset x hx).resolve_left ex; have h1 := hap.cp_ x y hx' hc; have hym : y ∈ Jr l x := by
         have := List.all_eq_true.1 hcp x (List.mem_range.2 (hnm x hx').1); rw [hc] at this
         simpa using this
        have hyd := I.cl x hx' y hym; have hyi : y ≠ i := fun e => by rw [e, hun] at hyd; cases hyd
        rw [if_neg ex, if_neg hyi]; exact h1
     unfold wpOpIn; rw [ho]; simp only [wpListIn] at hW; by_cases hwant : Region.wanted o (yielded l.toArray a.tmps) = true
     .rw [if_pos hwant] at hW; simp only [hwant, if_true]; exact (JY fin' (fun e a w hne h => by cases e <;> first | exact absurd rfl hne | (obtain ⟨_, _, _, h⟩ := h; exact h.elim)) hW)
     .rw [if_neg hwant] at hW; simp only [hwant, if_false, Bool.false_eq_true]; exact ⟨fun _ _ => trivial, fin' _ _ hW.2⟩
 have hsz0 : ((Array.replicate l.toArray.size false).toList.filter (!·)).length = m + (l.length - m) := by simp; omega
 have := key m (Array.replicate l.toArray.size false) (fun _ => undef) a { w0 with drawn := w0.drawn + 1 } (by simp) hsz0 (fun k h => by rw [JG] at h; cases h) {
  nd := ha.nd, sz := ha.sz
  old := fun t v h _ => ha.at_ t v h
  new := fun k t h => by rw [JG] at h; cases h
  wd := fun _ => ⟨rfl, rfl, rfl, Nat.le_refl _, fun _ _ _ => rfl⟩
  ws := fun h => trivial
  vs := fun k h => by rw [JG] at h; cases h
  cl := fun k h => by rw [JG] at h; cases h
  lt := fun k h => by rw [JG] at h; cases h } (Ap.mk (fun k h => by rw [JG] at h; cases h) (fun j k _ h => by rw [JG] at h; cases h) (fun i j h => by rw [JG] at h; cases h))
 rw [show m + (l.length - m) = l.toArray.size by simp; omega] at this; exact this
theorem Jar {n m : Nat} {l : List Oper} {ps : List Plan} {fs : List Nat} (h : Zx n l ps m fs = true) : Zw n l ps m fs m = true := by
 have e : ∀ i, (Nat.blt i m && i != m) = Nat.blt i m := fun i => by
  cases hb : Nat.blt i m with
  | false => rfl
  | true =>
   have h1 : i < m := by rw [Nat.blt_eq] at hb; exact hb
   simp only [Bool.true_and, bne_iff_ne, ne_eq]; omega
 unfold Zw; simp only [e]; exact h
theorem ZF {P : Program} {n : Nat} {ro : Option Nat} {df : List Deferred} {l : List Oper} {al : Nat -> Bool} {cp : Nat -> Option Nat} {ph : Nat -> Value -> Value -> Prop} {V : Nat -> Value -> World -> Prop} {D : Nat -> Value -> World -> Nat -> Prop} {w0 : World} {L : Fr} {o9 : Nat} : ∀ (os : List Oper) (ps : List Plan) (bs : List Fr) (i : Nat),
  obsA P n ro df l al cp ph V D w0 L i os ps bs -> obsH P n ro df l al cp ph V D w0 L o9 i os ps bs
 | [], [], [], _, _ => trivial
 | [], _ :: _, _, _, h => h.elim
 | [], [], _ :: _, _, h => h.elim
 | _ :: _, [], _, _, h => h.elim
 | _ :: _, _ :: _, [], _, h => h.elim
 | o :: os, p :: ps, b :: bs, i, h => ⟨⟨h.1.1, h.1.2.1, fun _ => h.1.2.2⟩, ZF os ps bs (i + 1) h.2⟩
theorem Jb5 {P : Program} {n id : Nat} {ro : Option Nat} {df : List Deferred} {l : List Oper} {N : Ji} {B : Ju} {L : Fr} {w0 : World} (m : Nat) (fs : List Nat) (al : Nat -> Bool) (cp : Nat -> Option Nat) (ph : Nat -> Value -> Value -> Prop) (ps : List Plan) (bs : List Fr) (V : Nat -> Value -> World -> Prop) (D : Nat -> Value -> World -> Nat -> Prop)
  (hm : P.follows .mixedOrders = true) (hB : Zx n l ps m fs = true)
  (hV : ∀ j v w1 w2, V j v w1 -> w1.grownBy w2 none -> V j v w2)
  (hD : ∀ j v w1 w2, V j v w1 -> w1.grownBy w2 none -> ∀ g, D j v w2 g -> D j v w1 g)
  (hcp : (List.range m).all (fun i => match cp i with | none => true | some j => (Jr l i).contains j) = true)
  (hobs : obsA P n ro df l al cp ph V D w0 L 0 (l.take m) ps bs)
  (hN2 : ∀ X ∈ Y3 fs, ∀ (vals : Nat -> Value) w', w0.grownBy w' none -> (∀ i, i < m -> X.contains i = false -> V i (vals i) w') -> (∀ j k, j ≠ k -> j < m -> k < m -> X.contains j = false -> X.contains k = false -> al j = true -> al k = true -> ∀ g, D j (vals j) w' g -> ¬ D k (vals k) w' g) -> (∀ i j, i < m -> X.contains i = false -> cp i = some j -> ph i (vals j) (vals i)) -> ∀ q, q = (((List.range l.length).map fun k => Nat.blt k m && !(X.contains k)).filter (!·)).length ->
   WA P n ro df l N q ((List.range l.length).map fun k => Nat.blt k m && !(X.contains k)) ((((List.range m).filterMap fun i => if X.contains i = true then none else (Jm l i).map fun t => (t, vals i))) ++ L) w') : W P n ro df (.region id l.toArray true) N B L w0 :=
 Jb4 m fs m al cp ph ps bs V D hm (Jar hB) hV hD hcp (ZF _ _ _ _ hobs) (fun X hX _ => hN2 X hX)
end Go.Proofs.Ytfeeapdpahcanaa
namespace Go.Proofs.Ytfeeapdpahcanaa
open Go.RowKit
section
variable {b : Nat} {mr : Option Nat} {w w' : World} {R L : List Rw}
theorem Rows.perm {L L' : List Rw} (hp : L.Perm L') : Rows b mr w L -> Rows b mr w L' := by
 induction hp with
 | nil => exact id
 | cons x hp ih => exact fun h => ⟨h.1, fun s hs => h.2.1 s (hp.mem_iff.2 hs), ih h.2.2⟩
 | swap x y l =>
  exact fun h => ⟨h.2.2.1, fun s hs => by
   rcases List.mem_cons.1 hs with rfl | hs
   .exact (h.2.1 _ (List.mem_cons_self ..)).symm
   .exact h.2.2.2.1 s hs, h.1, fun s hs => h.2.1 s (List.mem_cons_of_mem _ hs), h.2.2.2.2⟩
 | trans _ _ ih1 ih2 => exact fun h => ih2 (ih1 h)
theorem Rows.cut : ∀ {L : List Rw}, Rows b mr w (L ++ R) -> Rows b mr w L /\ (∀ r ∈ L, ∀ s ∈ R, r.Apt s) /\ Rows b mr w R
 | [], h => ⟨trivial, fun _ h => by simp at h, h⟩
 | r :: L, h => by
  obtain ⟨h1, h2, h3⟩ := Rows.cut (L := L) h.2.2; refine ⟨⟨h.1, fun s hs => h.2.1 s (List.mem_append_left _ hs), h1⟩, fun q hq s hs => ?_, h3⟩; rcases List.mem_cons.1 hq with rfl | hq
  .exact h.2.1 s (List.mem_append_right _ hs)
  .exact h2 q hq s hs
theorem Yn : ∀ {L : List Rw}, Rows b mr w L -> (∀ r ∈ L, ∀ s ∈ R, r.Apt s) -> Rows b mr w R -> Rows b mr w (L ++ R)
 | [], _, _, h => h
 | r :: L, h, ha, hR => ⟨h.1, fun s hs => by
  rcases List.mem_append.1 hs with hs | hs
  .exact h.2.1 s hs
  .exact ha r (List.mem_cons_self ..) s hs, Yn h.2.2 (fun q hq => ha q (List.mem_cons_of_mem _ hq)) hR⟩
def Rw.isRow : Rw -> Bool
  | .row .. => true
  | _ => false
def grp (L : List Rw) : Rw := .mu (fun g => ∃ r ∈ L, r.at_ g) (fun w => Rows 0 none w L)
theorem Own.block {w w' : World} {b e z m c : Nat} {A : Option Addr} {cs : List Value} (h : Own b w e z A m c cs) (hk : ∀ g, bl A = some g -> w'.heap[g]? = w.heap[g]?) : Own b w' e z A m c cs :=
 ⟨h.1, h.2.imp id fun ⟨g, cap, cur, h1, h2, h3, h4⟩ => ⟨g, cap, cur, h1, h2, (hk g (by cases h1; rfl)).trans h3, h4⟩⟩
theorem Rows.steady : ∀ {L : List Rw}, (∀ r ∈ L, r.isRow = true) -> (∀ g, (∃ r ∈ L, r.at_ g) -> w'.heap[g]? = w.heap[g]?) -> Rows b mr w L -> Rows b mr w' L
 | [], _, _, _ => trivial
 | r :: L, hr, hk, h => by
  refine ⟨?_, h.2.1, Rows.steady (fun q hq => hr q (List.mem_cons_of_mem _ hq)) (fun g ⟨q, hq, hg⟩ => hk g ⟨q, List.mem_cons_of_mem _ hq, hg⟩) h.2.2⟩; have h1 := hr r (List.mem_cons_self ..); have h2 := h.1; cases r with
  | row e z A m c cs => exact ⟨h2.1.block fun g hg => hk g ⟨_, List.mem_cons_self .., hg⟩, h2.2⟩
  | _ => cases h1
theorem Rows.low : ∀ {L : List Rw}, (∀ r ∈ L, r.isRow = true) -> Rows b mr w L -> Rows 0 none w L
 | [], _, _ => trivial
 | r :: L, hr, h => by
  refine ⟨?_, h.2.1, Rows.low (fun q hq => hr q (List.mem_cons_of_mem _ hq)) h.2.2⟩; have h1 := hr r (List.mem_cons_self ..); have h2 := h.1; cases r with
  | row e z A m c cs => exact ⟨h2.1, fun g _ => .inl (Nat.zero_le _)⟩
  | _ => cases h1
theorem Rows.high : ∀ {L : List Rw}, (∀ r ∈ L, r.isRow = true) -> (∀ g, (∃ r ∈ L, r.at_ g) -> b <= g ∨ mr = some g) -> Rows 0 none w L -> Rows b mr w L
 | [], _, _, _ => trivial
 | r :: L, hr, hk, h => by
  refine ⟨?_, h.2.1, Rows.high (fun q hq => hr q (List.mem_cons_of_mem _ hq)) (fun g ⟨q, hq, hg⟩ => hk g ⟨q, List.mem_cons_of_mem _ hq, hg⟩) h.2.2⟩; have h1 := hr r (List.mem_cons_self ..); have h2 := h.1; cases r with
  | row e z A m c cs => exact ⟨h2.1, fun g hg => hk g ⟨_, List.mem_cons_self .., hg⟩⟩
  | _ => cases h1
theorem Jck {r : Rw} (h : r.isRow = true) : r.mut = true := by cases r <;> first | rfl | cases h
theorem Rows.row_own : ∀ {L : List Rw}, (∀ r ∈ L, r.isRow = true) -> Rows b mr w L -> ∀ g, (∃ r ∈ L, r.at_ g) -> (∃ o : Obj, w.heap[g]? = some o /\ o.isCells = true) /\ (b <= g ∨ mr = some g) := fun hr h g ⟨r, hm, hg⟩ => by
 have h1 := hr r hm; have h2 := h.mem hm; cases r with
 | row e z A m c cs => exact ⟨Qb h2.1 g hg, h2.2 g hg⟩
 | _ => cases h1
theorem Rows.toGrp {L : List Rw} (hr : ∀ r ∈ L, r.isRow = true) (h : Rows b mr w (L ++ R)) : Rows b mr w (grp L :: R) := by
 obtain ⟨h1, h2, h3⟩ := h.cut; exact ⟨⟨h1.low hr, h1.row_own hr, fun w1 w2 _ hk hw => hw.steady hr hk⟩, fun s hs _ g ⟨r, hm, hg⟩ => h2 r hm s hs (by rw [Jck (hr r hm)]; rfl) g hg, h3⟩
theorem Rows.ofGrp {L : List Rw} (hr : ∀ r ∈ L, r.isRow = true) (h : Rows b mr w (grp L :: R)) : Rows b mr w (L ++ R) :=
 Yn (h.1.1.high hr fun g hg => (h.1.2.1 g hg).2) (fun r hm s hs _ g h1 h2 => h.2.1 s hs rfl g ⟨r, hm, h1⟩ h2) h.2.2
end
section
variable {X : World -> Prop} {w0 w w' : World} {mr : Option Nat} {R L : List Rw}
theorem St.perm {L' : List Rw} (h : St X w0 mr w L) (hp : L.Perm L') : St X w0 mr w L' := ⟨h.ext, h.rows.perm hp, h.x, h.cl, h.lt⟩
theorem St.toGrp (hr : ∀ r ∈ L, r.isRow = true) (h : St X w0 mr w (L ++ R)) : St X w0 mr w (grp L :: R) := ⟨h.ext, h.rows.toGrp hr, h.x, h.cl, h.lt⟩
theorem St.ofGrp (hr : ∀ r ∈ L, r.isRow = true) (h : St X w0 mr w (grp L :: R)) : St X w0 mr w (L ++ R) := ⟨h.ext, h.rows.ofGrp hr, h.x, h.cl, h.lt⟩
theorem St.tail {r : Rw} (h : St X w0 mr w (r :: R)) : St X w0 mr w R := ⟨h.ext, h.rows.2.2, h.x, h.cl, h.lt⟩
end
abbrev Hs := Nat -> Option Addr × Nat
def Jh (hs : Hs) (ls : LL) : List Value := ls.mapIdx fun i l => .slice (hs i).1 l.length (hs i).2
def inr (eI : Nat) (hs : Hs) (ls : LL) : List Rw := ls.mapIdx fun i l => .row eI 1 (hs i).1 l.length (hs i).2 (is l)
def mx (eS eI : Nat) (A : Option Addr) (m c : Nat) (hs : Hs) (ls : LL) : Rw := grp (.row eS 1 A m c (Jh hs ls) :: inr eI hs ls)
theorem Jcy (eI : Nat) (hs : Hs) (ls : LL) : ∀ r ∈ inr eI hs ls, r.isRow = true := fun r hr => by
 obtain ⟨i, hi, rfl⟩ := List.mem_mapIdx.1 hr; rfl
theorem Ja6 (eS eI : Nat) (A : Option Addr) (m c : Nat) (hs : Hs) (ls : LL) : ∀ r ∈ (Rw.row eS 1 A m c (Jh hs ls) :: inr eI hs ls), r.isRow = true := fun r hr => by
 rcases List.mem_cons.1 hr with rfl | hr
 .rfl
 .exact Jcy _ _ _ r hr
theorem Ql (hs : Hs) (ls : LL) : (Jh hs ls).length = ls.length := by simp [Jh]
theorem ZN {α : Type} {ls : List α} {i : Nat} {d : α} (h : i < ls.length) : ls[i]? = some (ls.getD i d) := by
 rw [List.getElem?_eq_getElem h, List.getD_eq_getElem?_getD, List.getElem?_eq_getElem h]; rfl
theorem Ja9 (eI : Nat) (hs : Hs) (ls : LL) {i : Nat} (hi : i < ls.length) : (inr eI hs ls)[i]? = some (.row eI 1 (hs i).1 (ls.getD i []).length (hs i).2 (is (ls.getD i []))) := by
 simp only [inr, List.getElem?_mapIdx, ZN (d := []) hi, Option.map_some]
theorem Yi (hs : Hs) (ls : LL) {i : Nat} (hi : i < ls.length) : (Jh hs ls)[i]? = some (.slice (hs i).1 (ls.getD i []).length (hs i).2) := by
 simp only [Jh, List.getElem?_mapIdx, ZN (d := []) hi, Option.map_some]
theorem ZB {α : Type} : ∀ {l : List α} {i : Nat} {a : α}, l[i]? = some a -> l.Perm (a :: l.eraseIdx i)
 | [], _, _, h => by simp at h
 | x :: l, 0, a, h => by cases h; exact List.Perm.refl _
 | x :: l, i + 1, a, h => ((ZB (l := l) (i := i) (by simpa using h)).cons x).trans (List.Perm.swap _ _ _)
section
variable {X : World -> Prop} {w0 w w' : World} {mr : Option Nat} {R : List Rw} {eS eI m c : Nat} {A : Option Addr} {hs : Hs} {ls : LL}
theorem St.mxOpen (h : St X w0 mr w (mx eS eI A m c hs ls :: R)) : St X w0 mr w (.row eS 1 A m c (Jh hs ls) :: (inr eI hs ls ++ R)) := h.ofGrp (Ja6 eS eI A m c hs ls)
theorem QB (h : St X w0 mr w (.row eS 1 A m c (Jh hs ls) :: (inr eI hs ls ++ R))) : St X w0 mr w (mx eS eI A m c hs ls :: R) := St.toGrp (Ja6 eS eI A m c hs ls) h
theorem Rows.mxlen (h : (mx eS eI A m c hs ls).holds 0 mr w) : ls.length = m := by
 have := h.1.1.1.len; rw [Ql] at this; omega
theorem St.mxrows {i : Nat} (h : St X w0 mr w R) (hi : R[i]? = some (mx eS eI A m c hs ls)) : Rows 0 none w (.row eS 1 A m c (Jh hs ls) :: inr eI hs ls) := (h.rows.get hi).1
theorem St.mxlen {i : Nat} (h : St X w0 mr w R) (hi : R[i]? = some (mx eS eI A m c hs ls)) : ls.length = m := by
 have := (h.mxrows hi).1.1.len; rw [Ql] at this; omega
theorem St.mxout {i : Nat} (h : St X w0 mr w R) (hi : R[i]? = some (mx eS eI A m c hs ls)) : Rd w.heap.size w 1 A m c (Jh hs ls) := (h.mxrows hi).1.1.rd
theorem Al.mk {w : World} (eI : Nat) (f : Nat -> Nat) : ∀ (ls : LL) (hs : Hs), Rows 0 none w (inr eI hs ls) -> Al w (Jh hs ls) ls
 | [], _, _ => trivial
 | l :: ls, hs, h => by
  simp only [inr, List.mapIdx_cons] at h; simp only [Jh, List.mapIdx_cons]; exact ⟨⟨_, _, _, rfl, h.1.1.rd⟩, Al.mk eI f ls (fun i => hs (i + 1)) h.2.2⟩
theorem St.rl {i : Nat} (h : St X w0 mr w R) (hi : R[i]? = some (mx eS eI A m c hs ls)) : Rl w A m c ls := ⟨_, _, h.mxout hi, Al.mk eI id ls hs (h.mxrows hi).2.2⟩
end
end Go.Proofs.Ytfeeapdpahcanaa
namespace Go.Proofs.Ytfeeapdpahcanaa
open Go.RowKit
def QJ (m : Nat) (hs hs' : Hs) : Hs := fun i => if i < m then hs i else hs' (i - m)
theorem Ze (eI : Nat) (hs hs' : Hs) (ls ls' : LL) : inr eI (QJ ls.length hs hs') (ls ++ ls') = inr eI hs ls ++ inr eI hs' ls' := by
 apply List.ext_getElem?; intro j; simp only [inr, List.getElem?_append, List.getElem?_mapIdx, List.length_mapIdx]; by_cases h : j < ls.length <;> simp [h, QJ]
theorem Q8 (hs hs' : Hs) (ls ls' : LL) : Jh hs ls ++ Jh hs' ls' = Jh (QJ ls.length hs hs') (ls ++ ls') := by
 apply List.ext_getElem?; intro j; simp only [Jh, List.getElem?_append, List.getElem?_mapIdx, List.length_mapIdx]; by_cases h : j < ls.length <;> simp [h, QJ]
theorem Zg (hs : Hs) (ls : LL) : ∀ u ∈ Jh hs ls, u.oneCell' = true := fun u hu => by
 obtain ⟨i, hi, rfl⟩ := List.mem_mapIdx.1 hu; rfl
section
variable {X : World -> Prop} {w0 w w' : World} {mr : Option Nat} {R : List Rw} {eS eI m c : Nat} {A : Option Addr} {hs : Hs} {ls : LL}
theorem St.mxNil (eS eI : Nat) (h : St X w0 mr w R) : St X w0 mr w (mx eS eI none 0 0 (fun _ => (none, 0)) [] :: R) := QB (h.nil (e := eS) (z := 1))
theorem St.at_ {i : Nat} {r : Rw} (h : St X w0 mr w R) (hi : R[i]? = some r) : St X w0 mr w (r :: R.eraseIdx i) := h.perm (ZB hi)
theorem St.relenMx {i m' : Nat} (h : St X w0 mr w R) (hi : R[i]? = some (mx eS eI A m c hs ls)) (hm : m = m') : St X w0 mr w (R.set i (mx eS eI A m' c hs ls)) := by
 subst hm; rw [List.set_getElem?_self hi]; exact h
end
section
variable {P : Program} {n : Nat} {ro : Option Nat} {df : List Deferred} {N : Ji} {L : Fr} {w w0 : World} {ops : Array Oper} {rest : List Oper}
variable {d : Nat} {ty : TypeId} {pos : String} {af : Array Edge} {X : World -> Prop} {mr : Option Nat} {R : List Rw} {eS eI m c : Nat} {A : Option Addr} {hs : Hs} {ls : LL}
theorem QG {x y : Operand} {t e by_ m' c' : Nat} {zero : Value} {A' : Option Addr} {hs' : Hs} {ls' : LL} (hS : St X w0 mr w (mx e eI A' m' c' hs' ls' :: mx e eI A m c hs ls :: R)) (ht : P.underlying t = some (.slice e)) (he : Elem P e 1 by_ zero)
    (hx : ev L x = some (.slice A m c)) (hy : ev L y = some (.slice A' m' c')) (hmax : m + m' <= maxLen) (hby : (m + m') * by_ <= 140737488355328) (hn : Nat.blt d n = true)
    (h : ∀ A2 c2 w', St X w0 mr w' (mx e eI A2 (ls ++ ls').length c2 (QJ ls.length hs hs') (ls ++ ls') :: R) -> WL P n ro df ops rest N ((d, .slice A2 (ls ++ ls').length c2) :: L) w') :
    WL P n ro df ops (⟨some d, .call ⟨.builtin .append, #[x, y], #[t, t]⟩, ty, pos, af, none⟩ :: rest) N L w := by
  have hl := hS.mxlen (i := 1) rfl
  have hl' := hS.mxlen (i := 0) rfl
  have h1 := (hS.mxOpen.perm ((List.perm_middle.cons _).trans (List.Perm.swap _ _ _))).mxOpen
  -- pieces: outer, its rows, then outer', its rows, R
  have hR : Rd w.heap.size w 1 A' m' c' (Jh hs' ls') := hS.mxout (i := 0) rfl
  have hmm : m + m' = (ls ++ ls').length := by rw [List.length_append, hl, hl']
  refine WL.append (cs := Jh hs ls) (ls ++ ls').length (Jh hs ls ++ Jh hs' ls') ht he hx hy (h1.own (i := 0) rfl) hR (Zg _ _) hmax hby (Nat.zero_le _) hmm rfl hn fun A2 c2 w' hO hG hA => h A2 c2 w' ?_
  have h2 := h1.put (i := 0) rfl hG hO (hA.imp id .inl)
  refine QB ?_
  rw [Ze, <- Q8]
  have h3 : St X w0 mr w' (.row e 1 A' m' c' (Jh hs' ls') :: .row e 1 A2 (ls ++ ls').length c2 (Jh hs ls ++ Jh hs' ls') :: (inr eI hs ls ++ inr eI hs' ls' ++ R)) := h2.perm (by
    show (Rw.row e 1 A2 (ls ++ ls').length c2 _ :: (inr eI hs ls ++ (Rw.row e 1 A' m' c' (Jh hs' ls') :: (inr eI hs' ls' ++ R)))).Perm _
    rw [List.append_assoc]
    exact (List.perm_middle.cons _).trans (List.Perm.swap _ _ _))
  exact h3.tail
theorem YY {A1 A2 : Option Addr} {m2 c1 c2 : Nat} {l : LI} (hm2 : m2 = l.length) (h : St X w0 mr w (.row eS 1 A1 1 c1 [.slice A2 m2 c2] :: .row eI 1 A2 m2 c2 (is l) :: R)) : St X w0 mr w (mx eS eI A1 1 c1 (fun _ => (A2, c2)) [l] :: R) := by
  subst hm2
  exact QB h
end
end Go.Proofs.Ytfeeapdpahcanaa
namespace Go.Proofs.Ytfeeapdpahcanaa
open Go.RowKit
theorem Z8 (m n : Nat) (h : m <= n) : (List.range n).map (fun k => Nat.blt k m && !(([] : List Nat).contains k)) = List.replicate m true ++ List.replicate (n - m) false := by
 apply List.ext_getElem
 .simp; omega
 intro k h1 h2; simp only [List.getElem_map, List.getElem_range, List.getElem_append, List.length_replicate, List.getElem_replicate, List.contains_nil, Bool.not_false, Bool.and_true]; split
 .simpa [Nat.blt_eq] using ‹k < m›
 .rw [Bool.eq_false_iff]; intro hh; exact absurd (Nat.blt_eq.mp hh) ‹_›
theorem Zd (m n : Nat) : ((List.replicate m true ++ List.replicate (n - m) false).filter (!·)).length = n - m := by simp
theorem Jde {P : Program} {n id : Nat} {ro : Option Nat} {df : List Deferred} {l : List Oper} {N : Ji} {B : Ju} {L : Fr} {w0 : World} (m : Nat) (al : Nat -> Bool) (cp : Nat -> Option Nat) (ph : Nat -> Value -> Value -> Prop) (ps : List Plan) (bs : List Fr) (V : Nat -> Value -> World -> Prop) (D : Nat -> Value -> World -> Nat -> Prop)
  (hm : P.follows .mixedOrders = true) (hB : YH n l ps m = true)
  (hV : ∀ j v w1 w2, V j v w1 -> w1.grownBy w2 none -> V j v w2)
  (hD : ∀ j v w1 w2, V j v w1 -> w1.grownBy w2 none -> ∀ g, D j v w2 g -> D j v w1 g)
  (hcp : (List.range m).all (fun i => match cp i with | none => true | some j => (Jr l i).contains j) = true)
  (hobs : obsA P n ro df l al cp ph V D w0 L 0 (l.take m) ps bs)
  (hN : ∀ (vals : Nat -> Value) w', w0.grownBy w' none -> (∀ i, i < m -> V i (vals i) w') -> (∀ j k, j ≠ k -> j < m -> k < m -> al j = true -> al k = true -> ∀ g, D j (vals j) w' g -> ¬ D k (vals k) w' g) -> (∀ i j, i < m -> cp i = some j -> ph i (vals j) (vals i)) ->
   WA P n ro df l N (l.length - m) (List.replicate m true ++ List.replicate (l.length - m) false) ((((List.range m).filterMap fun i => (Jm l i).map fun t => (t, vals i))) ++ L) w') : W P n ro df (.region id l.toArray true) N B L w0 := by
 have hG : Zx n l ps m [] = true := by
  unfold Zx; unfold YH at hB; simp only [List.contains_nil, Bool.false_or]; exact hB
 have hlm : m <= l.length := by simp only [YH, Bool.and_eq_true] at hB; simpa [Nat.ble_eq] using hB.1.1.1.2
 refine Jb5 m [] al cp ph ps bs V D hm hG hV hD hcp hobs fun X hX vals w' hw h1 h2 h3 q hq => ?_; obtain rfl : X = [] := by simpa [Y3] using hX
 rw [Z8 m l.length hlm] at hq ⊢; rw [Zd] at hq; subst hq; have := hN vals w' hw (fun i hi => h1 i hi rfl) (fun j k hjk hj hk => h2 j k hjk hj hk rfl rfl) (fun i j hi => h3 i j hi rfl)
 simpa using this
end Go.Proofs.Ytfeeapdpahcanaa
namespace Go.Proofs.Ytfeeapdpahcanaa
open Go.RowKit
/-! ### regions that draw their order, all of whose values are known -/
theorem Jb0 {P : Program} {n : Nat} {ro : Option Nat} {df : List Deferred} {ops : Array Oper} {o : Oper} {N N' : Ji} {L : Fr} {w : World} (h : ∀ df L w, N df L w -> N' df L w) (hw : WL P n ro df ops [o] N L w) : WL P n ro df ops [o] N' L w :=
  ⟨fun a ha B => by
    have hW := hw.out a ha B
    have f : ∀ e a w, QI n df N B e a w -> QI n df N' B e a w := by
      intro e a w hh
      cases e <;> first | exact hh | (obtain ⟨L, h1, h2⟩ := hh; exact ⟨L, h1, h _ _ _ h2⟩)
    simp only [wpListIn] at hW ⊢
    by_cases hwant : Region.wanted o (yielded ops a.tmps) = true
    . rw [if_pos hwant] at hW ⊢
      exact JY (fun a w hh => f _ _ _ hh) (fun e a w _ hh => f _ _ _ hh) hW
    . rw [if_neg hwant] at hW ⊢
      exact ⟨hW.1, f _ _ _ hW.2⟩⟩
def F0 : Nat × Value := (0, .int .i64 0)
def Yb (F : Fr) : List Nat -> Fr -> Fr
  | [], A => A
  | j :: js, A => Yb F js (F.getD j F0 :: A)
def obV (P : Program) (n : Nat) (ro : Option Nat) (df : List Deferred) (l : List Oper) (F : Fr) (w0 : World) (i : Nat) (o : Oper) (p : Plan) (b : Fr) : Prop :=
  ∀ w, (p.pure = false -> w0.grownBy w none) -> ∀ R : Fr, WL P n ro df l.toArray [o] (fun _ L' w' => L' = F.getD i F0 :: (Yb F p.on b ++ R) /\ (if p.pure then w' = w else w.grownBy w' none)) (Yb F p.on b ++ R) w
def obsV (P : Program) (n : Nat) (ro : Option Nat) (df : List Deferred) (l : List Oper) (F : Fr) (w0 : World) (L : Fr) : Nat -> List Oper -> List Plan -> List Fr -> Prop
  | i, o :: os, p :: ps, b :: bs => (b.map (·.1) = p.slots /\ sub b L /\ obV P n ro df l F w0 i o p b) /\ obsV P n ro df l F w0 L (i + 1) os ps bs
  | _, [], [], [] => True
  | _, _, _, _ => False
def eqV (F : Fr) : Nat -> Value -> World -> Prop := fun i v _ => v = (F.getD i F0).2
theorem Zu {l : List Oper} {F : Fr} {w : World} {K : Fr -> Prop} : ∀ (js : List Nat) (A : Fr), (∀ j ∈ js, (Jm l j).getD 0 = (F.getD j F0).1) -> K (Yb F js A) -> told l (eqV F) w K js A
 | [], _, _, h => h
 | j :: js, A, hd, h => by
  intro u hu; have hu : u = (F.getD j F0).2 := hu; have e : ((Jm l j).getD 0, u) = F.getD j F0 := by rw [hd j List.mem_cons_self, hu]
  rw [e]; exact Zu js _ (fun k hk => hd k (List.mem_cons_of_mem _ hk)) h
theorem ZH {P : Program} {n : Nat} {ro : Option Nat} {df : List Deferred} {l : List Oper} {F : Fr} {w0 : World} {L : Fr} {m : Nat} (hd : ∀ j, j < m -> (Jm l j).getD 0 = (F.getD j F0).1) : ∀ (os : List Oper) (ps : List Plan) (bs : List Fr) (i : Nat), i + os.length <= m -> (∀ p ∈ ps, ∀ j ∈ p.on, j < m) ->
  obsV P n ro df l F w0 L i os ps bs -> obsA P n ro df l (fun _ => false) (fun _ => none) (fun _ v u => u = v) (eqV F) (fun _ _ _ _ => False) w0 L i os ps bs
 | [], [], [], _, _, _, _ => trivial
 | [], [], _ :: _, _, _, _, h => h.elim
 | [], _ :: _, _, _, _, _, h => h.elim
 | _ :: _, [], _, _, _, _, h => h.elim
 | _ :: _, _ :: _, [], _, _, _, h => h.elim
 | o :: os, p :: ps, b :: bs, i, hi, hp, h => by
  simp only [List.length_cons] at hi; refine ⟨⟨h.1.1, h.1.2.1, fun w hw => Zu _ _ (fun j hj => hd j (hp p List.mem_cons_self j hj)) fun R => Jb0 (fun df' L' w' ⟨h1, h2⟩ => ?_) (h.1.2.2 w hw R)⟩, ZH hd os ps bs (i + 1) (by omega) (fun q hq => hp q (List.mem_cons_of_mem _ hq)) h.2⟩; refine ⟨(F.getD i F0).2, ?_, h2, rfl, (fun h => Bool.noConfusion h), (fun j h => by cases h)⟩; rw [h1, hd i (by omega)]
theorem YP {l : List Oper} {vals : Nat -> Value} : ∀ (is : List Nat) (F : Fr), is.map (Jm l) = F.map (fun q => some q.1) -> is.map vals = F.map (·.2) -> (is.filterMap fun i => (Jm l i).map fun t => (t, vals i)) = F
 | [], [], _, _ => rfl
 | [], _ :: _, h, _ => by simp at h
 | _ :: _, [], h, _ => by simp at h
 | i :: is, (t, v) :: F, h, h' => by
  simp only [List.map_cons, List.cons.injEq] at h h'; rw [List.filterMap_cons, h.1]; simp only [Option.map_some]; rw [YP is F h.2 h'.2, h'.1]
theorem Jdf {P : Program} {n id : Nat} {ro : Option Nat} {df : List Deferred} {l : List Oper} {N : Ji} {B : Ju} {L : Fr} {w0 : World} (m : Nat) (ps : List Plan) (bs : List Fr) (F : Fr)
  (hm : P.follows .mixedOrders = true) (hB : (YH n l ps m && ps.all fun p => p.on.all (Nat.blt · m)) = true) (hlen : F.length = m) (hds : (List.range m).map (Jm l) = F.map (fun q => some q.1))
  (hobs : obsV P n ro df l F w0 L 0 (l.take m) ps bs)
  (hN : ∀ w', w0.grownBy w' none -> WA P n ro df l N (l.length - m) (List.replicate m true ++ List.replicate (l.length - m) false) (F ++ L) w') : W P n ro df (.region id l.toArray true) N B L w0 := by
 rw [Bool.and_eq_true] at hB; obtain ⟨hB, hp⟩ := hB; have hd : ∀ j, j < m -> (Jm l j).getD 0 = (F.getD j F0).1 := by
  intro j hj; have h := congrArg (fun x : List (Option Nat) => x[j]?) hds; simp only [List.getElem?_map, List.getElem?_range hj, Option.map_some] at h; rw [List.getElem?_eq_getElem (by omega : j < F.length)] at h; simp only [Option.map_some, Option.some.injEq] at h; rw [List.getD_eq_getElem?_getD, List.getElem?_eq_getElem (by omega : j < F.length), h]; rfl
 refine Jde m (fun _ => false) (fun _ => none) (fun _ v u => u = v) ps bs (eqV F) (fun _ _ _ _ => False) hm hB (fun _ _ _ _ h _ => h) (fun _ _ _ _ _ _ _ h => h) (by simp) (ZH hd _ _ _ _ (by simp [List.length_take]; omega) (fun p hp' j hj => ?_) hobs) ?_
 .have := List.all_eq_true.1 hp p hp'
  simpa [Nat.blt_eq] using List.all_eq_true.1 this j hj
 .intro vals w' hw hV _ _; rw [YP (List.range m) F hds ?_]
  .exact hN w' hw
  .refine List.ext_getElem (by simp [hlen]) fun k h1 h2 => ?_; simp only [List.getElem_map, List.getElem_range]; simp only [List.length_map, List.length_range] at h1 h2; rw [show vals k = (F.getD k F0).2 from hV k h1, List.getD_eq_getElem?_getD, List.getElem?_eq_getElem h2]; rfl
end Go.Proofs.Ytfeeapdpahcanaa
namespace Go.Proofs.Ytfeeapdpahcanaa
open Go.RowKit
theorem WA.e {P : Program} {n : Nat} {ro : Option Nat} {df : List Deferred} {l : List Oper} {N : Ji} {listed : List Bool} {L : Fr} {w : World} (h : N df L w) (hr : Region.ready .any l.toArray listed.toArray = [] := by decide +kernel) : WA P n ro df l N 0 listed L w := Jdb hr h
structure RlH (w : World) (A : Option Addr) (n k : Nat) (hs : Hs) (ls : LL) : Prop where
  out : ∃ B, Rd B w 1 A n k (Jh hs ls)
  at__ : ∀ i, i < ls.length -> ∃ B, Rd B w 1 (hs i).1 (ls.getD i []).length (hs i).2 (is (ls.getD i []))
theorem Al.heads {w : World} : ∀ {vs : List Value} {ls : LL}, Al w vs ls -> ∃ hs : Hs, vs = Jh hs ls /\ ∀ i, i < ls.length -> ∃ B, Rd B w 1 (hs i).1 (ls.getD i []).length (hs i).2 (is (ls.getD i []))
 | [], [], _ => ⟨fun _ => (none, 0), rfl, fun i hi => absurd hi (Nat.not_lt_zero i)⟩
 | v :: vs, l :: ls, ⟨⟨A, k, B, h1, h2⟩, h3⟩ => by
  obtain ⟨hs, e, h⟩ := Al.heads h3; refine ⟨fun i => match i with | 0 => (A, k) | i + 1 => hs i, ?_, ?_⟩
  .rw [Jh, List.mapIdx_cons, h1, e]; rfl
  .intro i hi; cases i with
   | zero => exact ⟨B, h2⟩
   | succ i => exact h i (by simpa using hi)
 | [], _ :: _, h => h.elim
 | _ :: _, [], h => h.elim
theorem Rl.heads {w : World} {A : Option Addr} {n k : Nat} {ls : LL} (h : Rl w A n k ls) : ∃ hs : Hs, RlH w A n k hs ls := by
 obtain ⟨B, cs, h1, h2⟩ := h.ex; obtain ⟨hs, e, h3⟩ := h2.heads; subst e; exact ⟨hs, ⟨B, h1⟩, h3⟩
section
variable {w w' : World} {A : Option Addr} {n k : Nat} {hs : Hs} {ls : LL}
theorem RlH.len (h : RlH w A n k hs ls) : ls.length = n := by
 obtain ⟨B, h1⟩ := h.out; have := h1.len; rw [Ql] at this; omega
theorem Jbx : ∀ {ls : LL} {hs : Hs}, (∀ i, i < ls.length -> ∃ B, Rd B w 1 (hs i).1 (ls.getD i []).length (hs i).2 (is (ls.getD i []))) -> Al w (Jh hs ls) ls
 | [], _, _ => trivial
 | l :: ls, hs, h => by
  simp only [Jh, List.mapIdx_cons]; obtain ⟨B, h0⟩ := h 0 (by simp); exact ⟨⟨_, _, B, rfl, h0⟩, Jbx (ls := ls) (hs := fun i => hs (i + 1)) (fun i hi => h (i + 1) (by simpa using hi))⟩
theorem RlH.rl (h : RlH w A n k hs ls) : Rl w A n k ls := by
 obtain ⟨B, h1⟩ := h.out; exact ⟨B, _, h1, Jbx h.at__⟩
theorem RlH.ext (h : RlH w A n k hs ls) (hg : w.grownBy w' none) : RlH w' A n k hs ls := by
 obtain ⟨B, h1⟩ := h.out; exact ⟨⟨B, h1.ext hg⟩, fun i hi => by obtain ⟨B, h2⟩ := h.at__ i hi; exact ⟨B, h2.ext hg⟩⟩
theorem RlH.cell (h : RlH w A n k hs ls) {I : Int} (hI : 0 <= I /\ I < (n : Nat)) : w.cell? ((JI A).add I.toNat) = some (.slice (hs I.toNat).1 (gl ls I).length (hs I.toNat).2) := by
 have hl := h.len; obtain ⟨B, h1⟩ := h.out; exact h1.at_ (Yi hs ls (by omega))
theorem ZW (h : RlH w A n k hs ls) {I : Int} (hI : 0 <= I /\ I < (n : Nat)) : Rd w.heap.size w 1 (hs I.toNat).1 (gl ls I).length (hs I.toNat).2 (is (gl ls I)) := by
  have hl := h.len
  obtain ⟨B, h1⟩ := h.at__ I.toNat (by omega)
  exact h1.norm
theorem RlH.nil (w : World) : RlH w none 0 0 (fun _ => (none, 0)) [] := ⟨⟨0, Rd.nil (by simp only [maxLen]; omega)⟩, fun i hi => absurd hi (Nat.not_lt_zero i)⟩
end
abbrev Mt := Int × LL
def gm (ms : List Mt) (i : Int) : Mt := ms.getD i.toNat (0, [])
def Am (w : World) : List Value -> List Mt -> Prop
  | [], [] => True
  | u :: v :: vs, (c, l) :: ls => u = .int .i64 c /\ (∃ A k, v = .slice A l.length k /\ Rl w A l.length k l) /\ Am w vs ls
  | _, _ => False
structure Rm (w : World) (A : Option Addr) (n k : Nat) (ms : List Mt) : Prop where
  ex : ∃ B cs, Rd B w 2 A n k cs /\ Am w cs ms
abbrev HM := Nat -> (Option Addr × Nat) × Hs
def JZ (H : HM) (ms : List Mt) : List Value := (ms.mapIdx fun i m => [Value.int .i64 m.1, .slice (H i).1.1 m.2.length (H i).1.2]).flatten
structure RmH (w : World) (A : Option Addr) (n k : Nat) (H : HM) (ms : List Mt) : Prop where
  out : ∃ B, Rd B w 2 A n k (JZ H ms)
  at__ : ∀ i, i < ms.length -> RlH w (H i).1.1 (ms.getD i (0, [])).2.length (H i).1.2 (H i).2 (ms.getD i (0, [])).2
theorem JF (H : HM) (m : Mt) (ms : List Mt) : JZ H (m :: ms) = .int .i64 m.1 :: .slice (H 0).1.1 m.2.length (H 0).1.2 :: JZ (fun i => H (i + 1)) ms := by
 simp [JZ, List.mapIdx_cons]
theorem QY : ∀ (ms : List Mt) (H : HM), (JZ H ms).length = ms.length * 2
 | [], _ => rfl
 | m :: ms, H => by rw [JF, List.length_cons, List.length_cons, QY ms, List.length_cons]; omega
theorem Yg : ∀ (ms : List Mt) (H : HM) (i : Nat), i < ms.length -> (JZ H ms)[i * 2]? = some (.int .i64 (ms.getD i (0, [])).1) /\ (JZ H ms)[i * 2 + 1]? = some (.slice (H i).1.1 (ms.getD i (0, [])).2.length (H i).1.2)
 | [], _, i, h => absurd h (Nat.not_lt_zero i)
 | m :: ms, H, 0, _ => by rw [JF]; exact ⟨rfl, rfl⟩
 | m :: ms, H, i + 1, h => by
  rw [JF, show (i + 1) * 2 = i * 2 + 1 + 1 by omega]; exact Yg ms (fun i => H (i + 1)) i (by simpa using h)
theorem Am.heads {w : World} : ∀ {ms : List Mt} {vs : List Value}, Am w vs ms -> ∃ H : HM, vs = JZ H ms /\ ∀ i, i < ms.length -> RlH w (H i).1.1 (ms.getD i (0, [])).2.length (H i).1.2 (H i).2 (ms.getD i (0, [])).2
 | [], [], _ => ⟨fun _ => ((none, 0), fun _ => (none, 0)), rfl, fun i hi => absurd hi (Nat.not_lt_zero i)⟩
 | (c, l) :: ms, u :: v :: vs, ⟨h1, ⟨A, k, h2, h3⟩, h4⟩ => by
  obtain ⟨H, e, h⟩ := Am.heads h4; obtain ⟨hs, h5⟩ := h3.heads; refine ⟨fun i => match i with | 0 => ((A, k), hs) | i + 1 => H i, ?_, ?_⟩
  .rw [JF, h1, h2, e]
  .intro i hi; cases i with
   | zero => exact h5
   | succ i => exact h i (by simpa using hi)
 | (_, _) :: _, [], h => absurd h (by simp [Am])
 | (_, _) :: _, [_], h => absurd h (by simp [Am])
 | [], _ :: _, h => absurd h (by simp [Am])
theorem Rm.heads {w : World} {A : Option Addr} {n k : Nat} {ms : List Mt} (h : Rm w A n k ms) : ∃ H, RmH w A n k H ms := by
 obtain ⟨B, cs, h1, h2⟩ := h.ex; obtain ⟨H, e, h3⟩ := h2.heads; subst e; exact ⟨H, ⟨B, h1⟩, h3⟩
section
variable {w w' : World} {A : Option Addr} {n k : Nat} {H : HM} {ms : List Mt}
theorem RmH.len (h : RmH w A n k H ms) : ms.length = n := by
 obtain ⟨B, h1⟩ := h.out; have := h1.len; rw [QY] at this; omega
theorem RmH.ext (h : RmH w A n k H ms) (hg : w.grownBy w' none) : RmH w' A n k H ms := by
 obtain ⟨B, h1⟩ := h.out; exact ⟨⟨B, h1.ext hg⟩, fun i hi => (h.at__ i hi).ext hg⟩
theorem am_of : ∀ {ms : List Mt} {H : HM}, (∀ i, i < ms.length -> RlH w (H i).1.1 (ms.getD i (0, [])).2.length (H i).1.2 (H i).2 (ms.getD i (0, [])).2) -> Am w (JZ H ms) ms
 | [], _, _ => trivial
 | (c, l) :: ms, H, h => by
  rw [JF]; exact ⟨rfl, ⟨_, _, rfl, (h 0 (by simp)).rl⟩, am_of (ms := ms) (H := fun i => H (i + 1)) (fun i hi => h (i + 1) (by simpa using hi))⟩
theorem RmH.rm (h : RmH w A n k H ms) : Rm w A n k ms := by
 obtain ⟨B, h1⟩ := h.out; exact ⟨B, _, h1, am_of h.at__⟩
theorem Rm.ext (h : Rm w A n k ms) (hg : w.grownBy w' none) : Rm w' A n k ms := by
 obtain ⟨H, h⟩ := h.heads; exact (h.ext hg).rm
theorem Rm.len (h : Rm w A n k ms) : ms.length = n := by
 obtain ⟨H, h⟩ := h.heads; exact h.len
theorem RmH.row (h : RmH w A n k H ms) {I : Int} (hI : 0 <= I /\ I < (n : Nat)) : RlH w (H I.toNat).1.1 (gm ms I).2.length (H I.toNat).1.2 (H I.toNat).2 (gm ms I).2 := h.at__ _ (by have := h.len; omega)
theorem RmH.cells (h : RmH w A n k H ms) {I : Int} (hI : 0 <= I /\ I < (n : Nat)) : Rd w.heap.size w 2 (some ((JI A).add (I.toNat * 2))) 1 1 [.int .i64 (gm ms I).1, .slice (H I.toNat).1.1 (gm ms I).2.length (H I.toNat).1.2] := by
  have hl := h.len
  obtain ⟨B, h1⟩ := h.out
  obtain ⟨ad, e, h2, h3⟩ := (h1.norm).cells (by omega)
  subst e
  obtain ⟨c1, c2⟩ := Yg ms H I.toNat (by omega)
  refine ⟨rfl, Nat.le_refl _, by simp [maxLen], fun _ => ⟨_, rfl, by rw [JM]; exact h2, fun j u hj => ?_⟩⟩
  rw [ZT]
  match j with
  | 0 => cases hj; exact h3 _ _ c1
  | 1 => cases hj; exact h3 _ _ c2
  | j + 2 => simp at hj
end
section
variable {w w' : World} {A : Option Addr} {eS eI m c : Nat} {hs : Hs} {ls : LL} {b : Nat} {mr : Option Nat}
end
section
variable {X : World -> Prop} {w0 w w' wS : World} {mr : Option Nat} {R R0 : List Rw} {eS eI m c : Nat} {A : Option Addr} {hs : Hs} {ls : LL}
theorem St.n0 (h : St X w0 mr w ([] ++ R)) : St X w0 mr w R := h
theorem St.n1 {a : Rw} (h : St X w0 mr w ([a] ++ R)) : St X w0 mr w (a :: R) := h
def Tl (R0 R : List Rw) : Prop := ∃ L, R = L ++ R0
theorem Tl.mem (h : Tl R0 R) {r : Rw} (hr : r ∈ R0) : r ∈ R := by obtain ⟨L, rfl⟩ := h; exact List.mem_append_right _ hr
end
section
variable {P : Program} {n : Nat} {ro : Option Nat} {df : List Deferred} {N : Ji} {L : Fr} {w w0 : World} {ops : Array Oper} {rest : List Oper}
variable {d : Nat} {ty : TypeId} {pos : String} {af : Array Edge} {X : World -> Prop} {mr : Option Nat} {R : List Rw} {eS eI m c : Nat} {A : Option Addr} {hs : Hs} {ls : LL}
end
theorem Rm.nil (w : World) : Rm w none 0 0 [] := ⟨0, [], Rd.nil (by simp only [maxLen]; omega), trivial⟩
theorem Ja0 {w : World} {A : Option Addr} {n k : Nat} {ls : LL} (h : Rl w A n k ls) {J : Int} (hJ : 0 <= J /\ J <= (n : Nat)) : J.toNat = (ls.take J.toNat).length := by
 have := h.len; rw [List.length_take]; omega
theorem Al.take {w : World} : ∀ {vs : List Value} {ls : LL} (k : Nat), Al w vs ls -> Al w (vs.take k) (ls.take k)
 | [], [], k, _ => by simp [Al]
 | v :: vs, l :: ls, 0, _ => trivial
 | v :: vs, l :: ls, k + 1, h => ⟨h.1, Al.take k h.2⟩
 | [], _ :: _, _, h => h.elim
 | _ :: _, [], _, h => h.elim
theorem Rl.take {w : World} {A : Option Addr} {n k : Nat} {ls : LL} (h : Rl w A n k ls) {J : Int} (hJ : 0 <= J /\ J <= (n : Nat)) : Rl w A (ls.take J.toNat).length k (ls.take J.toNat) := by
 have hl := Ja0 h hJ; obtain ⟨B, cs, h1, h2⟩ := h.ex; have h3 := h1.take (k := J.toNat) (by omega); rw [Nat.mul_one] at h3; rw [<- hl]; exact ⟨B, _, h3, h2.take _⟩
end Go.Proofs.Ytfeeapdpahcanaa
namespace Go.Proofs.Ytfeeapdpahcanaa
open Go.RowKit
/-! ### many plain steps as one -/
def opv (L : Fr) : Op -> Option Value
  | .move x => ev L x
  | .assign x => ev L x
  | .pick c x y => match ev L c with
    | some (.bool b) => ev L (bif b then x else y)
    | _ => none
  | .extract x i => match ev L x with
    | some (.tuple vs) => vs[i]?
    | _ => none
  | .unOp .not _ x => match ev L x with
    | some (.bool b) => some (.bool !b)
    | _ => none
  | .binOp .lss _ x y _ => match ev L x, ev L y with
    | some (.int .i64 a), some (.int .i64 b) => some (.bool (decide (a < b)))
    | _, _ => none
  | .binOp .leq _ x y _ => match ev L x, ev L y with
    | some (.int .i64 a), some (.int .i64 b) => some (.bool (decide (a <= b)))
    | _, _ => none
  | .binOp .gtr _ x y _ => match ev L x, ev L y with
    | some (.int .i64 a), some (.int .i64 b) => some (.bool (decide (b < a)))
    | _, _ => none
  | .binOp .geq _ x y _ => match ev L x, ev L y with
    | some (.int .i64 a), some (.int .i64 b) => some (.bool (decide (b <= a)))
    | _, _ => none
  | .binOp .eql _ x y _ => match ev L x, ev L y with
    | some (.int .i64 a), some (.int .i64 b) => some (.bool (decide (a = b)))
    | _, _ => none
  | .binOp .neq _ x y _ => match ev L x, ev L y with
    | some (.int .i64 a), some (.int .i64 b) => some (.bool (decide (a ≠ b)))
    | _, _ => none
  | .nilCheck x => match ev L x with
    | some (.pointer (some p)) => some (.pointer (some p))
    | _ => none
  | _ => none
inductive Stp
  | val (L : Fr)
  | opr (o : Oper)
  | no
def stp (all : Array Oper) (n : Nat) (L : Fr) : Oper -> Stp
  | ⟨some d, op, ty, ps, af, some (j, want)⟩ => match (all[j]?.bind (·.dst)).bind (lk L) with
    | some (.bool b) => bif b == want then .opr ⟨some d, op, ty, ps, af, none⟩ else bif Nat.blt d n then .val ((d, undef) :: L) else .no
    | _ => .no
  | ⟨some d, op, ty, ps, af, none⟩ => match opv L op with
    | some v => bif Nat.blt d n then .val ((d, v) :: L) else .no
    | none => .no
  | _ => .no
inductive Gs
  | C (c : Code)
  | R (all : Array Oper) (rest : List Oper)
section
variable (P : Program) (n : Nat) (ro : Option Nat) (df : List Deferred) (N : Ji) (B : Ju)
def Ns : List Code -> Ji
  | [] => N
  | c :: st => fun df L w => W P n ro df c (Ns st) B L w
def goS (w : World) : Nat -> List Code -> Gs -> Fr -> Prop
  | 0, st, .C c, L => W P n ro df c (Ns P n ro N B st) B L w
  | 0, st, .R all rest, L => WL P n ro df all rest (Ns P n ro N B st) L w
  | k + 1, st, .C (.seq a b), L => goS w k (b :: st) (.C a) L
  | k + 1, st, .C (.region _ ops false), L => goS w k st (.R ops ops.toList) L
  | k + 1, b :: st, .C .skip, L => goS w k st (.C b) L
  | _ + 1, [], .C .skip, L => N df L w
  | _ + 1, [], .R _ [], L => N df L w
  | k + 1, b :: st, .R _ [], L => goS w k st (.C b) L
  | k + 1, st, .R all (o :: rest), L => match stp all n L o with
    | .val L' => goS w k st (.R all rest) L'
    | .opr o' => goS w k st (.R all (o' :: rest)) L
    | .no => False
  | _, _, _, _ => False
end
section
variable {P : Program} {n : Nat} {ro : Option Nat} {df : List Deferred} {N : Ji} {B : Ju} {L : Fr} {w : World} {all : Array Oper} {rest : List Oper}
theorem Qz {d : Nat} {op : Op} {ty : TypeId} {ps : String} {af : Array Edge} {v : Value} (hv : opv L op = some v) (hn : Nat.blt d n = true) (h : WL P n ro df all rest N ((d, v) :: L) w) :
  WL P n ro df all (⟨some d, op, ty, ps, af, none⟩ :: rest) N L w := by
 unfold opv at hv; split at hv
 .exact Jg hv hn h
 .exact Jaf hv hn h
 .split at hv
  .rename_i hc; exact WL.pick hc hv hn h
  .cases hv
 .split at hv
  .rename_i hc; exact Zn hc hv hn h
  .cases hv
 .split at hv
  .rename_i hc; cases hv; exact Jbz hc hn h
  .cases hv
 .split at hv
  .rename_i h1 h2; cases hv; exact QM h1 h2 hn h
  .cases hv
 .split at hv
  .rename_i h1 h2; cases hv; exact Jc8 h1 h2 hn h
  .cases hv
 .split at hv
  .rename_i h1 h2; cases hv; exact Yz h1 h2 hn h
  .cases hv
 .split at hv
  .rename_i h1 h2; cases hv; exact Jc9 h1 h2 hn h
  .cases hv
 .split at hv
  .rename_i h1 h2; cases hv; exact YA h1 h2 hn h
  .cases hv
 .split at hv
  .rename_i h1 h2; cases hv; exact Jc5 h1 h2 hn h
  .cases hv
 .split at hv
  .rename_i h1; cases hv; exact YW h1 hn h
  .cases hv
 .cases hv
theorem stp_ok {o : Oper} : (∀ L', stp all n L o = .val L' -> WL P n ro df all rest N L' w -> WL P n ro df all (o :: rest) N L w) /\ (∀ o', stp all n L o = .opr o' -> WL P n ro df all (o' :: rest) N L w -> WL P n ro df all (o :: rest) N L w) := by
 obtain ⟨dst, op, ty, ps, af, g⟩ := o; cases dst with
 | none => exact ⟨fun _ h => by simp [stp] at h, fun _ h => by simp [stp] at h⟩
 | some d =>
  cases g with
  | none =>
   refine ⟨fun L' h hw => ?_, fun o' h => ?_⟩
   .simp only [stp] at h; split at h
    .rename_i v hv
     cases hn : Nat.blt d n <;> rw [hn] at h
     .cases h
     .cases h; exact Qz hv hn hw
    .cases h
   .simp only [stp] at h; split at h
    .cases hn : Nat.blt d n <;> rw [hn] at h <;> cases h
    .cases h
  | some jw =>
   obtain ⟨j, want⟩ := jw; refine ⟨fun L' h hw => ?_, fun o' h hw => ?_⟩
   .simp only [stp] at h; split at h
    .rename_i b hb
     cases hbw : (b == want) <;> rw [hbw] at h
     .cases hn : Nat.blt d n <;> rw [hn] at h
      .cases h
      .cases h; exact ZU hb hbw hn hw
     .cases h
    .cases h
   .simp only [stp] at h; split at h
    .rename_i b hb
     cases hbw : (b == want) <;> rw [hbw] at h
     .cases hn : Nat.blt d n <;> rw [hn] at h <;> cases h
     .cases h; have e : b = want := by simpa using hbw
      subst e; exact WL.take hb hw
    .cases h
def Gs.prop (P : Program) (n : Nat) (ro : Option Nat) (df : List Deferred) (N : Ji) (B : Ju) (L : Fr) (w : World) (st : List Code) : Gs -> Prop
  | .C c => W P n ro df c (Ns P n ro N B st) B L w
  | .R all rest => WL P n ro df all rest (Ns P n ro N B st) L w
theorem J8 : ∀ (k : Nat) (st : List Code) (s : Gs) (L : Fr), goS P n ro df N B w k st s L -> s.prop P n ro df N B L w st
 | 0, _, .C _, _, h => h
 | 0, _, .R _ _, _, h => h
 | k + 1, st, .C (.seq a b), L, h => JO (J8 k (b :: st) (.C a) L h)
 | k + 1, st, .C (.region i ops false), L, h => by
  have := J8 k st (.R ops ops.toList) L h; have := YX (B := B) (id := i) (l := ops.toList) this; exact this
 | k + 1, b :: st, .C .skip, L, h => Jf (J8 k st (.C b) L h)
 | _ + 1, [], .C .skip, L, h => Jf h
 | _ + 1, [], .R _ [], L, h => Je h
 | k + 1, b :: st, .R _ [], L, h => Je (J8 k st (.C b) L h)
 | k + 1, st, .R all (o :: rest), L, h => by
  have hs := stp_ok (P := P) (ro := ro) (df := df) (N := Ns P n ro N B st) (w := w) (all := all) (n := n) (L := L) (o := o) (rest := rest); unfold goS at h; split at h
  .rename_i L' e; exact hs.1 L' e (J8 k st (.R all rest) L' h)
  .rename_i o' e; exact hs.2 o' e (J8 k st (.R all (o' :: rest)) L h)
  .exact h.elim
/-- k plain steps. -/
theorem Jb {c : Code} (k : Nat) (h : goS P n ro df N B w k [] (.C c) L) : W P n ro df c N B L w := J8 k [] (.C c) L h
theorem Ja (k : Nat) (h : goS P n ro df N (fun _ _ _ _ => False) w k [] (.R all rest) L) : WL P n ro df all rest N L w := J8 k [] (.R all rest) L h
end
end Go.Proofs.Ytfeeapdpahcanaa
namespace Go.Proofs.Ytfeeapdpahcanaa
open Go.RowKit
structure SInv (n : Nat) (df : List Deferred) (l : List Oper) (F : Fr) (q : Nat -> Option Nat) (T : Nat) (G : Nat -> World -> Prop) (L : Fr) (d : Nat -> Bool) (a : Act) (w : World) : Prop where
  nd : a.defers = df
  sz : a.tmps.size = n
  old : ∀ t v, lk L t = some v -> (∀ k, d k = true -> Jm l k ≠ some t) -> a.tmps[t]? = some v
  new : ∀ k t, d k = true -> Jm l k = some t -> a.tmps[t]? = some (F.getD k F0).2
  st : ∃ s, s <= T /\ G s w /\ ∀ i r, i < l.length -> q i = some r -> (d i = true ↔ r < s)
  cl : ∀ k, d k = true -> ∀ j ∈ Jr l k, d j = true
  lt : ∀ k, d k = true -> k < l.length
end Go.Proofs.Ytfeeapdpahcanaa
namespace Go.Proofs.Ytfeeapdpahcanaa
open Go.RowKit
section
variable {P : Program} {n : Nat} {ro : Option Nat} {df : List Deferred} {N : Ji} {L : Fr} {w : World} {ops : Array Oper} {rest : List Oper}
variable {d : Nat} {ty : TypeId} {pos : String} {af : Array Edge}
end
end Go.Proofs.Ytfeeapdpahcanaa
namespace Go.Proofs.Ytfeeapdpahcanaa
open Go.RowKit
/-! ### regions that draw their order: known values beside values with memory -/
/-- What an operation yields into its slot: a known value, or one that something is known of. -/
inductive Ent
  | k (d : Nat) (v : Value)
  | m (d : Nat) (Pr : Value -> World -> Prop) (h : ∀ v w1 w2, Pr v w1 -> w1.grownBy w2 none -> Pr v w2)
def Ent.val : Ent -> Value -> Value
  | .k _ v, _ => v
  | .m _ _ _, u => u
/-- A row of the call's own, in a value made of it. -/
def eO (w : World) (d e m : Nat) (f : Option Addr -> Nat -> Value) (cs : List Value) : Ent :=
  .m d (fun v wQ => ∃ A k, v = f A k /\ Own 0 wQ e 1 A m k cs /\ ∀ g, bl A = some g -> w.heap.size <= g) fun _ _ _ ⟨A, k, h1, h2, h3⟩ hg => ⟨A, k, h1, h2.ext hg, h3⟩
def eS (w : World) (d e m : Nat) (cs : List Value) : Ent := eO w d e m (fun A k => .slice A m k) cs
def Zl (L : Fr) : List Nat -> Fr
  | [] => []
  | t :: ts => (t, (lk L t).getD (.int .i64 0)) :: Zl L ts
theorem Q2 (L : Fr) : ∀ ts : List Nat, (Zl L ts).map (·.1) = ts
 | [] => rfl
 | t :: ts => by simp [Zl, Q2 L ts]
theorem YU (L : Fr) : ∀ ts : List Nat, (ts.all fun t => (lk L t).isSome) = true -> sub (Zl L ts) L
 | [], _ => trivial
 | t :: ts, h => by
  simp only [List.all_cons, Bool.and_eq_true] at h; refine ⟨?_, YU L ts h.2⟩; cases e : lk L t with
  | none => rw [e] at h; exact absurd h.1 (by simp)
  | some v => rfl
def obsW (P : Program) (n : Nat) (ro : Option Nat) (df : List Deferred) (l : List Oper) (F : Fr) (w0 : World) (L : Fr) : Nat -> List Oper -> List Plan -> Prop
  | i, o :: os, p :: ps => obV P n ro df l F w0 i o p (Zl L p.slots) /\ obsW P n ro df l F w0 L (i + 1) os ps
  | _, [], [] => True
  | _, _, _ => False
theorem ZE {P : Program} {n : Nat} {ro : Option Nat} {df : List Deferred} {l : List Oper} {F : Fr} {w0 : World} {L : Fr} : ∀ (os : List Oper) (ps : List Plan) (i : Nat), (∀ p ∈ ps, (p.slots.all fun t => (lk L t).isSome) = true) -> obsW P n ro df l F w0 L i os ps -> obsV P n ro df l F w0 L i os ps (ps.map fun p => Zl L p.slots)
 | [], [], _, _, _ => trivial
 | [], _ :: _, _, _, h => h.elim
 | _ :: _, [], _, _, h => h.elim
 | _ :: os, p :: ps, i, hs, h => ⟨⟨Q2 _ _, YU _ _ (hs p List.mem_cons_self), h.1⟩, ZE os ps (i + 1) (fun q hq => hs q (List.mem_cons_of_mem _ hq)) h.2⟩
theorem QN {P : Program} {n id : Nat} {ro : Option Nat} {df : List Deferred} {l : List Oper} {N : Ji} {B : Ju} {L : Fr} {w0 : World} (m : Nat) (ps : List Plan) (F : Fr)
  (hm : P.follows .mixedOrders = true) (hB : (YH n l ps m && ps.all fun p => p.on.all (Nat.blt · m)) = true) (hds : (List.range m).map (Jm l) = F.map (fun q => some q.1)) (hk : (ps.all fun p => p.slots.all fun t => (lk L t).isSome) = true)
  (hobs : obsW P n ro df l F w0 L 0 (l.take m) ps)
  (hN : ∀ w', w0.grownBy w' none -> WA P n ro df l N (l.length - m) (List.replicate m true ++ List.replicate (l.length - m) false) (F ++ L) w') : W P n ro df (.region id l.toArray true) N B L w0 :=
 Jdf m ps (ps.map fun p => Zl L p.slots) F hm hB (by have := congrArg List.length hds; simpa using this.symm) hds (ZE _ _ 0 (fun p hp => List.all_eq_true.1 hk p hp) hobs) hN
end Go.Proofs.Ytfeeapdpahcanaa
namespace Go.Proofs.Ytfeeapdpahcanaa
open Go.RowKit
/-! ### shorter words for values and pieces -/
abbrev nI (x : Int) : Value := .int .i64 x
abbrev nS {α : Type} (A : Option Addr) (x : List α) (k : Nat) : Value := .slice A x.length k
abbrev nR (e : Nat) (A : Option Addr) (x : LI) (k : Nat) : Rw := .row e 1 A x.length k (is x)
section
variable {P : Program} {n : Nat} {ro : Option Nat} {df : List Deferred} {N : Ji} {L : Fr} {w w0 : World} {ops : Array Oper} {rest : List Oper}
variable {d : Nat} {ty : TypeId} {pos : String} {af : Array Edge} {X : World -> Prop} {mr : Option Nat} {R : List Rw}
end
/-! ### plain operations of a pool, by their value -/
def Z1 (all : Array Oper) (n : Nat) (L : Fr) : Oper -> Option (Nat × Value)
  | ⟨some d, op, _, _, _, some (j, want)⟩ => match (all[j]?.bind (·.dst)).bind (lk L) with
    | some (.bool b) => bif b == want then (opv L op).bind (fun v => bif Nat.blt d n then some (d, v) else none) else bif Nat.blt d n then some (d, undef) else none
    | some (.tuple ⟨[]⟩) => bif Nat.blt d n then some (d, undef) else none
    | _ => none
  | ⟨some d, op, _, _, _, none⟩ => (opv L op).bind fun v => bif Nat.blt d n then some (d, v) else none
  | _ => none
theorem Jcg {P : Program} {n : Nat} {ro : Option Nat} {df : List Deferred} {N : Ji} {L : Fr} {w : World} {all : Array Oper} {o : Oper} {q : Nat × Value} (h : Z1 all n L o = some q) (hN : N df (q :: L) w) : WL P n ro df all [o] N L w := by
 obtain ⟨dst, op, ty, ps, af, g⟩ := o; cases dst with
 | none => simp [Z1] at h
 | some d =>
  cases g with
  | none =>
   simp only [Z1] at h; cases hv : opv L op with
   | none => rw [hv] at h; simp at h
   | some v =>
    rw [hv] at h; cases hn : Nat.blt d n <;> simp [hn] at h; subst h; exact Qz hv hn (Je hN)
  | some jw =>
   obtain ⟨j, want⟩ := jw; simp only [Z1] at h; split at h
   .rename_i b hb
    cases hbw : (b == want) <;> rw [hbw] at h
    .cases hn : Nat.blt d n <;> simp [hn] at h; subst h; exact ZU hb hbw hn (Je hN)
    .have e : b = want := by simpa using hbw
     subst e; simp only [cond_true] at h; cases hv : opv L op with
     | none => rw [hv] at h; simp at h
     | some v =>
      rw [hv] at h; cases hn : Nat.blt d n <;> simp [hn] at h; subst h; exact WL.take hb (Qz hv hn (Je hN))
   .rename_i hb
    cases hn : Nat.blt d n <;> simp [hn] at h; subst h; exact JU hb hn (Je hN)
   .cases h
theorem oA {P : Program} {n : Nat} {ro : Option Nat} {df : List Deferred} {l : List Oper} {F : Fr} {w0 : World} {i : Nat} {o : Oper} {p : Plan} {b : Fr} (h : ∀ R, Z1 l.toArray n (Yb F p.on b ++ R) o = some (F.getD i F0)) : obV P n ro df l F w0 i o p b := fun w _ R => Jcg (h R) ⟨rfl, by
 cases p.pure
 .exact JH _
 .rfl⟩
theorem St.fin {w0 w : World} {R : List Rw} {K : List Rw -> Prop} (h : St TT w0 none w R) (hr : R.all (fun r => !r.isRo) = true) (hk : K R) : ∃ Q, w0.grownBy w none /\ Rows w0.heap.size none w Q /\ News w0.heap.size Q /\ K Q := ⟨R, h.ext, h.rows, JR h.rows hr, hk⟩
theorem oT {p : Prop} [Decidable p] (h : decide p = true) : p := of_decide_eq_true h
theorem oF {p : Prop} [Decidable p] (h : decide p = false) : ¬ p := of_decide_eq_false h
theorem og {X : World -> Prop} {w0 wa : World} {mr : Option Nat} {R : List Rw} {G : World -> Fr -> Prop} (hS : St X w0 mr wa R) (h : ∀ w B, St X w0 mr w R -> G w B) : ∀ w, (false = false -> wa.grownBy w none) -> ∀ B, G w B := fun w hE B => h w B (hS.grow (hE rfl))
theorem oD {P : Program} {n : Nat} {ro : Option Nat} {df : List Deferred} {l : List Oper} {F : Fr} {w0 : World} {i : Nat} {o : Oper} {p : Plan} {b : Fr} (h : ∀ R, Z1 l.toArray n (Yb F p.on b ++ R) o = some (F.getD i F0) := by exact fun _ => rfl) : obV P n ro df l F w0 i o p b := oA h
end Go.Proofs.Ytfeeapdpahcanaa
namespace Go.Proofs.Ytfeeapdpahcanaa
open Go.RowKit
/-! ### lists of lists some of whose rows came in -/
/-- The rows by themselves. -/
def RlR (w : World) (hs : Hs) (ls : LL) : Prop := ∀ i, i < ls.length -> ∃ B, Rd B w 1 (hs i).1 (ls.getD i []).length (hs i).2 (is (ls.getD i []))
theorem RlR.ext {w w' : World} {hs : Hs} {ls : LL} (h : RlR w hs ls) (hg : w.grownBy w' none) : RlR w' hs ls := fun i hi => by obtain ⟨B, h2⟩ := h i hi; exact ⟨B, h2.ext hg⟩
theorem RlR.nil (w : World) (hs : Hs) : RlR w hs [] := fun i hi => absurd hi (Nat.not_lt_zero i)
theorem RlR.append {w : World} {hs hs' : Hs} {ls ls' : LL} (h : RlR w hs ls) (h' : RlR w hs' ls') : RlR w (QJ ls.length hs hs') (ls ++ ls') := fun i hi => by
 rw [List.length_append] at hi; rcases Nat.lt_or_ge i ls.length with hl | hl
 .have e1 : (ls ++ ls').getD i [] = ls.getD i [] := by rw [List.getD_eq_getElem?_getD, List.getElem?_append_left hl, <- List.getD_eq_getElem?_getD]
  have e2 : QJ ls.length hs hs' i = hs i := by unfold QJ; rw [if_pos hl]
  rw [e1, e2]; exact h i hl
 .have e1 : (ls ++ ls').getD i [] = ls'.getD (i - ls.length) [] := by rw [List.getD_eq_getElem?_getD, List.getElem?_append_right hl, <- List.getD_eq_getElem?_getD]
  have e2 : QJ ls.length hs hs' i = hs' (i - ls.length) := by unfold QJ; rw [if_neg (by omega)]
  rw [e1, e2]; exact h' _ (by omega)
theorem RlR.rl {w : World} {A : Option Addr} {n k B : Nat} {hs : Hs} {ls : LL} (h : RlR w hs ls) (hA : Rd B w 1 A n k (Jh hs ls)) : Rl w A n k ls := RlH.rl ⟨⟨B, hA⟩, h⟩
theorem RlH.rows {w : World} {A : Option Addr} {n k : Nat} {hs : Hs} {ls : LL} (h : RlH w A n k hs ls) : RlR w hs ls := h.at__
theorem RlR.inr {w : World} {eI : Nat} {hs : Hs} {ls : LL} (h : Rows 0 none w (inr eI hs ls)) : RlR w hs ls := fun i hi => by
 have := (h.get (Ja9 eI hs ls hi)).1.rd; exact ⟨_, this⟩
section
variable {P : Program} {n : Nat} {ro : Option Nat} {df : List Deferred} {N : Ji} {L : Fr} {w w0 : World} {ops : Array Oper} {rest : List Oper}
variable {d : Nat} {ty : TypeId} {pos : String} {af : Array Edge} {X : World -> Prop} {mr : Option Nat} {R : List Rw} {eI m c : Nat} {A : Option Addr} {hs : Hs} {ls : LL}
end
/-! ### lists of lists of lists -/
abbrev HZ := Nat -> (Option Addr × Nat) × Hs
def zcells (H : HZ) (zs : List LL) : List Value := zs.mapIdx fun i l => .slice (H i).1.1 l.length (H i).1.2
structure Rll (w : World) (A : Option Addr) (n k : Nat) (H : HZ) (zs : List LL) : Prop where
  out : ∃ B, Rd B w 1 A n k (zcells H zs)
  at__ : ∀ i, i < zs.length -> RlH w (H i).1.1 (zs.getD i []).length (H i).1.2 (H i).2 (zs.getD i [])
theorem Rll.ext {w w' : World} {A : Option Addr} {n k : Nat} {H : HZ} {zs : List LL} (h : Rll w A n k H zs) (hg : w.grownBy w' none) : Rll w' A n k H zs := by
 obtain ⟨B, h1⟩ := h.out; exact ⟨⟨B, h1.ext hg⟩, fun i hi => (h.at__ i hi).ext hg⟩
end Go.Proofs.Ytfeeapdpahcanaa
namespace Go.Proofs.Ytfeeapdpahcanaa
open Go.RowKit
theorem WA.sub {P : Program} {n : Nat} {ro : Option Nat} {df : List Deferred} {l : List Oper} {N : Ji} {q : Nat} {li : List Bool} {L M : Fr} {w : World} (hs : sub M L) (h : WA P n ro df l N q li M w) : WA P n ro df l N q li L w := ⟨fun a ha B => h.out a (ha.sub hs) B⟩
end Go.Proofs.Ytfeeapdpahcanaa
namespace Go.Proofs.Ytfeeapdpahcanaa
open Go.RowKit
/-! ### what is behind a place of a list of lists -/
theorem Al.drop {w : World} : ∀ {vs : List Value} {ls : LL} (k : Nat), Al w vs ls -> Al w (vs.drop k) (ls.drop k)
  | [], [], k, _ => by simp [Al]
  | v :: vs, l :: ls, 0, h => h
  | v :: vs, l :: ls, k + 1, h => Al.drop (vs := vs) (ls := ls) k h.2
  | [], _ :: _, _, h => h.elim
  | _ :: _, [], _, h => h.elim
theorem Rl.drop {w : World} {A : Option Addr} {n k : Nat} {ls : LL} (h : Rl w A n k ls) {J : Int} (hJ : 0 <= J /\ J <= (n : Nat)) : Rl w (if k = J.toNat then A else A.map (·.add (J.toNat * 1))) (n - J.toNat) (k - J.toNat) (ls.drop J.toNat) := by
 obtain ⟨B, cs, h1, h2⟩ := h.ex; have h3 := h1.drop (k := J.toNat) (by omega); have e : cs.drop (J.toNat * 1) = cs.drop J.toNat := by rw [Nat.mul_one]
 rw [e] at h3; exact ⟨B, _, h3, h2.drop _⟩
end Go.Proofs.Ytfeeapdpahcanaa
namespace Go.Proofs.Ytfeeapdpahcanaa
open Go.RowKit
end Go.Proofs.Ytfeeapdpahcanaa
namespace Go.Proofs.Ytfeeapdpahcanaa
open Go.RowKit
end Go.Proofs.Ytfeeapdpahcanaa
namespace Go.Proofs.Ytfeeapdpahcanaa
open Go.RowKit
section
variable {P : Program} {n : Nat} {ro : Option Nat} {df : List Deferred} {N : Ji} {L : Fr} {w w0 : World} {ops : Array Oper} {rest : List Oper}
variable {d : Nat} {ty : TypeId} {pos : String} {af : Array Edge} {X : World -> Prop} {mr : Option Nat} {R : List Rw} {eS eI m c : Nat} {A : Option Addr} {hs : Hs} {ls : LL}
end
end Go.Proofs.Ytfeeapdpahcanaa
namespace Go.Proofs.Ytfeeapdpahcanaa
open Go.RowKit
section
variable {P : Program} {X : World -> Prop} {n : Nat} {ro : Option Nat} {df : List Deferred} {N : Ji} {L : Fr} {w w0 : World} {mr : Option Nat} {R : List Rw} {ops : Array Oper} {rest : List Oper}
variable {d : Nat} {ty : TypeId} {pos : String} {af : Array Edge}
/-- Five ints beside one another. -/
structure F5 (P : Program) (t u : TypeId) : Prop where
  ex : ∃ f0 f1 f2 f3 f4, P.fieldsOf t = #[f0, f1, f2, f3, f4] /\ f0.offset = 0 /\ f1.offset = 1 /\ f2.offset = 2 /\ f3.offset = 3 /\ f4.offset = 4 /\ f0.type = u /\ f1.type = u /\ f2.type = u /\ f3.type = u /\ f4.type = u /\ f0.name ≠ "_" /\ f1.name ≠ "_" /\ f2.name ≠ "_" /\ f3.name ≠ "_" /\ f4.name ≠ "_"
  st : P.underlying t = some (.struct (P.fieldsOf t))
  sh : P.stoodInHeld t = false
  gd : P.eqGuardType P.depth t = false
  int : P.underlying u = some (.int .i64)
end
end Go.Proofs.Ytfeeapdpahcanaa
namespace Go.Proofs.Ytfeeapdpahcanaa
open Go.RowKit
theorem Try.mixed : Try.prog.follows .mixedOrders = true := by kernel_rfl
theorem Try.el3 : Elem Try.prog 3 1 8 (.int .i64 0) := .mk' (by kernel_rfl) rfl (by decide)
theorem Try.el4 : Elem Try.prog 4 1 1 (.bool false) := .mk' (by kernel_rfl) rfl (by decide)
theorem Try.el31 : Elem Try.prog 31 1 24 (.slice none 0 0) := .mk' (by kernel_rfl) rfl (by decide)
theorem Try.nm6 : (Try.f6.name == "runtime.NumGoroutine") = false := by kernel_rfl
theorem Try.nm9 : (Try.f9.name == "runtime.NumGoroutine") = false := by kernel_rfl
theorem Try.nm10 : (Try.f10.name == "runtime.NumGoroutine") = false := by kernel_rfl
theorem Try.nm11 : (Try.f11.name == "runtime.NumGoroutine") = false := by kernel_rfl
theorem Try.nm14 : (Try.f14.name == "runtime.NumGoroutine") = false := by kernel_rfl
theorem Try.nm15 : (Try.f15.name == "runtime.NumGoroutine") = false := by kernel_rfl
theorem Try.nm16 : (Try.f16.name == "runtime.NumGoroutine") = false := by kernel_rfl
end Go.Proofs.Ytfeeapdpahcanaa
namespace Go.Proofs.Ytfeeapdpahcanaa
open Go.RowKit
/-! ### short names -/
abbrev XE3 := Try.el3
abbrev Q3 := Try.el31
abbrev XE4 := Try.el4
abbrev XF10 := Try.func10
abbrev XF11 := Try.func11
abbrev XF14 := Try.func14
abbrev XF15 := Try.func15
abbrev XF16 := Try.func16
abbrev XF6 := Try.func6
abbrev XF9 := Try.func9
abbrev XN10 := Try.nm10
abbrev XN11 := Try.nm11
abbrev XN14 := Try.nm14
abbrev XN15 := Try.nm15
abbrev XN16 := Try.nm16
abbrev XN6 := Try.nm6
abbrev XN9 := Try.nm9
abbrev J9 := Try.underlying24
abbrev XU3 := Try.underlying3
abbrev JB := Try.underlying31
abbrev Zm := Try.underlying35
abbrev XU4 := Try.underlying4
end Go.Proofs.Ytfeeapdpahcanaa
set_option maxRecDepth 4000
set_option maxHeartbeats 4000000
namespace Go.Proofs.Ytfeeapdpahcanaa
open Go.RowKit
def JW (x : Int) (Q : Bool -> Prop) : Prop :=
  (((-2147483647 : Int) <= x) -> (Q (decide (x <= 2147483647)))) /\ (¬ ((-2147483647 : Int) <= x) -> Q false)
theorem QW {w : World} {Q : Bool -> Prop} {x : Int}  (hv : JW x Q) :
   Calls Try.prog 14 #[.int .i64 x] w <| Rt w fun v Qr => ∃ (r0 : Bool), v = .bool r0 /\ Qr = [] /\ Q r0 := by
 refine Jk <| Jl (vs := [nI x]) [2] XF14 rfl rfl rfl rfl ?_; have hS := Js w; unfold JW at hv; refine Jb 8 <| Jg rfl rfl ?_; by_cases g11 : (-2147483647 : Int) <= x
 .have hv := hv.1 g11; rw [decide_eq_true g11]; refine Ja 7 <| W.ret <| ⟨_, rfl, Fin.nil ?_⟩
  exact (hS.pick [] rfl).fin rfl ⟨(decide (x <= 2147483647)), rfl, rfl, hv⟩
 have hv := hv.2 g11; rw [decide_eq_false g11]; refine Ja 5 <| W.ret <| ⟨_, rfl, Fin.nil ?_⟩
 exact (hS.pick [] rfl).fin rfl ⟨false, rfl, rfl, hv⟩
def Q5 (x : Int) (Q : Int -> Prop) : Prop :=
  ((x < 0) -> ((I64 (-x)) /\ (Q (-x)))) /\ (¬ (x < 0) -> Q x)
theorem ZD {w : World} {Q : Int -> Prop} {x : Int}  (hv : Q5 x Q) :
   Calls Try.prog 16 #[.int .i64 x] w <| Rt w fun v Qr => ∃ (r0 : Int), v = .int .i64 r0 /\ Qr = [] /\ Q r0 := by
 refine Jk <| Jl (vs := [nI x]) [2] XF16 rfl rfl rfl rfl ?_; have hS := Js w; unfold Q5 at hv; refine Jb 10 <| Jd rfl (fun c11 => ?_) (fun c11 => ?_)
 .have hv := hv.1 (oT c11); refine Jb 3 ?_; obtain ⟨o12, hv⟩ := hv; refine WL.neg (r := (-x)) rfl (wrn o12) rfl <| Ja 2 <| W.ret <| ⟨_, rfl, Fin.nil ?_⟩
  exact (hS.pick [] rfl).fin rfl ⟨(-x), rfl, rfl, hv⟩
 have hv := hv.2 (oF c11); refine Jf <| Jb 5 <| W.ret <| ⟨_, rfl, Fin.nil ?_⟩
 exact (hS.pick [] rfl).fin rfl ⟨x, rfl, rfl, hv⟩
def QO (a : Int) (b : Int) (Q : Int × Int -> Prop) : Prop :=
  ∃ (I23 : Int -> Int -> Int -> Int -> Prop) (μ24 : Int -> Int -> Int -> Int -> Nat), I23 a b (1 : Int) (0 : Int) /\ ∀ (z19 : Int) (z20 : Int) (z21 : Int) (z22 : Int), (I23 z19 z20 z21 z22 -> (((z20 ≠ 0) -> ((z20 ≠ 0 /\ I64 (z19.tdiv z20)) /\ ((I64 ((z19.tdiv z20) * z20)) /\ ((I64 (z19 - ((z19.tdiv z20) * z20))) /\ ((I64 ((z19.tdiv z20) * z22)) /\ ((I64 (z21 - ((z19.tdiv z20) * z22))) /\ (I23 z20 (z19 - ((z19.tdiv z20) * z20)) z22 (z21 - ((z19.tdiv z20) * z22)) /\ μ24 z20 (z19 - ((z19.tdiv z20) * z20)) z22 (z21 - ((z19.tdiv z20) * z22)) < μ24 z19 z20 z21 z22))))))) /\ (¬ (z20 ≠ 0) -> (Q (z19, z21)))))
theorem Ja4 {w : World} {Q : Int × Int -> Prop} {a : Int} {b : Int}  (hv : QO a b Q) :
  Calls Try.prog 15 #[.int .i64 a, .int .i64 b] w <| Rt w fun v Qr => ∃ (r0 : Int) (r1 : Int), v = .tuple #[.int .i64 r0, .int .i64 r1] /\ Qr = [] /\ Q (r0, r1) := by
 refine Jk <| Jl (vs := [nI a, nI b]) [4, 5] XF15 rfl rfl rfl rfl ?_; have hS := Js w; unfold QO at hv; refine Jb 11 <| W.block ?_; obtain ⟨I23, μ24, hv, hk32⟩ := hv; refine JJ (σ := Int × Int × Int × Int) (fun q w1 => match q with | (z19, z20, z21, z22) => I23 z19 z20 z21 z22 /\ St TT w none w1 []) (fun (z19, z20, z21, z22) => [(0, nI z19), (1, nI z20), (4, nI 0), (5, nI 0), (6, nI z21), (7, nI z22)]) (fun (z19, z20, z21, z22) => μ24 z19 z20 z21 z22) (a, b, (1 : Int), (0 : Int)) ⟨hv, hS⟩ ⟨rfl, rfl, rfl, rfl, rfl, rfl, trivial⟩ ?_; rintro ⟨z19, z20, z21, z22⟩ w25 ⟨hv, hS⟩; have hv := hk32 z19 z20 z21 z22 hv; refine Jb 6 <| Jd rfl (fun c26 => ?_) (fun c26 => ?_)
 .have hv := hv.1 (oT c26); refine Jf <| W.block <| Jb 4 ?_; obtain ⟨o27, hv⟩ := hv; refine WL.quo (r := (z19.tdiv z20)) rfl rfl o27.1 (wr o27.2) rfl <| Ja 2 <| Jb 6 ?_; obtain ⟨o28, hv⟩ := hv; refine WL.mul (r := ((z19.tdiv z20) * z20)) rfl rfl (wr o28) rfl ?_; obtain ⟨o29, hv⟩ := hv; refine WL.sub (r := (z19 - ((z19.tdiv z20) * z20))) rfl rfl (wr o29) rfl <| Ja 3 <| Jb 5 ?_; obtain ⟨o30, hv⟩ := hv; refine WL.mul (r := ((z19.tdiv z20) * z22)) rfl rfl (wr o30) rfl ?_; obtain ⟨o31, hv⟩ := hv; refine WL.sub (r := (z21 - ((z19.tdiv z20) * z22))) rfl rfl (wr o31) rfl <| Ja 3 ?_; exact ⟨(z20, (z19 - ((z19.tdiv z20) * z20)), z22, (z21 - ((z19.tdiv z20) * z22))), sp rfl, hv.2, rfl, hv.1, hS⟩
 have hv := hv.2 (oF c26); refine JK <| Jb 7 <| W.ret <| ⟨_, rfl, Fin.nil ?_⟩
 exact (hS.pick [] rfl).fin rfl ⟨z19, z21, rfl, rfl, hv⟩
def ZV (a : Int) (b : Int) (Q : Int × Int -> Prop) : Prop :=
  JW a (fun r12 => (((!r12) = true) -> (Q ((0 : Int), (6 : Int)))) /\ ((!r12) = false -> (JW b (fun r15 => (((!r15) = true) -> (Q ((0 : Int), (6 : Int)))) /\ ((!r15) = false -> (Q5 a (fun r18 => Q5 b (fun r20 => QO r18 r20 (fun (r22, r23) => Q (r22, (0 : Int)))))))))))
theorem ok_Gcd {w : World} {Q : Int × Int -> Prop} {a : Int} {b : Int}  (hv : ZV a b Q) :
   Calls Try.prog 10 #[.int .i64 a, .int .i64 b] w <| Rt w fun v Qr => ∃ (r0 : Int) (r1 : Int), v = .tuple #[.int .i64 r0, .int .i64 r1] /\ Qr = [] /\ Q (r0, r1) := by
 refine Jk <| Jl (vs := [nI a, nI b]) [4, 5] XF10 rfl rfl rfl rfl ?_; have hS := Js w; unfold ZV at hv; refine Jb 9 <| SL.call hS (QW  hv) XF14 rfl XN14 rfl rfl ?_; rintro _ _ w11 ⟨r12, rfl, rfl, hv⟩ hGw11 hS; have hS := hS.n0; refine Jbz rfl rfl <| Jg rfl rfl ?_; rcases g13 : (!r12) with _ | _
 .have hv := hv.2 g13; refine Ja 3 <| SL.call hS (QW  hv) XF14 rfl XN14 rfl rfl ?_; rintro _ _ w14 ⟨r15, rfl, rfl, hv⟩ hGw14 hS; have hS := hS.n0; refine Ja 4 <| Jd rfl (fun c16 => ?_) (fun c16 => ?_)
  .have hv := hv.1 (c16); refine Jb 5 <| W.ret <| ⟨_, rfl, Fin.nil ?_⟩
   exact (hS.pick [] rfl).fin rfl ⟨(0 : Int), (6 : Int), rfl, rfl, hv⟩
  have hv := hv.2 (c16); refine Jf <| Jb 3 <| SL.call hS (ZD  hv) XF16 rfl XN16 rfl rfl ?_; rintro _ _ w17 ⟨r18, rfl, rfl, hv⟩ hGw17 hS; have hS := hS.n0; refine Jg rfl rfl <| SL.call hS (ZD  hv) XF16 rfl XN16 rfl rfl ?_; rintro _ _ w19 ⟨r20, rfl, rfl, hv⟩ hGw19 hS; have hS := hS.n0; refine SL.call hS (Ja4  hv) XF15 rfl XN15 rfl rfl ?_; rintro _ _ w21 ⟨r22, r23, rfl, rfl, hv⟩ hGw21 hS; have hS := hS.n0; refine Ja 6 <| Jb 6 <| W.ret <| ⟨_, rfl, Fin.nil ?_⟩
  exact (hS.pick [] rfl).fin rfl ⟨r22, (0 : Int), rfl, rfl, hv⟩
 have hv := hv.1 g13; refine Ja 5 <| JD rfl <| Jb 5 <| W.ret <| ⟨_, rfl, Fin.nil ?_⟩
 exact (hS.pick [] rfl).fin rfl ⟨(0 : Int), (6 : Int), rfl, rfl, hv⟩
def JV (a : Int) (b : Int) (Q : Int -> Prop) : Prop :=
  ∃ (I17 : Int -> Int -> Prop) (μ18 : Int -> Int -> Nat), I17 a b /\ ∀ (z15 : Int) (z16 : Int), (I17 z15 z16 -> ((((0 : Int) < z16) -> ((z16 ≠ 0) /\ (I17 z16 (z15.tmod z16) /\ μ18 z16 (z15.tmod z16) < μ18 z15 z16))) /\ (¬ ((0 : Int) < z16) -> Q z15)))
theorem QV {w : World} {Q : Int -> Prop} {a : Int} {b : Int}  (hv : JV a b Q) :
   Calls Try.prog 9 #[.int .i64 a, .int .i64 b] w <| Rt w fun v Qr => ∃ (r0 : Int), v = .int .i64 r0 /\ Qr = [] /\ Q r0 := by
 refine Jk <| Jl (vs := [nI a, nI b]) [4] XF9 rfl rfl rfl rfl ?_; have hS := Js w; unfold JV at hv; refine Jb 5 <| W.block ?_; obtain ⟨I17, μ18, hv, hk29⟩ := hv; refine JJ (σ := Int × Int) (fun q w1 => match q with | (z15, z16) => I17 z15 z16 /\ St TT w none w1 []) (fun (z15, z16) => [(0, nI z15), (1, nI z16), (4, nI 0)]) (fun (z15, z16) => μ18 z15 z16) (a, b) ⟨hv, hS⟩ ⟨rfl, rfl, rfl, trivial⟩ ?_; rintro ⟨z15, z16⟩ w19 ⟨hv, hS⟩; have hv := hk29 z15 z16 hv; refine Jb 6 <| Jd rfl (fun c20 => ?_) (fun c20 => ?_)
 .have hv := hv.1 (oT c20); refine Jf <| W.block ?_; obtain ⟨o25, hv⟩ := hv; refine QN 6 [⟨[], [1], true⟩, ⟨[], [0], true⟩, ⟨[], [1], true⟩, ⟨[1, 2], [], true⟩, ⟨[0], [], true⟩, ⟨[3], [], true⟩] [(7, nI z16), (8, nI z15), (9, nI z16), (10, nI (z15.tmod z16)), (0, nI z16), (1, nI (z15.tmod z16))] Try.mixed (by kernel_rfl) rfl rfl ?_ ?_
  .refine ⟨oD, oD, oD, fun _ _ _ => Q4 (r := (z15.tmod z16)) rfl rfl o25 rfl rfl <| Je ⟨rfl, rfl⟩, oD, oD, trivial⟩
  intro w28 hT; have hS := hS.grow hT; refine WA.e ?_; exact ⟨(z16, (z15.tmod z16)), sp rfl, hv.2, rfl, hv.1, hS⟩
 have hv := hv.2 (oF c20); refine JK <| Jb 5 <| W.ret <| ⟨_, rfl, Fin.nil ?_⟩
 exact (hS.pick [] rfl).fin rfl ⟨z15, rfl, rfl, hv⟩
end Go.Proofs.Ytfeeapdpahcanaa
namespace Go.Proofs.Ytfeeapdpahcanaa
open Go.RowKit Go.Shelf Go.Sort
/-! ### the library's sort of a row of ints of the call's own -/
def srt (l : LI) : LI := l.mergeSort fun x y => decide (x <= y)
theorem QS (l : LI) : (srt l).Perm l := List.mergeSort_perm _ _
theorem Jch (l : LI) : (srt l).length = l.length := (QS l).length_eq
theorem Jav {P : Program} {ρ : Ren} (Ly : Lays.n189 P ρ) {w : World} {e n k : Nat} {A : Option Addr} {l : LI} (h : Own 0 w e 1 A n k (is l)) (hl : l.length < 4611686018427387904) :
  Calls P (ρ.f 189) #[.slice A n k] w fun e' w' => ∃ v cs', e' = .returned v /\ w.grownBy w' (bl A) /\ Own 0 w' e 1 A n k cs' /\ v = .tuple #[] /\ cs' = is (srt l) := by
 have hn : l.length = n := h.rd.ilen; subst hn; rcases h.2 with ⟨h1, h2⟩ | ⟨g, cap, cur, h1, h2, h3, h4, h5, h6, h7⟩
 .injection h1 with hA hl0 hk; subst hA hk; have hl1 : l = [] := List.eq_nil_of_length_eq_zero hl0; subst hl1; refine (Any.slices_Sort_int_none Ly none 0 w).mono ?_; rintro _ w' ⟨rfl, rfl⟩; exact ⟨_, _, rfl, World.grownBy.refl _ _, by simpa [srt] using h, rfl, rfl⟩
 .cases h1; have hb : g < w.heap.size := by
   rcases Nat.lt_or_ge g w.heap.size with q | q
   .exact q
   .rw [Array.getElem?_eq_none q] at h3; cases h3
  refine (Any.slices_Sort_int Ly g 0 k l w (holds_of_blockI h3 (by simpa [is] using h7)) hb hl).mono ?_; rintro _ w' ⟨rfl, n, os, rfl⟩; refine ⟨_, _, rfl, grownBy_sortedI _, ?_, rfl, rfl⟩; exact ownsRow_sortedI (ss := l) (ts := srt l) (Jch l) h2 h3 h4 h5 h6
/-! ### equal neighbours in a sorted list -/
theorem Y5 (l : LI) : (srt l).Pairwise (fun x y => x <= y) := by
  have := List.pairwise_mergeSort (le := fun x y : Int => decide (x <= y)) (fun a b c h1 h2 => by simp only [decide_eq_true_eq] at *; omega) (fun a b => by simp only [Bool.or_eq_true, decide_eq_true_eq]; omega) l
  exact this.imp fun h => of_decide_eq_true h
end Go.Proofs.Ytfeeapdpahcanaa
namespace Go.Proofs.Ytfeeapdpahcanaa
open Go.RowKit Go.Shelf
/-! ### the library's sort, in this program -/
def sl_ren : Go.Shelf.Ren := ⟨fun | 189 => 11 | 125 => 18 | 257 => 17 | 128 => 28 | 129 => 29 | 294 => 19 | 295 => 20 | 296 => 21 | 297 => 22 | 298 => 23 | 299 => 24 | 216 => 25 | 300 => 26 | 301 => 27 | 328 => 30 | 329 => 31 | 330 => 32 | 331 => 33 | 332 => 34 | 215 => 35 | 343 => 36 | n => n, fun | 28 => 31 | 3 => 3 | 46 => 45 | 0 => 0 | 51 => 55 | 53 => 57 | 4 => 4 | 183 => 48 | 182 => 47 | 131 => 52 | 5 => 5 | 9 => 9 | 218 => 58 | 222 => 62 | 228 => 64 | 229 => 40 | n => n, fun | n => n⟩
theorem Jcj : Go.Proofs.Lays.n189 Try.prog sl_ren := {
 mixed := by kernel_rfl
 f125 := Try.func18.trans (congrArg some (by kernel_rfl))
 f128 := Try.func28.trans (congrArg some (by kernel_rfl))
 f129 := Try.func29.trans (congrArg some (by kernel_rfl))
 f189 := Try.func11.trans (congrArg some (by kernel_rfl))
 f215 := Try.func35.trans (congrArg some (by kernel_rfl))
 f216 := Try.func25.trans (congrArg some (by kernel_rfl))
 f257 := Try.func17.trans (congrArg some (by kernel_rfl))
 f294 := Try.func19.trans (congrArg some (by kernel_rfl))
 f295 := Try.func20.trans (congrArg some (by kernel_rfl))
 f296 := Try.func21.trans (congrArg some (by kernel_rfl))
 f297 := Try.func22.trans (congrArg some (by kernel_rfl))
 f298 := Try.func23.trans (congrArg some (by kernel_rfl))
 f299 := Try.func24.trans (congrArg some (by kernel_rfl))
 f300 := Try.func26.trans (congrArg some (by kernel_rfl))
 f301 := Try.func27.trans (congrArg some (by kernel_rfl))
 f328 := Try.func30.trans (congrArg some (by kernel_rfl))
 f329 := Try.func31.trans (congrArg some (by kernel_rfl))
 f330 := Try.func32.trans (congrArg some (by kernel_rfl))
 f331 := Try.func33.trans (congrArg some (by kernel_rfl))
 f332 := Try.func34.trans (congrArg some (by kernel_rfl))
 f343 := Try.func36.trans (congrArg some (by kernel_rfl))
 t0 := Try.underlying0
 a0 := Try.isAgg0
 z0 := Try.sizeOf0
 v0 := Try.zeroValue0
 t3 := Try.underlying3
 a3 := Try.isAgg3
 z3 := Try.sizeOf3
 v3 := Try.zeroValue3
 t4 := Try.underlying4
 a4 := Try.isAgg4
 z4 := Try.sizeOf4
 v4 := Try.zeroValue4
 t5 := Try.underlying5
 a5 := Try.isAgg5
 z5 := Try.sizeOf5
 v5 := Try.zeroValue5
 t9 := Try.underlying9
 a9 := Try.isAgg9
 z9 := Try.sizeOf9
 v9 := Try.zeroValue9
 t28 := Try.underlying31
 a28 := Try.isAgg31
 z28 := Try.sizeOf31
 v28 := Try.zeroValue31
 t46 := Try.underlying45
 a46 := Try.isAgg45
 z46 := Try.sizeOf45
 v46 := Try.zeroValue45
 t51 := Try.underlying55
 a51 := Try.isAgg55
 z51 := Try.sizeOf55
 v51 := Try.zeroValue55
 t53 := Try.underlying57
 a53 := Try.isAgg57
 z53 := Try.sizeOf57
 v53 := Try.zeroValue57
 t131 := Try.underlying52
 a131 := Try.isAgg52
 z131 := Try.sizeOf52
 v131 := Try.zeroValue52
 t182 := Try.underlying47
 a182 := Try.isAgg47
 z182 := Try.sizeOf47
 v182 := Try.zeroValue47
 t183 := Try.underlying48
 a183 := Try.isAgg48
 z183 := Try.sizeOf48
 v183 := Try.zeroValue48
 t218 := Try.underlying58
 a218 := Try.isAgg58
 z218 := Try.sizeOf58
 v218 := Try.zeroValue58
 t222 := Try.underlying62
 a222 := Try.isAgg62
 z222 := Try.sizeOf62
 v222 := Try.zeroValue62
 t228 := Try.underlying64
 a228 := Try.isAgg64
 z228 := Try.sizeOf64
 v228 := Try.zeroValue64
 t229 := Try.underlying40
 a229 := Try.isAgg40
 z229 := Try.sizeOf40
 v229 := Try.zeroValue40 }
def Jb7 (l : LI) (Q : LI -> Prop) : Prop := l.length < 4611686018427387904 /\ Q (srt l)
theorem Jcq {w : World} {Q : LI -> Prop} {l : LI} {Al : Option Addr} {nl kl : Nat} (hl : Own 0 w 3 1 Al nl kl (is l)) (hv : Jb7 l Q) :
  Calls Try.prog 11 #[.slice Al nl kl] w fun e w' => ∃ v cs', e = .returned v /\ w.grownBy w' (bl Al) /\ Own 0 w' 3 1 Al nl kl cs' /\ ∃ x : LI, v = .tuple #[] /\ cs' = is x /\ Q x :=
 (Jav Jcj hl hv.1).mono fun e w' ⟨v, cs', h1, h2, h3, h4, h5⟩ => ⟨v, cs', h1, h2, h3, _, h4, h5, hv.2⟩
end Go.Proofs.Ytfeeapdpahcanaa
namespace Go.Proofs.Ytfeeapdpahcanaa
open Go.RowKit
def JX (qq : Int) (n : Int) (Q : LL × Int -> Prop) : Prop :=
  ((qq < 2) -> (Q (([] : LL), (6 : Int)))) /\ (¬ (qq < 2) -> ((((256 : Int) < qq) -> (Q (([] : LL), (6 : Int)))) /\ (¬ ((256 : Int) < qq) -> (((n < 1) -> (Q (([] : LL), (6 : Int)))) /\ (¬ (n < 1) -> ((((65536 : Int) < n) -> (Q (([] : LL), (6 : Int)))) /\ (¬ ((65536 : Int) < n) -> (ZV qq n (fun (r20, r21) => ((r21 ≠ 0) -> (Q (([] : LL), r21))) /\ (¬ (r21 ≠ 0) -> (((r20 ≠ 1) -> (Q (([] : LL), (10 : Int)))) /\ (¬ (r20 ≠ 1) -> ((0 <= n /\ n * 1 <= 281474976710656 /\ n <= 281474976710656) /\ (∃ (I51 : List Bool -> LL -> Int -> Prop) (μ52 : List Bool -> LL -> Int -> Nat), I51 (List.replicate n.toNat false) ([] : LL) (0 : Int) /\ ∀ (x44 : List Bool) (x45 : LL) (z50 : Int), (I51 x44 x45 z50 -> (((z50 < n) -> (∃ J63 : LL -> List Bool -> Int -> Bool -> Bool -> Prop, (∃ (I82 : List Bool -> LI -> Int -> Prop) (μ83 : List Bool -> LI -> Int -> Nat), I82 x44 ([] : LI) z50 /\ ∀ (x76 : List Bool) (x77 : LI) (z81 : Int), (I82 x76 x77 z81 -> ((0 <= z81 /\ z81 < (n.toNat : Nat)) /\ ((((!(gb x76 z81)) = true) -> ((0 <= z81 /\ z81 < (n.toNat : Nat)) /\ ((((x77.length : Nat) + (1 : Nat) : Int) * 8 <= 140737488355328) /\ ((I64 (z81 * qq)) /\ ((n ≠ 0) /\ (I82 (sb x76 z81 true) (x77 ++ ([z81] : LI)) ((z81 * qq).tmod n) /\ μ83 (sb x76 z81 true) (x77 ++ ([z81] : LI)) ((z81 * qq).tmod n) < μ83 x76 x77 z81)))))) /\ ((!(gb x76 z81)) = false -> ((((0 : Int) < (x77.length : Int)) -> (Jb7 x77 (fun x100 => (((x45.length : Nat) + (1 : Nat) : Int) * 24 <= 140737488355328) /\ (J63 (x45 ++ [x100]) x76 z81 (!(gb x76 z81)) (decide ((0 : Int) < (x77.length : Int))))))) /\ (¬ ((0 : Int) < (x77.length : Int)) -> (J63 x45 x76 z81 (!(gb x76 z81)) (decide ((0 : Int) < (x77.length : Int))))))))))) /\ ∀ (x55 : LL) (x59 : List Bool) (z60 : Int) (b61 : Bool) (b62 : Bool), (J63 x55 x59 z60 b61 b62 -> ((I64 (z50 + 1)) /\ (I51 x59 x55 (z50 + 1) /\ μ52 x59 x55 (z50 + 1) < μ52 x44 x45 z50))))) /\ (¬ (z50 < n) -> (Q (x45, (0 : Int))))))))))))))))))))
theorem Qu {w : World} {Q : LL × Int -> Prop} {qq : Int} {n : Int}  (hv : JX qq n Q) :
   Calls Try.prog 6 #[.int .i64 qq, .int .i64 n] w <| Rt w fun v Qr => ∃ (r0 : LL) (r1 : Int) (A0 : Option Addr) (k0 : Nat) (hs0 : Hs), v = .tuple #[.slice A0 r0.length k0, .int .i64 r1] /\ Qr = [mx 31 3 A0 r0.length k0 hs0 r0] /\ Q (r0, r1) := by
 refine Jk <| Jl (vs := [nI qq, nI n]) [4, 5] XF6 rfl rfl rfl rfl ?_; have hS := Js w; unfold JX at hv; refine Jb 10 <| Jg rfl rfl ?_; by_cases g11 : qq < 2
 .have hv := hv.1 g11; rw [decide_eq_true g11]; refine Ja 12 <| JD rfl <| Jb 5 <| W.ret ?_; have hS := hS.mxNil 31 3; have hm0 := hS.mxlen (i := 0) rfl; have hS := hS.relenMx (i := 0) rfl hm0.symm
  change St _ _ _ _ [_] at hS
  refine ⟨_, rfl, Fin.nil ?_⟩; exact ⟨_, hS.ext, (hS.pick [0] rfl).rows, JR (hS.pick [0] rfl).rows rfl, ⟨([] : LL), (6 : Int), none, 0, (fun _ => (none, 0)), (by (try unfold nS); first | (rw [show (Value.slice none 0 0) = Value.slice none (([] : LL)).length 0 from sm0 hm0.symm]; done) | (rw [show (Value.slice none 0 0) = Value.slice none (([] : LL)).length 0 from sm0 hm0.symm]; rfl)), rfl, hv⟩⟩
 have hv := hv.2 g11; rw [decide_eq_false g11]; refine Ja 5 <| Jg rfl rfl ?_; by_cases g13 : (256 : Int) < qq
 .have hv := hv.1 g13; rw [decide_eq_true g13]; refine Ja 8 <| JD rfl <| Jb 5 <| W.ret ?_; have hS := hS.mxNil 31 3; have hm0 := hS.mxlen (i := 0) rfl; have hS := hS.relenMx (i := 0) rfl hm0.symm
  change St _ _ _ _ [_] at hS
  refine ⟨_, rfl, Fin.nil ?_⟩; exact ⟨_, hS.ext, (hS.pick [0] rfl).rows, JR (hS.pick [0] rfl).rows rfl, ⟨([] : LL), (6 : Int), none, 0, (fun _ => (none, 0)), (by (try unfold nS); first | (rw [show (Value.slice none 0 0) = Value.slice none (([] : LL)).length 0 from sm0 hm0.symm]; done) | (rw [show (Value.slice none 0 0) = Value.slice none (([] : LL)).length 0 from sm0 hm0.symm]; rfl)), rfl, hv⟩⟩
 have hv := hv.2 g13; rw [decide_eq_false g13]; refine Ja 5 <| Jg rfl rfl ?_; by_cases g15 : n < 1
 .have hv := hv.1 g15; rw [decide_eq_true g15]; refine Ja 4 <| JD rfl <| Jb 5 <| W.ret ?_; have hS := hS.mxNil 31 3; have hm0 := hS.mxlen (i := 0) rfl; have hS := hS.relenMx (i := 0) rfl hm0.symm
  change St _ _ _ _ [_] at hS
  refine ⟨_, rfl, Fin.nil ?_⟩; exact ⟨_, hS.ext, (hS.pick [0] rfl).rows, JR (hS.pick [0] rfl).rows rfl, ⟨([] : LL), (6 : Int), none, 0, (fun _ => (none, 0)), (by (try unfold nS); first | (rw [show (Value.slice none 0 0) = Value.slice none (([] : LL)).length 0 from sm0 hm0.symm]; done) | (rw [show (Value.slice none 0 0) = Value.slice none (([] : LL)).length 0 from sm0 hm0.symm]; rfl)), rfl, hv⟩⟩
 have hv := hv.2 g15; rw [decide_eq_false g15]; refine Ja 6 <| Jd rfl (fun c17 => ?_) (fun c17 => ?_)
 .have hv := hv.1 (oT c17); refine Jb 5 <| W.ret ?_; have hS := hS.mxNil 31 3; have hm0 := hS.mxlen (i := 0) rfl; have hS := hS.relenMx (i := 0) rfl hm0.symm
  change St _ _ _ _ [_] at hS
  refine ⟨_, rfl, Fin.nil ?_⟩; exact ⟨_, hS.ext, (hS.pick [0] rfl).rows, JR (hS.pick [0] rfl).rows rfl, ⟨([] : LL), (6 : Int), none, 0, (fun _ => (none, 0)), (by (try unfold nS); first | (rw [show (Value.slice none 0 0) = Value.slice none (([] : LL)).length 0 from sm0 hm0.symm]; done) | (rw [show (Value.slice none 0 0) = Value.slice none (([] : LL)).length 0 from sm0 hm0.symm]; rfl)), rfl, hv⟩⟩
 have hv := hv.2 (oF c17); refine Jf <| Jb 4 <| SL.call hS (ok_Gcd  hv) XF10 rfl XN10 rfl rfl ?_; rintro _ _ w19 ⟨r20, r21, rfl, rfl, hv⟩ hGw19 hS; have hS := hS.n0; refine Ja 6 <| Jb 6 <| Jd rfl (fun c22 => ?_) (fun c22 => ?_)
 .have hv := hv.1 (oT c22); refine Jb 6 <| W.ret ?_; have hS := hS.mxNil 31 3; have hm0 := hS.mxlen (i := 0) rfl; have hS := hS.relenMx (i := 0) rfl hm0.symm
  change St _ _ _ _ [_] at hS
  refine ⟨_, rfl, Fin.nil ?_⟩; exact ⟨_, hS.ext, (hS.pick [0] rfl).rows, JR (hS.pick [0] rfl).rows rfl, ⟨([] : LL), r21, none, 0, (fun _ => (none, 0)), (by (try unfold nS); first | (rw [show (Value.slice none 0 0) = Value.slice none (([] : LL)).length 0 from sm0 hm0.symm]; done) | (rw [show (Value.slice none 0 0) = Value.slice none (([] : LL)).length 0 from sm0 hm0.symm]; rfl)), rfl, hv⟩⟩
 have hv := hv.2 (oF c22); refine Jf <| Jb 6 <| Jd rfl (fun c24 => ?_) (fun c24 => ?_)
 .have hv := hv.1 (oT c24); refine Jb 5 <| W.ret ?_; have hS := hS.mxNil 31 3; have hm0 := hS.mxlen (i := 0) rfl; have hS := hS.relenMx (i := 0) rfl hm0.symm
  change St _ _ _ _ [_] at hS
  refine ⟨_, rfl, Fin.nil ?_⟩; exact ⟨_, hS.ext, (hS.pick [0] rfl).rows, JR (hS.pick [0] rfl).rows rfl, ⟨([] : LL), (10 : Int), none, 0, (fun _ => (none, 0)), (by (try unfold nS); first | (rw [show (Value.slice none 0 0) = Value.slice none (([] : LL)).length 0 from sm0 hm0.symm]; done) | (rw [show (Value.slice none 0 0) = Value.slice none (([] : LL)).length 0 from sm0 hm0.symm]; rfl)), rfl, hv⟩⟩
 have hv := hv.2 (oF c24); refine Jf <| Jb 7 ?_; obtain ⟨o26, hv⟩ := hv; refine YB (J := n) hS Zm XE4 rfl rfl o26 (ZK _) rfl ?_; intro A27 w28 hS; refine Ja 2 <| Jb 6 <| W.block ?_; obtain ⟨I51, μ52, hv, hk112⟩ := hv; have hS := hS.mxNil 31 3; have hm0 : 0 = ([] : LL).length := (hS.mxlen (i := 0) rfl).symm; have hS := hS.relenMx (i := 0) rfl hm0
 change St _ _ _ _ [_, _] at hS
 refine JJ (σ := List Bool × LL × Int × Option Addr × Nat × Hs) (fun q w1 => match q with | (x44, x45, z50, A46, k47, hs48) => I51 x44 x45 z50 /\ St TT w none w1 [mx 31 3 A46 x45.length k47 hs48 x45, .row 4 1 A27 n.toNat n.toNat (bs x44)]) (fun (x44, x45, z50, A46, k47, hs48) => [(0, nI qq), (1, nI n), (4, .slice none 0 0), (5, nI 0), (8, nS A46 x45 k47), (9, .slice A27 n.toNat n.toNat), (40, nI n), (41, nI z50)]) (fun (x44, x45, z50, A46, k47, hs48) => μ52 x44 x45 z50) (List.replicate n.toNat false, ([] : LL), (0 : Int), none, 0, (fun _ => (none, 0))) ⟨hv, hS⟩ ⟨rfl, rfl, rfl, rfl, (sm (by first | rfl | assumption | omega)), rfl, rfl, rfl, trivial⟩ ?_; rintro ⟨x44, x45, z50, A46, k47, hs48⟩ w53 ⟨hv, hS⟩; have hv := hk112 x44 x45 z50 hv; refine Jb 5 <| Jd rfl (fun c54 => ?_) (fun c54 => ?_)
 .have hv := hv.1 (oT c54); refine Jf <| JO ?_; obtain ⟨J63, hv, hk111⟩ := hv; refine Zo (σ := LL × List Bool × Int × Bool × Bool × Option Addr × Nat × Hs) (fun q w1 => match q with | (x55, x59, z60, b61, b62, A56, k57, hs58) => J63 x55 x59 z60 b61 b62 /\ St TT w none w1 [mx 31 3 A56 x55.length k57 hs58 x55, .row 4 1 A27 n.toNat n.toNat (bs x59)]) (fun (x55, x59, z60, b61, b62, A56, k57, hs58) => [(0, nI qq), (1, nI n), (4, .slice none 0 0), (5, nI 0), (8, nS A56 x55 k57), (9, .slice A27 n.toNat n.toNat), (10, nI z50), (12, nI z60), (40, nI n), (41, nI z50), (42, .bool (decide (z50 < n))), (49, .bool b61), (64, .bool b62)]) ?_ ?_
  .refine W.block ?_; refine Jb 15 <| W.block ?_; obtain ⟨I82, μ83, hv, hk108⟩ := hv; have hS := hS.nil (e := 3) (z := 1); have hm0 : 0 = ([] : LI).length := (hS.rd (i := 0) rfl).ilen.symm; have hS := hS.relen (i := 0) rfl hm0
   change St _ _ _ _ [_, _, _] at hS
   refine JJ (σ := List Bool × LI × Int × Option Addr × Nat) (fun q w1 => match q with | (x76, x77, z81, A78, k79) => I82 x76 x77 z81 /\ St TT w none w1 [nR 3 A78 x77 k79, mx 31 3 A46 x45.length k47 hs48 x45, .row 4 1 A27 n.toNat n.toNat (bs x76)]) (fun (x76, x77, z81, A78, k79) => [(0, nI qq), (1, nI n), (4, .slice none 0 0), (5, nI 0), (8, nS A46 x45 k47), (9, .slice A27 n.toNat n.toNat), (10, nI z50), (11, nS A78 x77 k79), (12, nI z81), (40, nI n), (41, nI z50), (42, .bool (decide (z50 < n)))]) (fun (x76, x77, z81, A78, k79) => μ83 x76 x77 z81) (x44, ([] : LI), z50, none, 0) ⟨hv, hS⟩ ⟨rfl, rfl, rfl, rfl, rfl, rfl, rfl, (sm (by first | rfl | assumption | omega)), rfl, rfl, rfl, rfl, trivial⟩ ?_; rintro ⟨x76, x77, z81, A78, k79⟩ w84 ⟨hv, hS⟩; have hv := hk108 x76 x77 z81 hv; refine Jb 5 ?_; obtain ⟨o85, hv⟩ := hv; refine Jj Zm XE4 (hS.rd (i := 2) rfl) rfl rfl o85 rfl <| Jo XU4 rfl rfl (Jb8 (hS.rd (i := 2) rfl) o85) rfl <| Ja 2 <| Jd rfl (fun c86 => ?_) (fun c86 => ?_)
   .have hv := hv.1 (c86); refine Jf <| JO <| W.block <| Jb 4 ?_; obtain ⟨o87, hv⟩ := hv; refine Jj Zm XE4 (hS.rd (i := 2) rfl) rfl rfl o87 rfl <| Q6 (cs' := bs (sb x76 z81 true)) 2 z81.toNat hS rfl XE4 rfl rfl rfl (bs_lt (hS.rd (i := 2) rfl) o87) (Jbq _ _ _) ?_; intro w88 hS; refine Je <| Jb 3 <| QP (vs := is ([z81] : LI)) hS JB XE3 rfl rfl rfl rfl (Yv _) rfl ?_; intro A89 w90 hS; obtain ⟨o92, hv⟩ := hv; refine SL.append (cs := is x77) (cs' := is ([z81] : LI)) 1 ((x77 ++ ([z81] : LI)).length) (is (x77 ++ ([z81] : LI))) hS rfl JB XE3 (hS.rd (i := 0) rfl) (Yv _) rfl rfl (apk o92).1 (apk o92).2 (is_ap (hS.rd (i := 1) rfl) (hS.rd (i := 0) rfl)) (Yh _ _) rfl ?_; intro A93 k94 w95 hS; refine Ja 2 <| Jb 3 ?_; obtain ⟨o96, hv⟩ := hv; refine WL.mul (r := (z81 * qq)) rfl rfl (wr o96) rfl <| Jg rfl rfl ?_; obtain ⟨o97, hv⟩ := hv; refine Q4 (r := ((z81 * qq).tmod n)) rfl rfl o97 rfl rfl <| Ja 2 ?_; have hS := hS.pick [1, 2, 3] rfl; exact ⟨(sb x76 z81 true, x77 ++ ([z81] : LI), ((z81 * qq).tmod n), A93, k94), sp rfl, hv.2, rfl, hv.1, hS⟩
   have hv := hv.2 (c86); refine JK <| Jb 3 <| WL.len JB rfl rfl <| Ja 2 <| Jd rfl (fun c98 => ?_) (fun c98 => ?_)
   .have hv := hv.1 (oT c98); refine Jb 3 <| SL.callm 0 hS rfl (Jcq (hS.own (i := 0) rfl) hv) XF11 rfl XN11 rfl rfl ?_; rintro _ _ w99 ⟨x100, rfl, rfl, hv⟩ hS; refine Je <| Jb 3 <| QP (vs := [nS A78 x77 k79]) hS J9 Q3 rfl rfl rfl rfl (by simp [Value.oneCell']) rfl ?_; intro A101 w102 hS; obtain ⟨o104, hv⟩ := hv; have hS := hS.pick [2, 0, 1, 3] rfl; have hS := hS.pick [1, 2, 0, 3] rfl; have hS := YY (hS.rd (i := 1) rfl).ilen.symm hS
    change St _ _ _ _ [_, _, _] at hS
    refine QG hS J9 Q3 rfl rfl (apk o104).1 (apk o104).2 rfl ?_; intro A105 k106 w107 hS; refine Ja 2 ?_; exact ⟨(x45 ++ [x100], x76, z81, (!(gb x76 z81)), (decide ((0 : Int) < (x77.length : Int))), A105, k106, (QJ x45.length hs48 (fun _ => (A78, k79)))), sp rfl, rfl, hv, hS⟩
   have hv := hv.2 (oF c98); refine Jf ?_; have hS := hS.pick [1, 2] rfl; exact ⟨(x45, x76, z81, (!(gb x76 z81)), (decide ((0 : Int) < (x77.length : Int))), A46, k47, hs48), sp rfl, rfl, hv, hS⟩
  rintro ⟨x55, x59, z60, b61, b62, A56, k57, hs58⟩ w109 ⟨hv, hS⟩; have hv := hk111 x55 x59 z60 b61 b62 hv; refine YX ?_; obtain ⟨o110, hv⟩ := hv; refine WL.add (r := (z50 + 1)) rfl rfl (wr o110) rfl <| Ja 2 ?_; exact ⟨(x59, x55, (z50 + 1), A56, k57, hs58), sp rfl, hv.2, rfl, hv.1, hS⟩
 have hv := hv.2 (oF c54); refine JK <| Jb 6 <| W.ret <| ⟨_, rfl, Fin.nil ?_⟩
 exact (hS.pick [0] rfl).fin rfl ⟨x45, (0 : Int), A46, k47, hs48, rfl, rfl, hv⟩
end Go.Proofs.Ytfeeapdpahcanaa
namespace Go.Proofs.Ytfeeapdpahcanaa
open Go.RowKit
end Go.Proofs.Ytfeeapdpahcanaa
namespace Go.Proofs.Ytfeeapdpahcanaa
open Go.RowKit
end Go.Proofs.Ytfeeapdpahcanaa
namespace Go.Proofs.Ytfeeapdpahcanaa
open Go.RowKit
end Go.Proofs.Ytfeeapdpahcanaa
namespace Go.Proofs.Ytfeeapdpahcanaa
end Go.Proofs.Ytfeeapdpahcanaa
namespace Go.Proofs.Ytfeeapdpahcanaa
def Lim (l : List Nat) : Prop := ∀ x ∈ l, x < 4294967296
theorem Lim.nil : Lim [] := fun _ h => by cases h
theorem Lim.cons {x : Nat} {l : List Nat} (hx : x < 4294967296) (h : Lim l) : Lim (x :: l) := fun y hy => by
 rcases List.mem_cons.1 hy with rfl | hy
 .exact hx
 .exact h _ hy
theorem Lim.tail {x : Nat} {l : List Nat} (h : Lim (x :: l)) : Lim l := fun y hy => h y (List.mem_cons_of_mem _ hy)
end Go.Proofs.Ytfeeapdpahcanaa
namespace Go.Proofs.Ytfeeapdpahcanaa
/-! ### runs of exponents modulo n, and the greatest bounds that they prove -/
def PZ (n : Int) (zs : LI) (a : Int) : Prop := ∃ x, x ∈ zs /\ x % n = a % n
theorem PZ.mod {n : Int} {zs : LI} {a b : Int} (h : a % n = b % n) (p : PZ n zs a) : PZ n zs b := by
 obtain ⟨x, hx, e⟩ := p; exact ⟨x, hx, e.trans h⟩
def Per (n : Int) (P : Int -> Prop) : Prop := ∀ a b, a % n = b % n -> P a -> P b
theorem PZ.per (n : Int) (zs : LI) : Per n (PZ n zs) := fun _ _ h p => p.mod h
def Val (n : Int) (P : Int -> Prop) (s t c x m : Int) : Prop :=
  1 <= c /\ c <= n /\ 0 <= m /\ m <= n /\ Int.gcd t n = 1 /\ (0 < m -> (Int.gcd x n : Int) <= c) /\ ∀ i j : Int, 0 <= i -> i < c -> 0 <= j -> j <= m -> P (s + i * t + j * x)
theorem QK {n a b : Int} (h : a % n = b % n) : ∃ k, b = a + n * k := by
 refine ⟨b / n - a / n, ?_⟩; have h1 := Int.mul_ediv_add_emod a n; have h2 := Int.mul_ediv_add_emod b n; rw [Int.mul_sub]; omega
theorem ZO {n a b : Int} (h : a % n = b % n) : Int.gcd a n = Int.gcd b n := by
 obtain ⟨k, rfl⟩ := QK h; rw [Int.gcd_comm a, Int.gcd_comm (a + n * k), Int.gcd_add_mul_left_right]
theorem Jcx {n s t x s' t' x' : Int} (i j : Int) (hs : s % n = s' % n) (ht : t % n = t' % n) (hx : x % n = x' % n) : (s + i * t + j * x) % n = (s' + i * t' + j * x') % n := by
 obtain ⟨a, rfl⟩ := QK hs; obtain ⟨b, rfl⟩ := QK ht; obtain ⟨c, rfl⟩ := QK hx; have e : s + n * a + i * (t + n * b) + j * (x + n * c) = s + i * t + j * x + n * (a + i * b + j * c) := by
  simp only [Int.mul_add, Int.mul_left_comm i n b, Int.mul_left_comm j n c]; omega
 rw [e, Int.add_mul_emod_self_left]
theorem Val.mod {n : Int} {P : Int -> Prop} {s t c x m s' t' x' : Int} (hP : Per n P) (h : Val n P s t c x m) (hs : s % n = s' % n) (ht : t % n = t' % n) (hx : x % n = x' % n) : Val n P s' t' c x' m := by
 obtain ⟨a, b, d, e, f, g, k⟩ := h; refine ⟨a, b, d, e, by rw [<- ZO ht]; exact f, fun hm => by rw [<- ZO hx]; exact g hm, fun i j h1 h2 h3 h4 => ?_⟩; exact hP _ _ (Jcx i j hs ht hx) (k i j h1 h2 h3 h4)
def isB (n : Int) (P : Int -> Prop) (b : Int) : Prop :=
  1 <= b /\ (∀ s t c, Val n P s t c 0 0 -> c + 1 <= b) /\ (b = 1 ∨ ∃ s t c, Val n P s t c 0 0 /\ b = c + 1)
def isT (n : Int) (P : Int -> Prop) (b : Int) : Prop :=
  1 <= b /\ (∀ s t c x m, Val n P s t c x m -> c + 1 + m <= b) /\ (b = 1 ∨ ∃ s t c x m, Val n P s t c x m /\ b = c + 1 + m)
theorem isB.le {n : Int} {P P' : Int -> Prop} {b b' k : Int} (h : isB n P b) (h' : isB n P' b') (hk : Int.gcd k n = 1) (hP : ∀ a, P a -> P' (k * a)) (hg : ∀ t, Int.gcd t n = 1 -> Int.gcd (k * t) n = 1) : b <= b' := by
 rcases h.2.2 with e | ⟨s, t, c, v, e⟩
 .have := h'.1; omega
 .obtain ⟨a1, a2, a3, a4, a5, a6, a7⟩ := v; have := h'.2.1 (k * s) (k * t) c ⟨a1, a2, a3, a4, hg t a5, fun hm => absurd hm (by omega), fun i j h1 h2 h3 h4 => by
   have := hP _ (a7 i j h1 h2 h3 h4); have e : k * s + i * (k * t) + j * 0 = k * (s + i * t + j * 0) := by rw [Int.mul_add, Int.mul_add, Int.mul_left_comm i k t]; omega
   rw [e]; exact this⟩
  omega
theorem isT.le {n : Int} {P P' : Int -> Prop} {b b' k : Int} (h : isT n P b) (h' : isT n P' b') (hP : ∀ a, P a -> P' (k * a)) (hg : ∀ t, Int.gcd (k * t) n = Int.gcd t n) : b <= b' := by
 rcases h.2.2 with e | ⟨s, t, c, x, m, v, e⟩
 .have := h'.1; omega
 .obtain ⟨a1, a2, a3, a4, a5, a6, a7⟩ := v; have := h'.2.1 (k * s) (k * t) c (k * x) m ⟨a1, a2, a3, a4, by rw [hg]; exact a5, fun hm => by rw [hg]; exact a6 hm, fun i j h1 h2 h3 h4 => by
   have := hP _ (a7 i j h1 h2 h3 h4); have e : k * s + i * (k * t) + j * (k * x) = k * (s + i * t + j * x) := by rw [Int.mul_add, Int.mul_add, Int.mul_left_comm i k t, Int.mul_left_comm j k x]
   rw [e]; exact this⟩
  omega
theorem isB.mono {n : Int} {P P' : Int -> Prop} {b b' : Int} (h : isB n P b) (h' : isB n P' b') (hP : ∀ a, P a -> P' a) : b <= b' :=
 h.le h' (k := 1) (by rw [Int.one_gcd]) (fun a p => by rw [Int.one_mul]; exact hP a p) (fun t e => by rw [Int.one_mul]; exact e)
theorem isT.mono {n : Int} {P P' : Int -> Prop} {b b' : Int} (h : isT n P b) (h' : isT n P' b') (hP : ∀ a, P a -> P' a) : b <= b' :=
 h.le h' (k := 1) (fun a p => by rw [Int.one_mul]; exact hP a p) (fun t => by rw [Int.one_mul])
end Go.Proofs.Ytfeeapdpahcanaa
namespace Go.Proofs.Ytfeeapdpahcanaa
/-! ### bch without fields: remainders, marks, greatest common divisors, runs -/
theorem i64s {x : Int} (h1 : -4611686018427387904 <= x) (h2 : x <= 4611686018427387904) : I64 x := ⟨by omega, by omega⟩
theorem gb_sb {x : List Bool} {r i : Int} (hr : 0 <= r) (hr2 : r < (x.length : Nat)) (hi : 0 <= i) (b : Bool) : gb (sb x r b) i = if i = r then b else gb x i := by
 unfold gb sb; rw [List.getD_eq_getElem?_getD, List.getD_eq_getElem?_getD, List.getElem?_set]; by_cases e : i = r
 .subst e; rw [if_pos rfl, if_pos (by omega), if_pos rfl]; rfl
 .rw [if_neg (by omega), if_neg e]
theorem Jax (x : List Bool) (r : Int) (b : Bool) : (sb x r b).length = x.length := List.length_set
theorem Ya {x : Int} {Q : Bool -> Prop} (h1 : -1000000 <= x) (h2 : x <= 1000000) (h : Q true) : JW x Q :=
 ⟨fun _ => by rw [decide_eq_true (by omega)]; exact h, fun c => absurd (by omega) c⟩
theorem Jah {x : Int} {Q : Int -> Prop} (h1 : 0 <= x) (h : Q x) : Q5 x Q := ⟨fun c => absurd h1 (by omega), fun _ => h⟩
theorem Jcd {a b : Nat} {Q : Int × Int -> Prop} (hb : b <= 1000000) (ha : a <= 1000000) (h : ∀ y, Q (((Nat.gcd a b : Nat) : Int), y)) : QO a b Q := by
 refine ⟨fun z19 z20 z21 z22 => ∃ c d : Nat, z19 = c /\ z20 = d /\ Nat.gcd c d = Nat.gcd a b /\ c <= 1000000 /\ d <= 1000000 /\ z21.natAbs * d + z22.natAbs * c <= b, fun _ z20 _ _ => z20.toNat, ⟨a, b, rfl, rfl, rfl, ha, hb, by simp⟩, ?_⟩; rintro _ _ u v ⟨c, d, rfl, rfl, hg, hc, hd, hbd⟩; dsimp only; refine ⟨fun hne => ?_, fun he => ?_⟩
 .have hd0 : 0 < d := by omega
  have hq : ((c : Int).tdiv (d : Int)) = ((c / d : Nat) : Int) := rfl; rw [hq]; have hcd := Nat.div_add_mod c d; have hr := Nat.mod_lt c hd0; generalize hqq : c / d = q at hcd ⊢; generalize hrr : c % d = r at hcd hr; have hqd : ((q : Int) * (d : Int)) = ((d * q : Nat) : Int) := by push_cast; exact Int.mul_comm _ _
  have hle : d * q <= c := by omega
  have hqv : (((q : Int) * v)).natAbs = q * v.natAbs := by rw [Int.natAbs_mul, Int.natAbs_natCast]
  have hu : u.natAbs <= b := by
   have : u.natAbs * 1 <= u.natAbs * d := Nat.mul_le_mul_left _ hd0; omega
  have hv2 : q * v.natAbs <= b := by
   have h1 : v.natAbs * (d * q) <= v.natAbs * c := Nat.mul_le_mul_left _ hle; have h2 : v.natAbs * q * 1 <= v.natAbs * q * d := Nat.mul_le_mul_left _ hd0; have h3 : v.natAbs * (d * q) = v.natAbs * q * d := by rw [Nat.mul_comm d q, Nat.mul_assoc]
   rw [Nat.mul_comm q]; omega
  have hq6 : q <= 1000000 := by
   have : q * 1 <= q * d := Nat.mul_le_mul_left _ hd0; rw [Nat.mul_comm q d] at this; omega
  have e3 : ((c : Int) - (q : Int) * (d : Int)) = ((r : Nat) : Int) := by rw [hqd]; omega
  have hs : (u - (q : Int) * v).natAbs <= u.natAbs + q * v.natAbs := by rw [<- hqv]; exact Int.natAbs_sub_le _ _
  refine ⟨⟨by omega, i64s (by omega) (by omega)⟩, i64s (by omega) (by omega), by rw [e3]; exact i64s (by omega) (by omega), i64s (by omega) (by omega), i64s (by omega) (by omega), ⟨d, r, rfl, e3, ?_, hd, by omega, ?_⟩, ?_⟩
  .rw [<- hg, <- hrr, Nat.gcd_comm c d, Nat.gcd_rec d c, Nat.gcd_comm]
  .have h1 : (u - (q : Int) * v).natAbs * d <= (u.natAbs + q * v.natAbs) * d := Nat.mul_le_mul_right _ hs; have h2 : (u.natAbs + q * v.natAbs) * d = u.natAbs * d + v.natAbs * (d * q) := by
    rw [Nat.add_mul, Nat.mul_comm q, Nat.mul_assoc, Nat.mul_comm q d]
   have h3 : v.natAbs * c = v.natAbs * (d * q) + v.natAbs * r := by rw [<- hcd, Nat.mul_add]
   omega
  .rw [e3]; show ((r : Nat) : Int).toNat < ((d : Nat) : Int).toNat; omega
 .have hd0 : d = 0 := by omega
  subst hd0; rw [Nat.gcd_zero_right] at hg; rw [hg]; exact h _
theorem w_Gcd {a b : Int} {Q : Int × Int -> Prop} (ha : 0 <= a) (ha2 : a <= 1000000) (hb : 0 <= b) (hb2 : b <= 1000000) (h : Q (((Int.gcd a b : Nat) : Int), 0)) : ZV a b Q := by
 refine Ya (by omega) (by omega) ⟨(fun c => by cases c), fun _ => Ya (by omega) (by omega) ⟨(fun c => by cases c), fun _ => Jah ha (Jah hb ?_)⟩⟩; obtain ⟨x, rfl⟩ := Int.eq_ofNat_of_zero_le ha; obtain ⟨y, rfl⟩ := Int.eq_ofNat_of_zero_le hb; exact Jcd (by omega) (by omega) fun _ => h
theorem Q9 {a b : Nat} {Q : Int -> Prop} (h : Q ((Nat.gcd a b : Nat) : Int)) : JV a b Q := by
 refine ⟨fun z y => ∃ c d : Nat, z = c /\ y = d /\ Nat.gcd c d = Nat.gcd a b, fun _ y => y.toNat, ⟨a, b, rfl, rfl, rfl⟩, ?_⟩; rintro _ _ ⟨c, d, rfl, rfl, hg⟩; have e : ((c : Int).tmod (d : Int)) = ((c % d : Nat) : Int) := rfl; refine ⟨fun hd => ⟨by omega, ⟨d, c % d, rfl, e, by rw [<- hg, Nat.gcd_comm c d, Nat.gcd_rec d c, Nat.gcd_comm]⟩, ?_⟩, fun hd => ?_⟩
 .rw [e]; have := Nat.mod_lt c (show 0 < d by omega); show ((c % d : Nat) : Int).toNat < ((d : Nat) : Int).toNat; omega
 .have hd0 : d = 0 := by omega
  subst hd0; rw [Nat.gcd_zero_right] at hg; rw [hg]; exact h
end Go.Proofs.Ytfeeapdpahcanaa
namespace Go.Proofs.Ytfeeapdpahcanaa
/-! ### commutative rings, sums, series -/
class Cr (α : Type) where
  add : α -> α -> α
  mul : α -> α -> α
  neg : α -> α
  zero : α
  one : α
  ac : ∀ x y, add x y = add y x
  aa : ∀ x y z, add (add x y) z = add x (add y z)
  az : ∀ x, add x zero = x
  an : ∀ x, add x (neg x) = zero
  mc : ∀ x y, mul x y = mul y x
  ma : ∀ x y z, mul (mul x y) z = mul x (mul y z)
  m1 : ∀ x, mul x one = x
  md : ∀ x y z, mul x (add y z) = add (mul x y) (mul x z)
section
variable {α : Type} [Cr α]
instance (priority := 100) crAdd : Add α := ⟨Cr.add⟩
instance (priority := 100) crMul : Mul α := ⟨Cr.mul⟩
instance (priority := 100) crNeg : Neg α := ⟨Cr.neg⟩
instance (priority := 100) crSub : Sub α := ⟨fun x y => Cr.add x (Cr.neg y)⟩
instance (priority := 100) crZero : OfNat α 0 := ⟨Cr.zero⟩
instance (priority := 100) crOne : OfNat α 1 := ⟨Cr.one⟩
namespace Cr
theorem add_comm (x y : α) : x + y = y + x := Cr.ac x y
theorem add_assoc (x y z : α) : x + y + z = x + (y + z) := Cr.aa x y z
theorem add_zero (x : α) : x + 0 = x := Cr.az x
theorem zero_add (x : α) : 0 + x = x := by rw [Cr.add_comm, Cr.add_zero]
theorem add_neg (x : α) : x + -x = 0 := Cr.an x
theorem neg_add (x : α) : -x + x = 0 := by rw [Cr.add_comm, Cr.add_neg]
theorem mul_comm (x y : α) : x * y = y * x := Cr.mc x y
theorem mul_assoc (x y z : α) : x * y * z = x * (y * z) := Cr.ma x y z
theorem mul_one (x : α) : x * 1 = x := Cr.m1 x
theorem one_mul (x : α) : 1 * x = x := by rw [Cr.mul_comm, Cr.mul_one]
theorem mul_add (x y z : α) : x * (y + z) = x * y + x * z := Cr.md x y z
theorem add_mul (x y z : α) : (x + y) * z = x * z + y * z := by rw [Cr.mul_comm, Cr.mul_add, Cr.mul_comm z x, Cr.mul_comm z y]
theorem sub_eq (x y : α) : x - y = x + -y := rfl
theorem add_left_comm (x y z : α) : x + (y + z) = y + (x + z) := by rw [<- Cr.add_assoc, Cr.add_comm x y, Cr.add_assoc]
theorem Jcc (x y z : α) : x * (y * z) = y * (x * z) := by rw [<- Cr.mul_assoc, Cr.mul_comm x y, Cr.mul_assoc]
theorem add_left_cancel {x y z : α} (h : x + y = x + z) : y = z := by
 have := congrArg (fun u => -x + u) h
 simpa [<- Cr.add_assoc, Cr.neg_add, Cr.zero_add] using this
theorem mul_zero (x : α) : x * 0 = 0 := by
 refine Cr.add_left_cancel (x := x * 0) ?_; rw [<- Cr.mul_add, Cr.add_zero, Cr.add_zero]
theorem zero_mul (x : α) : 0 * x = 0 := by rw [Cr.mul_comm, Cr.mul_zero]
theorem neg_uniq {x y : α} (h : x + y = 0) : y = -x := Cr.add_left_cancel (x := x) (by rw [h, Cr.add_neg])
theorem neg_zero : -(0 : α) = 0 := (Cr.neg_uniq (Cr.add_zero (0 : α))).symm
theorem neg_neg (x : α) : - -x = x := (Cr.neg_uniq (Cr.neg_add x)).symm
theorem neg_addd (x y : α) : -(x + y) = -x + -y := (Cr.neg_uniq (by
 rw [Cr.add_assoc, Cr.add_left_comm y, <- Cr.add_assoc, Cr.add_neg, Cr.add_neg, Cr.add_zero])).symm
theorem mul_neg (x y : α) : x * -y = -(x * y) := Cr.neg_uniq (by rw [<- Cr.mul_add, Cr.add_neg, Cr.mul_zero])
theorem sub_self (x : α) : x - x = 0 := Cr.add_neg x
theorem sub_zero (x : α) : x - 0 = x := by rw [Cr.sub_eq, Cr.neg_zero, Cr.add_zero]
theorem add_sub (x y : α) : x + y - y = x := by rw [Cr.sub_eq, Cr.add_assoc, Cr.add_neg, Cr.add_zero]
theorem mul_sub (x y z : α) : x * (y - z) = x * y - x * z := by rw [Cr.sub_eq, Cr.mul_add, Cr.mul_neg]; rfl
theorem sub_mul (x y z : α) : (x - y) * z = x * z - y * z := by rw [Cr.mul_comm, Cr.mul_sub, Cr.mul_comm z, Cr.mul_comm z]
theorem neg_sub (x y : α) : -(x - y) = y - x := by rw [Cr.sub_eq, Cr.neg_addd, Cr.neg_neg, Cr.add_comm]; rfl
end Cr
instance : Std.Commutative (α := α) (· + ·) := ⟨Cr.add_comm⟩
instance : Std.Associative (α := α) (· + ·) := ⟨Cr.add_assoc⟩
instance : Std.Commutative (α := α) (· * ·) := ⟨Cr.mul_comm⟩
instance : Std.Associative (α := α) (· * ·) := ⟨Cr.mul_assoc⟩
def sgm (f : Nat -> α) : Nat -> α
  | 0 => 0
  | n + 1 => sgm f n + f n
theorem Jt {f g : Nat -> α} : ∀ {n : Nat}, (∀ i, i < n -> f i = g i) -> sgm f n = sgm g n
 | 0, _ => rfl
 | n + 1, h => by rw [sgm, sgm, Jt (n := n) fun i hi => h i (by omega), h n (by omega)]
theorem Ys (f g : Nat -> α) : ∀ n, sgm (fun i => f i + g i) n = sgm f n + sgm g n
 | 0 => (Cr.add_zero 0).symm
 | n + 1 => by rw [sgm, sgm, sgm, Ys f g n]; ac_rfl
theorem Yr (a : α) (f : Nat -> α) : ∀ n, sgm (fun i => a * f i) n = a * sgm f n
 | 0 => (Cr.mul_zero a).symm
 | n + 1 => by rw [sgm, sgm, Yr a f n, Cr.mul_add]
theorem Jaw (a : α) (f : Nat -> α) (n : Nat) : sgm (fun i => f i * a) n = sgm f n * a := by
 rw [Cr.mul_comm _ a, <- Yr]; exact Jt fun i _ => Cr.mul_comm _ _
theorem QT {f : Nat -> α} : ∀ {n : Nat}, (∀ i, i < n -> f i = 0) -> sgm f n = 0
 | 0, _ => rfl
 | n + 1, h => by rw [sgm, QT (n := n) fun i hi => h i (by omega), h n (by omega), Cr.add_zero]
theorem Yc (f : Nat -> α) : ∀ n, sgm f (n + 1) = f 0 + sgm (fun i => f (i + 1)) n
 | 0 => by rw [sgm, sgm, sgm, Cr.add_comm]
 | n + 1 => by rw [sgm, Yc f n, sgm, Cr.add_assoc]
theorem ZA (f : Nat -> α) : ∀ n, sgm f n = sgm (fun i => f (n - 1 - i)) n
 | 0 => rfl
 | n + 1 => by
  rw [Yc (fun i => f (n + 1 - 1 - i)) n, sgm, ZA f n, Cr.add_comm]
  congr 1
  exact Jt fun i hi => by congr 1; omega
theorem Yq {f : Nat -> α} {k : Nat} : ∀ {n : Nat}, k < n -> (∀ i, i < n -> i ≠ k -> f i = 0) -> sgm f n = f k
 | 0, h, _ => absurd h (Nat.not_lt_zero k)
 | n + 1, h, h0 => by
  by_cases hk : k = n
  .subst hk; rw [sgm, QT fun i hi => h0 i (by omega) (by omega), Cr.zero_add]
  .rw [sgm, Yq (n := n) (by omega) fun i hi hne => h0 i (by omega) hne, h0 n (by omega) (Ne.symm hk), Cr.add_zero]
theorem Zz (F : Nat -> Nat -> α) : ∀ n, sgm (fun s => sgm (fun i => F i (s - i)) (s + 1)) n = sgm (fun i => sgm (F i) (n - i)) n
 | 0 => rfl
 | n + 1 => by
  rw [sgm, Zz F n, sgm]; have h1 : sgm (fun i => sgm (F i) (n + 1 - i)) n = sgm (fun i => sgm (F i) (n - i)) n + sgm (fun i => F i (n - i)) n := by
   rw [<- Ys]; exact Jt fun i hi => by rw [show n + 1 - i = (n - i) + 1 by omega, sgm]
  rw [sgm, h1, show n + 1 - n = 0 + 1 by omega, sgm, sgm, Cr.zero_add, Nat.sub_self, Cr.add_assoc]
/-! series -/
def Pl (α : Type) : Type := Nat -> α
def QH (f g : Nat -> α) : Nat -> α := fun k => sgm (fun i => f i * g (k - i)) (k + 1)
theorem Yf (f g : Nat -> α) : QH f g = QH g f := by
 funext k; unfold QH; rw [ZA]; exact Jt fun i hi => by
  rw [Cr.mul_comm]
  congr 2 <;> omega
theorem Y7 (f g h : Nat -> α) : QH (QH f g) h = QH f (QH g h) := by
 funext k; have e1 : QH (QH f g) h k = sgm (fun s => sgm (fun i => f i * g (s - i) * h (k - (i + (s - i)))) (s + 1)) (k + 1) := by
  show sgm (fun s => sgm (fun i => f i * g (s - i)) (s + 1) * h (k - s)) (k + 1) = _; refine Jt fun s hs => ?_; rw [<- Jaw]; exact Jt fun i hi => by rw [show i + (s - i) = s by omega]
 have e2 : QH f (QH g h) k = sgm (fun i => sgm (fun j => f i * g j * h (k - (i + j))) (k + 1 - i)) (k + 1) := by
  show sgm (fun i => f i * sgm (fun j => g j * h (k - i - j)) (k - i + 1)) (k + 1) = _; refine Jt fun i hi => ?_; rw [<- Yr, show k + 1 - i = k - i + 1 by omega]; exact Jt fun j hj => by rw [Cr.mul_assoc, show k - i - j = k - (i + j) by omega]
 rw [e1, e2]; exact Zz (fun i j => f i * g j * h (k - (i + j))) (k + 1)
instance : Cr (Pl α) where
  add f g := fun i => f i + g i
  mul f g := QH f g
  neg f := fun i => -(f i)
  zero := fun _ => 0
  one := fun i => if i = 0 then 1 else 0
  ac f g := funext fun i => Cr.add_comm _ _
  aa f g h := funext fun i => Cr.add_assoc _ _ _
  az f := funext fun i => Cr.add_zero _
  an f := funext fun i => Cr.add_neg _
  mc f g := Yf f g
  ma f g h := Y7 f g h
  m1 f := by
    refine (Yf (α := α) f (fun i => if i = 0 then 1 else 0)).trans ?_
    funext k
    show sgm (fun i => (if i = 0 then (1 : α) else 0) * f (k - i)) (k + 1) = f k
    rw [Yq (k := 0) (by omega) fun i hi hne => by rw [if_neg hne, Cr.zero_mul], if_pos rfl, Cr.one_mul, Nat.sub_zero]
  md f g h := by
    funext k
    show sgm (fun i => f i * (g (k - i) + h (k - i))) (k + 1) = sgm (fun i => f i * g (k - i)) (k + 1) + sgm (fun i => f i * h (k - i)) (k + 1)
    rw [<- Ys]
    exact Jt fun i _ => Cr.mul_add _ _ _
namespace Pl
omit [Cr α] in
theorem ext {f g : Pl α} (h : ∀ i, f i = g i) : f = g := funext h
theorem add_at (f g : Pl α) (i : Nat) : (f + g) i = f i + g i := rfl
theorem neg_at (f : Pl α) (i : Nat) : (-f) i = -(f i) := rfl
theorem Jau (f g : Pl α) (i : Nat) : (f - g) i = f i - g i := rfl
theorem one_at (i : Nat) : (1 : Pl α) i = if i = 0 then 1 else 0 := rfl
theorem mul_at (f g : Pl α) (k : Nat) : (f * g) k = sgm (fun i => f i * g (k - i)) (k + 1) := rfl
end Pl
/-! finite support -/
def Su (f : Pl α) (n : Nat) : Prop := ∀ i, n <= i -> f i = 0
theorem Su.mono {f : Pl α} {n m : Nat} (h : Su f n) (hm : n <= m) : Su f m := fun i hi => h i (by omega)
theorem Su.add {f g : Pl α} {n : Nat} (hf : Su f n) (hg : Su g n) : Su (f + g) n := fun i hi => by rw [Pl.add_at, hf i hi, hg i hi, Cr.add_zero]
theorem Su.neg {f : Pl α} {n : Nat} (hf : Su f n) : Su (-f) n := fun i hi => by rw [Pl.neg_at, hf i hi, Cr.neg_zero]
theorem Su.sub {f g : Pl α} {n : Nat} (hf : Su f n) (hg : Su g n) : Su (f - g) n := Su.add hf hg.neg
theorem Su.zero (n : Nat) : Su (0 : Pl α) n := fun i _ => rfl
theorem Su.one : Su (1 : Pl α) 1 := fun i hi => by rw [Pl.one_at, if_neg (by omega)]
theorem Su.eq0 {f : Pl α} (h : Su f 0) : f = 0 := Pl.ext fun i => h i (Nat.zero_le i)
theorem Su.mul {f g : Pl α} {n m : Nat} (hf : Su f n) (hg : Su g m) : Su (f * g) (n + m - 1) := fun k hk => by
 rw [Pl.mul_at]; refine QT fun i hi => ?_; by_cases h : n <= i
 .rw [hf i h, Cr.zero_mul]
 .rw [hg (k - i) (by omega), Cr.mul_zero]
theorem Zt {f g : Pl α} {n m : Nat} (hf : Su f (n + 1)) (hg : Su g (m + 1)) : (f * g) (n + m) = f n * g m := by
 rw [Pl.mul_at, Yq (k := n) (by omega) fun i hi hne => ?_, show n + m - n = m by omega]; by_cases h : n + 1 <= i
 .rw [hf i h, Cr.zero_mul]
 .rw [hg (n + m - i) (by omega), Cr.mul_zero]
/-- degree d -/
def Dg (f : Pl α) (d : Nat) : Prop := f d ≠ 0 /\ Su f (d + 1)
open Classical in
theorem YR {f : Pl α} : ∀ {n : Nat}, Su f n -> f = 0 ∨ ∃ d, d < n /\ Dg f d
  | 0, h => .inl h.eq0
  | n + 1, h => by
    by_cases h0 : f n = 0
    . rcases YR (f := f) (n := n) (fun i hi => by
        by_cases e : i = n
        . rw [e, h0]
        . exact h i (by omega)) with h1 | ⟨d, h1, h2⟩
      . exact .inl h1
      . exact .inr ⟨d, by omega, h2⟩
    . exact .inr ⟨n, by omega, h0, h⟩
theorem Dg.ne {f : Pl α} {d : Nat} (h : Dg f d) : f ≠ 0 := fun e => h.1 (by rw [e]; rfl)
theorem Dg.lt {f : Pl α} {d n : Nat} (h : Dg f d) (hs : Su f n) : d < n := by
 rcases Nat.lt_or_ge d n with h1 | h1
 .exact h1
 .exact absurd (hs d h1) h.1
end
end Go.Proofs.Ytfeeapdpahcanaa
set_option linter.unusedSectionVars false
namespace Go.Proofs.Ytfeeapdpahcanaa
/-! ### polynomials over a field -/
class Fd (α : Type) [Cr α] : Prop where
  ne : (1 : α) ≠ 0
  inv : ∀ x : α, x ≠ 0 -> ∃ y, x * y = 1
section
variable {α : Type} [Cr α]
def Fs (f : Pl α) : Prop := ∃ n, Su f n
theorem Fs.add {f g : Pl α} : Fs f -> Fs g -> Fs (f + g) := fun ⟨n, hn⟩ ⟨m, hm⟩ => ⟨max n m, (hn.mono (by omega)).add (hm.mono (by omega))⟩
theorem Fs.neg {f : Pl α} : Fs f -> Fs (-f) := fun ⟨n, hn⟩ => ⟨n, hn.neg⟩
theorem Fs.sub {f g : Pl α} (hf : Fs f) (hg : Fs g) : Fs (f - g) := hf.add hg.neg
theorem Fs.mul {f g : Pl α} : Fs f -> Fs g -> Fs (f * g) := fun ⟨n, hn⟩ ⟨m, hm⟩ => ⟨_, hn.mul hm⟩
theorem Fs.zero : Fs (0 : Pl α) := ⟨0, Su.zero 0⟩
theorem Fs.one : Fs (1 : Pl α) := ⟨1, Su.one⟩
/-! divisibility -/
def Dv (f g : Pl α) : Prop := ∃ h, Fs h /\ g = f * h
theorem Dv.refl (f : Pl α) : Dv f f := ⟨1, Fs.one, (Cr.mul_one f).symm⟩
theorem Dv.zero (f : Pl α) : Dv f 0 := ⟨0, Fs.zero, (Cr.mul_zero f).symm⟩
theorem Dv.trans {f g h : Pl α} : Dv f g -> Dv g h -> Dv f h := fun ⟨a, ha, h1⟩ ⟨b, hb, h2⟩ => ⟨a * b, ha.mul hb, by rw [h2, h1, Cr.mul_assoc]⟩
theorem Dv.add {f g h : Pl α} : Dv f g -> Dv f h -> Dv f (g + h) := fun ⟨a, ha, h1⟩ ⟨b, hb, h2⟩ => ⟨a + b, ha.add hb, by rw [h1, h2, Cr.mul_add]⟩
theorem Dv.neg {f g : Pl α} : Dv f g -> Dv f (-g) := fun ⟨a, ha, h1⟩ => ⟨-a, ha.neg, by rw [h1, Cr.mul_neg]⟩
theorem Dv.sub {f g h : Pl α} (h1 : Dv f g) (h2 : Dv f h) : Dv f (g - h) := h1.add h2.neg
theorem Dv.mulr {f g : Pl α} (h : Dv f g) {a : Pl α} (ha : Fs a) : Dv f (g * a) := by
 obtain ⟨b, hb, rfl⟩ := h; exact ⟨b * a, hb.mul ha, Cr.mul_assoc _ _ _⟩
theorem Dv.mull {f g : Pl α} (h : Dv f g) {a : Pl α} (ha : Fs a) : Dv f (a * g) := by rw [Cr.mul_comm]; exact h.mulr ha
/-- the greatest common divisors of two polynomials, but for a factor -/
def Gd (p q d : Pl α) : Prop := Dv d p /\ Dv d q /\ ∀ c, Dv c p -> Dv c q -> Dv c d
theorem Gd.step {p q a r d : Pl α} (ha : Fs a) (e : p = a * q + r) (h : Gd q r d) : Gd p q d := by
 refine ⟨by rw [e]; exact (h.1.mull ha).add h.2.1, h.1, fun c h1 h2 => h.2.2 c h2 ?_⟩; have : r = p - a * q := by rw [e, Cr.add_comm, Cr.add_sub]
 rw [this]; exact h1.sub (h2.mull ha)
theorem Gd.zero (p : Pl α) : Gd p 0 p := ⟨Dv.refl p, Dv.zero p, fun c h _ => h⟩
theorem Gd.symm {p q d : Pl α} (h : Gd p q d) : Gd q p d := ⟨h.2.1, h.1, fun c h1 h2 => h.2.2 c h2 h1⟩
def Mn (f : Pl α) : Prop := ∃ d, Dg f d /\ f d = 1
/-! congruence -/
def Cg (m f g : Pl α) : Prop := Dv m (f - g)
theorem Cg.refl (m f : Pl α) : Cg m f f := by unfold Cg; rw [Cr.sub_self]; exact Dv.zero m
theorem Cg.symm {m f g : Pl α} (h : Cg m f g) : Cg m g f := by have := Dv.neg h; rwa [Cr.neg_sub] at this
theorem Cg.trans {m f g k : Pl α} (h : Cg m f g) (h' : Cg m g k) : Cg m f k := by
 have := Dv.add h h'; have e : f - g + (g - k) = f - k := by
  rw [Cr.sub_eq, Cr.sub_eq, Cr.sub_eq, Cr.add_assoc, <- Cr.add_assoc (-g), Cr.neg_add, Cr.zero_add]
 rwa [e] at this
theorem Cg.mul {m f g f' g' : Pl α} (h : Cg m f g) (h' : Cg m f' g') (hf : Fs f') (hg : Fs g) : Cg m (f * f') (g * g') := by
 have := Dv.add (Dv.mulr h hf) (Dv.mull h' hg); have e : (f - g) * f' + g * (f' - g') = f * f' - g * g' := by
  rw [Cr.sub_mul, Cr.mul_sub, Cr.sub_eq, Cr.sub_eq, Cr.sub_eq, Cr.add_assoc, <- Cr.add_assoc (-(g * f')), Cr.neg_add, Cr.zero_add]
 rw [e] at this; exact this
/-! powers and values -/
def pwr (x : α) : Nat -> α
  | 0 => 1
  | n + 1 => pwr x n * x
def evp (f : Pl α) (n : Nat) (x : α) : α := sgm (fun i => f i * pwr x i) n
open Classical in
noncomputable def vl_ (f : Pl α) (x : α) : α := if h : Fs f then evp f (Classical.choose h) x else 0
end
section
variable {α : Type} [Cr α] [Fd α]
theorem Fd.nzd {x y : α} (h : x * y = 0) : x = 0 ∨ y = 0 := by
 by_cases h0 : x = 0
 .exact .inl h0
 .obtain ⟨z, hz⟩ := Fd.inv x h0; refine .inr ?_; rw [<- Cr.one_mul y, <- hz, Cr.mul_comm x, Cr.mul_assoc, h, Cr.mul_zero]
theorem Dg.mul {f g : Pl α} {a b : Nat} (hf : Dg f a) (hg : Dg g b) : Dg (f * g) (a + b) :=
 ⟨fun h => by rw [Zt hf.2 hg.2] at h; rcases Fd.nzd h with h | h; exact hf.1 h; exact hg.1 h, (hf.2.mul hg.2).mono (by omega)⟩
theorem Pl.nzd {f g : Pl α} (hf : Fs f) (hg : Fs g) (h : f * g = 0) : f = 0 ∨ g = 0 := by
 obtain ⟨n, hn⟩ := hf; obtain ⟨m, hm⟩ := hg; rcases YR hn with h1 | ⟨a, _, h1⟩
 .exact .inl h1
 .rcases YR hm with h2 | ⟨b, _, h2⟩
  .exact .inr h2
  .exact absurd h (h1.mul h2).ne
open Classical in
/-- the monic greatest common divisor -/
noncomputable def gc (f g : Pl α) : Pl α := if h : ∃ d, Gd f g d /\ Fs d /\ (Mn d ∨ d = 0) then Classical.choose h else 0
open Classical in
noncomputable def qt (f g : Pl α) : Pl α := if h : ∃ a r d, Dg g d /\ Fs a /\ f = a * g + r /\ Su r d then Classical.choose h else 0
noncomputable def rm (f g : Pl α) : Pl α := f - qt f g * g
open Classical in
noncomputable def inv_ (x : α) : α := if h : ∃ y, x * y = 1 then Classical.choose h else 0
end
end Go.Proofs.Ytfeeapdpahcanaa
namespace Go.Proofs.Ytfeeapdpahcanaa
/-! ### counting: how many of the numbers below n have a property -/
section
open Classical
noncomputable def ctp (p : Nat -> Prop) : Nat -> Nat
  | 0 => 0
  | n + 1 => ctp p n + (if p n then 1 else 0)
theorem Jbl (p : Nat -> Prop) : ∀ n, ctp p n <= n
 | 0 => Nat.le_refl 0
 | n + 1 => by unfold ctp; have := Jbl p n; split <;> omega
theorem Yl {p q : Nat -> Prop} : ∀ {n : Nat}, (∀ i, i < n -> (p i ↔ q i)) -> ctp p n = ctp q n
 | 0, _ => rfl
 | n + 1, h => by
  unfold ctp; rw [Yl (n := n) fun i hi => h i (by omega)]; by_cases hp : p n
  .rw [if_pos hp, if_pos ((h n (by omega)).1 hp)]
  .rw [if_neg hp, if_neg (fun q => hp ((h n (by omega)).2 q))]
theorem YT (p : Nat -> Prop) (a : Nat) (ha : p a) : ∀ n, a < n -> ctp p n = ctp (fun i => p i /\ i ≠ a) n + 1
 | 0, h => absurd h (Nat.not_lt_zero a)
 | n + 1, h => by
  unfold ctp; by_cases e : a = n
  .subst e; rw [if_pos ha, if_neg (fun q => q.2 rfl), Yl (n := a) (q := fun i => p i /\ i ≠ a) fun i hi => ⟨fun x => ⟨x, by omega⟩, fun x => x.1⟩]
  .rw [YT p a ha n (by omega)]; by_cases hp : p n
   .rw [if_pos hp, if_pos ⟨hp, fun x => e x.symm⟩]
   .rw [if_neg hp, if_neg (fun q => hp q.1)]
theorem ZR (n : Nat) : ∀ (k : Nat) (p : Nat -> Prop) (g : Nat -> Nat), (∀ i, i < k -> g i < n /\ p (g i)) -> (∀ i j, i < j -> j < k -> g i ≠ g j) -> k <= ctp p n
 | 0, _, _, _, _ => Nat.zero_le _
 | k + 1, p, g, h, hd => by
  have h0 := h k (by omega); rw [YT p (g k) h0.2 n h0.1]; have := ZR n k (fun i => p i /\ i ≠ g k) g (fun i hi => ⟨(h i (by omega)).1, (h i (by omega)).2, hd i k hi (by omega)⟩) (fun i j h1 h2 => hd i j h1 (by omega)); omega
end
section
variable {α : Type} [Cr α] [Fd α]
end
end Go.Proofs.Ytfeeapdpahcanaa
namespace Go.Proofs.Ytfeeapdpahcanaa
/-! ### ascending lists -/
section
open Classical
/-- the numbers below m that have a property -/
noncomputable def AL (P : Nat -> Prop) (m : Nat) : LI := ((List.range m).filter fun j => decide (P j)).map fun j : Nat => ((j : Nat) : Int)
theorem Jdh (P : Nat -> Prop) : AL P 0 = [] := rfl
theorem Zq {P : Nat -> Prop} {m : Nat} (h : P m) : AL P (m + 1) = AL P m ++ [(m : Int)] := by
 unfold AL; rw [List.range_succ, List.filter_append, List.map_append, List.filter_cons_of_pos (p := fun j => decide (P j)) (decide_eq_true h)]; rfl
theorem Zr {P : Nat -> Prop} {m : Nat} (h : ¬ P m) : AL P (m + 1) = AL P m := by
 unfold AL; rw [List.range_succ, List.filter_append, List.filter_cons_of_neg (p := fun j => decide (P j)) (by rw [decide_eq_false h]; decide), List.filter_nil, List.append_nil]
theorem YE {P : Nat -> Prop} {m : Nat} {x : Int} : x ∈ AL P m ↔ ∃ j : Nat, j < m /\ P j /\ x = j := by
 unfold AL; rw [List.mem_map]; constructor
 .rintro ⟨j, hj, e⟩; have := List.mem_filter.1 hj; exact ⟨j, List.mem_range.1 this.1, of_decide_eq_true this.2, e.symm⟩
 .rintro ⟨j, h1, h2, e⟩; exact ⟨j, List.mem_filter.2 ⟨List.mem_range.2 h1, decide_eq_true h2⟩, e.symm⟩
theorem YG (P : Nat -> Prop) (m : Nat) : (AL P m).Pairwise fun x y => x < y := by
 unfold AL; rw [List.pairwise_map]; exact (List.pairwise_lt_range.filter _).imp fun h => by omega
theorem YF (P : Nat -> Prop) : ∀ m, (AL P m).length <= m
 | 0 => by rw [Jdh]; simp
 | m + 1 => by
  have := YF P m; by_cases h : P m
  .rw [Zq h, List.length_append]; simp; omega
  .rw [Zr h]; omega
theorem ZS : ∀ {l o : LI}, (l.Pairwise fun x y => x < y) -> (o.Pairwise fun x y => x < y) -> (∀ x, x ∈ l ↔ x ∈ o) -> l = o
 | [], [], _, _, _ => rfl
 | [], b :: o, _, _, h => absurd ((h b).2 (List.mem_cons_self ..)) (by simp)
 | a :: l, [], _, _, h => absurd ((h a).1 (List.mem_cons_self ..)) (by simp)
 | a :: l, b :: o, h1, h2, h => by
  have p1 := List.pairwise_cons.1 h1; have p2 := List.pairwise_cons.1 h2; have e : a = b := by
   rcases List.mem_cons.1 ((h a).1 (List.mem_cons_self ..)) with e | e
   .exact e
   .rcases List.mem_cons.1 ((h b).2 (List.mem_cons_self ..)) with e' | e'
    .exact e'.symm
    .have := p1.1 b e'; have := p2.1 a e; omega
  subst e; rw [ZS p1.2 p2.2 fun x => ?_]; constructor
  .intro hx; rcases List.mem_cons.1 ((h x).1 (List.mem_cons_of_mem _ hx)) with e | e
   .have := p1.1 x hx; omega
   .exact e
  .intro hx; rcases List.mem_cons.1 ((h x).2 (List.mem_cons_of_mem _ hx)) with e | e
   .have := p2.1 x hx; omega
   .exact e
theorem Jci {l : LI} (h : l.Nodup) : (srt l).Pairwise fun x y => x < y := by
 have h1 := Y5 l; have h2 : (srt l).Nodup := (QS l).nodup_iff.2 h; exact (h1.and h2).imp fun ⟨a, b⟩ => by omega
theorem srt_AL {l : LI} {P : Nat -> Prop} {m : Nat} (h : l.Nodup) (hm : ∀ x, x ∈ l ↔ ∃ j : Nat, j < m /\ P j /\ x = j) : srt l = AL P m :=
 ZS (Jci h) (YG P m) fun x => by rw [(QS l).mem_iff, hm, YE]
end
/-! ### the orbits of the multiplication by q -/
def itr (q n i : Nat) : Nat -> Nat
  | 0 => i
  | t + 1 => itr q n i t * q % n
/-- j is in the coset of i -/
def Cst (q n i j : Nat) : Prop := ∃ t, itr q n i t = j
section
variable {q n : Nat}
theorem J6 (hn : 0 < n) {i : Nat} (hi : i < n) : ∀ t, itr q n i t < n
 | 0 => hi
 | t + 1 => Nat.mod_lt _ hn
theorem Qp (q n i s : Nat) : ∀ t, itr q n (itr q n i s) t = itr q n i (s + t)
 | 0 => rfl
 | t + 1 => by show itr q n (itr q n i s) t * q % n = _; rw [Qp q n i s t]; rfl
theorem Jcf (hc : Nat.gcd q n = 1) {x y : Nat} (hx : x < n) (hy : y < n) (e : x * q % n = y * q % n) : x = y := by
 have key : ∀ x y : Nat, x <= y -> y < n -> x * q % n = y * q % n -> x = y := fun x y hxy hy e => by
  have h1 := Nat.sub_mod_eq_zero_of_mod_eq e.symm; rw [<- Nat.sub_mul] at h1; have h2 : n ∣ y - x := Nat.Coprime.dvd_of_dvd_mul_right (by rw [Nat.Coprime, Nat.gcd_comm]; exact hc) (Nat.dvd_of_mod_eq_zero h1); rcases Nat.eq_zero_or_pos (y - x) with h | h
  .omega
  .have := Nat.le_of_dvd h h2; omega
 rcases Nat.le_total x y with h | h
 .exact key x y h hy e
 .exact (key y x h hx e.symm).symm
theorem ZL (hc : Nat.gcd q n = 1) (hn : 0 < n) {i j : Nat} (hi : i < n) (hj : j < n) : ∀ s, itr q n i s = itr q n j s -> i = j
 | 0, e => e
 | s + 1, e => ZL hc hn hi hj s (Jcf hc (J6 hn hi s) (J6 hn hj s) e)
theorem Ja7 (hc : Nat.gcd q n = 1) (hn : 0 < n) {i : Nat} (hi : i < n) : ∃ t, 0 < t /\ itr q n i t = i := by
 refine Classical.byContradiction fun hno => ?_; have hd : ∀ s t : Nat, s < t -> itr q n i s ≠ itr q n i t := fun s t hst e => hno ⟨t - s, by omega, by
  have h1 : itr q n (itr q n i (t - s)) s = itr q n i t := by rw [Qp, show t - s + s = t by omega]
  exact ZL hc hn (J6 hn hi _) hi s (h1.trans e.symm)⟩
 have := ZR n (n + 1) (fun _ => True) (itr q n i) (fun s _ => ⟨J6 hn hi s, trivial⟩) fun s t hst _ => hd s t hst; have := Jbl (fun _ => True) n; omega
theorem Cst.refl (i : Nat) : Cst q n i i := ⟨0, rfl⟩
theorem Cst.trans {i j k : Nat} : Cst q n i j -> Cst q n j k -> Cst q n i k := by
 rintro ⟨s, rfl⟩ ⟨t, rfl⟩; exact ⟨s + t, (Qp q n i s t).symm⟩
theorem Cst.lt (hn : 0 < n) {i j : Nat} (hi : i < n) (h : Cst q n i j) : j < n := by obtain ⟨t, rfl⟩ := h; exact J6 hn hi t
theorem Cst.symm (hc : Nat.gcd q n = 1) (hn : 0 < n) {i j : Nat} (hi : i < n) (h : Cst q n i j) : Cst q n j i := by
 obtain ⟨t, rfl⟩ := h; obtain ⟨T, hT, e⟩ := Ja7 (q := q) hc hn hi; have hm : ∀ m, itr q n i (m * T) = i := fun m => by
  induction m with
  | zero => rw [Nat.zero_mul]; rfl
  | succ m ih => rw [Nat.succ_mul, <- Qp, ih, e]
 refine ⟨t * T - t, ?_⟩; rw [Qp, show t + (t * T - t) = t * T by have := Nat.le_mul_of_pos_right t hT; omega, hm]
/-- an initial part of an orbit that its last member's successor lies in is all of it -/
theorem Q0 {i t : Nat} (h : ∃ s, s < t /\ itr q n i t = itr q n i s) : ∀ u, ∃ s, s < t /\ itr q n i u = itr q n i s
  | 0 => ⟨0, by obtain ⟨s, hs, _⟩ := h; omega, rfl⟩
  | u + 1 => by
    obtain ⟨s, hs, e⟩ := Q0 h u
    by_cases hst : s + 1 < t
    . exact ⟨s + 1, hst, by show itr q n i u * q % n = itr q n i s * q % n; rw [e]⟩
    . have : s + 1 = t := by omega
      subst this
      obtain ⟨s', hs', e'⟩ := h
      exact ⟨s', hs', by rw [<- e']; show itr q n i u * q % n = itr q n i s * q % n; rw [e]⟩
theorem Qm {i t : Nat} (h : ∃ s, s < t /\ itr q n i t = itr q n i s) {j : Nat} : Cst q n i j ↔ ∃ s, s < t /\ itr q n i s = j := by
 constructor
 .rintro ⟨u, rfl⟩; obtain ⟨s, hs, e⟩ := Q0 h u; exact ⟨s, hs, e.symm⟩
 .rintro ⟨s, _, e⟩; exact ⟨s, e⟩
/-- no smaller number is in its coset -/
def Ldr (q n i : Nat) : Prop := ∀ j, j < i -> ¬ Cst q n j i
theorem Ldr.ex (hc : Nat.gcd q n = 1) (hn : 0 < n) : ∀ {i : Nat}, i < n -> ∃ j, j <= i /\ Ldr q n j /\ Cst q n j i := fun {i} hi => by
 induction i using Nat.strongRecOn with
 | _ i ih =>
  by_cases h : Ldr q n i
  .exact ⟨i, Nat.le_refl i, h, Cst.refl i⟩
  .have : ∃ j, j < i /\ Cst q n j i := Classical.byContradiction fun c => h fun j hj hr => c ⟨j, hj, hr⟩; obtain ⟨j, hj, hr⟩ := this; obtain ⟨k, hk, hm, hr'⟩ := ih j hj (by omega); exact ⟨k, by omega, hm, hr'.trans hr⟩
/-- the coset of i, and the cosets of the numbers below m -/
noncomputable def orb (q n i : Nat) : LI := AL (Cst q n i) n
noncomputable def CL (q n m : Nat) : LL := (AL (Ldr q n) m).map fun i => orb q n i.toNat
theorem Jca {m : Nat} (h : Ldr q n m) : CL q n (m + 1) = CL q n m ++ [orb q n m] := by unfold CL; rw [Zq h, List.map_append]; rfl
theorem Jcb {m : Nat} (h : ¬ Ldr q n m) : CL q n (m + 1) = CL q n m := by unfold CL; rw [Zr h]
theorem YD (m : Nat) : (CL q n m).length <= m := by unfold CL; rw [List.length_map]; exact YF _ m
theorem ZY {m k : Nat} (hk : k < (CL q n m).length) : ∃ i : Nat, i < m /\ Ldr q n i /\ gi (AL (Ldr q n) m) k = i /\ gl (CL q n m) k = orb q n i := by
 have hk' : k < (AL (Ldr q n) m).length := by unfold CL at hk; rwa [List.length_map] at hk
 have hm : (AL (Ldr q n) m)[k] ∈ AL (Ldr q n) m := List.getElem_mem hk'; obtain ⟨i, hi, hM, e⟩ := YE.1 hm; refine ⟨i, hi, hM, ?_, ?_⟩
 .unfold gi; rw [Int.toNat_natCast, List.getD_eq_getElem?_getD, List.getElem?_eq_getElem hk']; exact e
 .unfold gl CL; rw [Int.toNat_natCast, List.getD_eq_getElem?_getD, List.getElem?_map, List.getElem?_eq_getElem hk']; show orb q n ((AL (Ldr q n) m)[k]).toNat = _; rw [e]; rfl
theorem JQ {i : Nat} {x : Int} : x ∈ orb q n i ↔ ∃ j : Nat, j < n /\ Cst q n i j /\ x = j := YE
end
end Go.Proofs.Ytfeeapdpahcanaa
