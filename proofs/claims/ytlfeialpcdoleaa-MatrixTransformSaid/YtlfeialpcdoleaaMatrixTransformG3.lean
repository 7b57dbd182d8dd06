/- Contracts of functions of the program, and what they lean on: Draw9, Draw10, Gk, Sx, Nt, Xl, Facts, Ab, D1, It, Gf, D2. -/
import Derived.Test.YtlfeialpcdoleaaMatrixTransformG2
import Derived.Test.YtlfeialpcdoleaaProg
set_option linter.unusedSimpArgs false
set_option linter.unusedVariables false
namespace Go.Proofs.Ytlfeialpcdoleaa
open Go.RowKit
def Jqm (l : List Oper) (q : Nat -> Option Nat) (u : Nat -> Nat) (T : Nat) : Bool :=
  ((List.range l.length).all fun i => match q i with
    | none => true
    | some s => Nat.blt s T && (List.range l.length).all fun k => match q k with
      | none => true
      | some r => k == i || (r != s && (!(Nat.blt r s) || (Qi l i).contains k))) &&
  ((List.range T).all fun s => (List.range l.length).any fun k => q k == some s) &&
  (List.range l.length).all fun i => (q i).isSome || Nat.ble T (u i) || (List.range l.length).all fun k => q k != some (u i) || (Qi l k).contains i
def Jrz (n : Nat) (l : List Oper) (ps : List Plan) (q : Nat -> Option Nat) : Bool :=
  ps.length == l.length && (List.range l.length).all fun i =>
    (Qi l i).all (fun j => Nat.blt j i) &&
    (match ps[i]? with
     | none => false
     | some p => p.on.all (fun j => (Qi l i).contains j && (q j).isNone) && p.slots.all (fun t => (List.range l.length).all fun k => k == i || JR l k != some t || (Qi l k).contains i)) &&
    (match JR l i with
     | none => (q i).isSome
     | some d => (q i).isNone && Nat.blt d n && (List.range l.length).all fun k => k == i || JR l k != some d)
def obS (P : Program) (n : Nat) (ro : Option Nat) (df : List Deferred) (l : List Oper) (F : Fr) (q : Nat -> Option Nat) (u : Nat -> Nat) (T : Nat) (G : Nat -> World -> Prop) (i : Nat) (o : Oper) (p : Plan) (b : Fr) : Prop :=
  match q i with
  | some s => ∀ w, G s w -> ∀ R : Fr, WL P n ro df l.toArray [o] (fun _ L' w' => L' = Jan F p.on b ++ R /\ G (s + 1) w') (Jan F p.on b ++ R) w
  | none => ∀ s w, s <= u i -> s <= T -> G s w -> ∀ R : Fr, WL P n ro df l.toArray [o] (fun _ L' w' => L' = F.getD i F0 :: (Jan F p.on b ++ R) /\ w' = w) (Jan F p.on b ++ R) w
def obsS (P : Program) (n : Nat) (ro : Option Nat) (df : List Deferred) (l : List Oper) (F : Fr) (q : Nat -> Option Nat) (u : Nat -> Nat) (T : Nat) (G : Nat -> World -> Prop) (L : Fr) : Nat -> List Oper -> List Plan -> List Fr -> Prop
  | i, o :: os, p :: ps, b :: bs => (b.map (·.1) = p.slots /\ sub b L /\ obS P n ro df l F q u T G i o p b) /\ obsS P n ro df l F q u T G L (i + 1) os ps bs
  | _, [], [], [] => True
  | _, _, _, _ => False
theorem Jm9 {P : Program} {n : Nat} {ro : Option Nat} {df : List Deferred} {l : List Oper} {F : Fr} {q : Nat -> Option Nat} {u : Nat -> Nat} {T : Nat} {G : Nat -> World -> Prop} {L : Fr} : ∀ (os : List Oper) (ps : List Plan) (bs : List Fr) (i : Nat),
  obsS P n ro df l F q u T G L i os ps bs -> ∀ k o p, os[k]? = some o -> ps[k]? = some p -> ∃ b, b.map (·.1) = p.slots /\ sub b L /\ obS P n ro df l F q u T G (i + k) o p b
 | [], _, _, _, _, k, _, _, ho, _ => by simp at ho
 | o :: os, [], _, _, h, _, _, _, _, hp => by simp at hp
 | o :: os, p :: ps, [], _, h, _, _, _, _, _ => by exact h.elim
 | o :: os, p :: ps, b :: bs, i, h, 0, _, _, ho, hp => by cases ho; cases hp; exact ⟨b, h.1⟩
 | o :: os, p :: ps, b :: bs, i, h, k + 1, o', p', ho, hp => by
  obtain ⟨b', h'⟩ := Jm9 os ps bs (i + 1) h.2 k o' p' (by simpa using ho) (by simpa using hp); exact ⟨b', by rw [show i + (k + 1) = i + 1 + k by omega]; exact h'⟩
theorem Jiv (F : Fr) : ∀ (js : List Nat) (A : Fr), Jan F js A = (js.map fun j => F.getD j F0).reverse ++ A
 | [], A => rfl
 | j :: js, A => by
  show Jan F js (F.getD j F0 :: A) = _; rw [Jiv F js]; simp
structure SInv (n : Nat) (df : List Deferred) (l : List Oper) (F : Fr) (q : Nat -> Option Nat) (T : Nat) (G : Nat -> World -> Prop) (L : Fr) (d : Nat -> Bool) (a : Act) (w : World) : Prop where
  nd : a.defers = df
  sz : a.tmps.size = n
  old : ∀ t v, lk L t = some v -> (∀ k, d k = true -> JR l k ≠ some t) -> a.tmps[t]? = some v
  new : ∀ k t, d k = true -> JR l k = some t -> a.tmps[t]? = some (F.getD k F0).2
  st : ∃ s, s <= T /\ G s w /\ ∀ i r, i < l.length -> q i = some r -> (d i = true ↔ r < s)
  cl : ∀ k, d k = true -> ∀ j ∈ Qi l k, d j = true
  lt : ∀ k, d k = true -> k < l.length
theorem Jvf {P : Program} {n id : Nat} {ro : Option Nat} {df : List Deferred} {l : List Oper} {N : Qo} {B : QG} {L : Fr} {w0 : World} (ps : List Plan) (bs : List Fr) (F F' : Fr) (q : Nat -> Option Nat) (u : Nat -> Nat) (T : Nat) (G : Nat -> World -> Prop)
  (hm : P.follows .mixedOrders = true) (hB : Jrz n l ps q = true) (hst : Jqm l q u T = true)
  (hds : (List.range l.length).all (fun i => match JR l i with | none => true | some t => (F.getD i F0).1 == t) = true)
  (hF' : ((List.range l.length).filterMap fun i => (JR l i).map fun t => (t, (F.getD i F0).2)) = F')
  (h0 : ∀ w', w0.grownBy w' none -> G 0 w')
  (hobs : obsS P n ro df l F q u T G L 0 l ps bs)
  (hN : ∀ w', G T w' -> N df (F' ++ L) w') : W P n ro df (.region id l.toArray true) N B L w0 := by
 subst hF'; simp only [Jrz, Bool.and_eq_true, List.all_eq_true, List.mem_range, beq_iff_eq] at hB; obtain ⟨hlen, hB⟩ := hB; simp only [Jqm, Bool.and_eq_true, List.all_eq_true, List.mem_range, List.any_eq_true, beq_iff_eq] at hst; obtain ⟨⟨hst, hsur⟩, hup⟩ := hst; have hqT : ∀ i s, i < l.length -> q i = some s -> s < T := fun i s hi hq => by
  have := hst i hi; rw [hq] at this; simp only [Bool.and_eq_true] at this
  simpa [Nat.blt_eq] using this.1
 have hqq : ∀ i k s r, i < l.length -> k < l.length -> q i = some s -> q k = some r -> k ≠ i -> r ≠ s /\ (r < s -> k ∈ Qi l i) := fun i k s r hi hk hq hr hne => by
  have := hst i hi; rw [hq] at this; simp only [Bool.and_eq_true, List.all_eq_true, List.mem_range] at this; have := this.2 k hk; rw [hr] at this; simp only [Bool.or_eq_true, Bool.and_eq_true, beq_iff_eq, bne_iff_ne, ne_eq, Bool.not_eq_true', List.contains_iff_mem] at this; rcases this with h | ⟨h1, h2⟩
  .exact absurd h hne
  .refine ⟨h1, fun h3 => h2.resolve_left fun h4 => ?_⟩; rw [show Nat.blt r s = true by rw [Nat.blt_eq]; exact h3] at h4; cases h4
 have hsl : ∀ s, s < T -> ∃ k, k < l.length /\ q k = some s := fun s hs => by
  obtain ⟨k, hk, h⟩ := hsur s hs; exact ⟨k, hk, h⟩
 have hdF : ∀ i t, i < l.length -> JR l i = some t -> (F.getD i F0).1 = t := fun i t hi hd => by
  have := List.all_eq_true.1 hds i (List.mem_range.2 hi); rw [hd] at this
  simpa using this
 refine ⟨fun a ha => wpIn_mono (Q := Y0 n df N B) (wpIn_region_any hm ?_) YO⟩; have key : ∀ (fuel : Nat) (listed : Array Bool) (a : Act) (w : World), listed.size = l.length -> (listed.toList.filter (!·)).length = fuel ->
   SInv n df l F q T G L (fun k => listed.getD k false) a w -> wpAnyIn (QN ro) 0 P .any l.toArray (Y0 n df N B) fuel listed a w := by
  intro fuel
  induction fuel with
  | zero =>
   intro listed a w hsz hf I; have hall : ∀ k, k < l.length -> listed.getD k false = true := fun k hk => by
    have := Jav hf k (by simpa [hsz] using hk); simp only [Array.getElem?_toList] at this; simp [Array.getD_eq_getD_getElem?, this]
   refine ⟨?_, ?_⟩
   .cases hr : Region.ready .any l.toArray listed with
    | nil => rfl
    | cons i r =>
     have hi : i ∈ Region.ready .any l.toArray listed := by rw [hr]; exact List.mem_cons_self ..
     obtain ⟨h1, o, ho, _⟩ := mem_ready.1 hi; have hlt : i < l.length := by have := (Array.getElem?_eq_some_iff.1 ho).1; simpa using this
     have := hall i hlt; have hs : i < listed.size := by omega
     simp [Array.getD_eq_getD_getElem?, hs] at h1 this; rw [h1] at this; cases this
   .refine ⟨_, ⟨I.nd, I.sz, ?_⟩, hN w ?_⟩
    .intro t v hv; rw [QW] at hv; cases hc : lk ((List.range l.length).filterMap fun i => (JR l i).map fun t => (t, (F.getD i F0).2)) t with
     | some u =>
      rw [hc] at hv; cases hv; have := ZF hc; simp only [List.mem_filterMap, List.mem_range, Option.map_eq_some_iff] at this; obtain ⟨k, hk, t', ht', he⟩ := this; cases he; exact I.new k t (hall k hk) ht'
     | none =>
      rw [hc] at hv; refine I.old t v hv fun k hk hd => ?_; have hm : (t, (F.getD k F0).2) ∈ (List.range l.length).filterMap fun i => (JR l i).map fun t => (t, (F.getD i F0).2) := by
       simp only [List.mem_filterMap, List.mem_range, Option.map_eq_some_iff]; exact ⟨k, I.lt k hk, t, hd, rfl⟩
      obtain ⟨u, hu⟩ := Jdf hm; rw [hc] at hu; cases hu
    .obtain ⟨s, h1, h2, h3⟩ := I.st; rcases Nat.lt_or_ge s T with h | h
     .obtain ⟨k, hk, hq⟩ := hsl s h; have := (h3 k s hk hq).1 (hall k hk); omega
     .rw [show T = s by omega]; exact h2
  | succ fuel ih =>
   intro listed a w hsz hf I; have hlist : ∀ k, listed.getD k true = false -> k < l.length /\ listed.getD k false = false := fun k hk => by
    rcases Nat.lt_or_ge k listed.size with h | h
    .simp [Array.getD_eq_getD_getElem?, h] at hk ⊢; exact ⟨by omega, hk⟩
    .simp [Array.getD_eq_getD_getElem?, Array.getElem?_eq_none h] at hk
   refine ⟨?_, ?_⟩
   .intro hr
    -- the first that has not come up yet is ready
    exfalso; have hex : ∃ k, k < l.length /\ listed.getD k false = false := by
     by_cases hc : ∃ k, k < l.length /\ listed.getD k false = false
     .exact hc
     .have hfe : listed.toList.filter (!·) = [] := by
       rw [List.filter_eq_nil_iff]; intro b hb; obtain ⟨k, hk, rfl⟩ := List.mem_iff_getElem.1 hb; have hk' : k < listed.size := by simpa using hk
       have : ¬ listed.getD k false = false := fun h => hc ⟨k, by omega, h⟩; simp [Array.getD_eq_getD_getElem?, hk'] at this; simp [this]
      rw [hfe] at hf; simp at hf
    have hmin : ∀ m, (∃ k, k <= m /\ k < l.length /\ listed.getD k false = false) -> ∃ k, k < l.length /\ listed.getD k false = false /\ ∀ j, j < k -> listed.getD j false = true := by
     intro m
     induction m with
     | zero => rintro ⟨k, hk, h1, h2⟩; exact ⟨k, h1, h2, fun j hj => by omega⟩
     | succ m ihm =>
      rintro ⟨k, hk, h1, h2⟩; by_cases hc : ∃ j, j <= m /\ j < l.length /\ listed.getD j false = false
      .exact ihm hc
      .refine ⟨k, h1, h2, fun j hj => ?_⟩; cases hb : listed.getD j false with
       | true => rfl
       | false => exact absurd ⟨j, by omega, by omega, hb⟩ hc
    obtain ⟨k0, hk0, hk0'⟩ := hex; obtain ⟨k, h1, h2, h3⟩ := hmin k0 ⟨k0, Nat.le_refl _, hk0, hk0'⟩; have hin : k ∈ Region.ready .any l.toArray listed := by
     refine mem_ready.2 ⟨?_, l[k], by simp [h1], fun e he hb => ?_⟩
     .have : k < listed.size := by omega
      simp [Array.getD_eq_getD_getElem?, this] at h2 ⊢; exact h2
     .have := (hB k h1).1.1 e.on (by
       simp only [Qi, List.getElem?_eq_getElem h1, List.mem_map, List.mem_filter]; exact ⟨e, ⟨by simpa using he, hb⟩, rfl⟩)
      exact h3 e.on (by simpa [Nat.blt_eq] using this)
    rw [hr] at hin; cases hin
   .intro i hi; obtain ⟨h1, o, ho, hpre⟩ := mem_ready.1 hi; obtain ⟨hil, hun⟩ := hlist i h1; have ho' : l[i]? = some o := by simpa using ho
    have hpre' : ∀ j ∈ Qi l i, listed.getD j false = true := fun j hj => by
     simp only [Qi, ho', List.mem_map, List.mem_filter] at hj; obtain ⟨e, ⟨he, hb⟩, rfl⟩ := hj; exact hpre e (by simpa using he) hb
    obtain ⟨⟨_, hp⟩, hd⟩ := hB i hil; have hpi : i < ps.length := by omega
    rw [List.getElem?_eq_getElem hpi] at hp; generalize hpe : ps[i] = p at hp; simp only [Bool.and_eq_true, List.all_eq_true, Bool.or_eq_true, List.mem_range, beq_iff_eq, bne_iff_ne, ne_eq, List.contains_iff_mem] at hp; obtain ⟨hon, hsl'⟩ := hp; obtain ⟨b, hbs, hsub, hob⟩ := Jm9 l ps bs 0 hobs i o p ho' (by rw [List.getElem?_eq_getElem hpi, hpe]); rw [Nat.zero_add] at hob; have hFe := Jiv F p.on b; obtain ⟨s, hs1, hs2, hs3⟩ := I.st; have hdst : ∀ j, j < l.length -> q j = none -> ∃ d, JR l j = some d /\ d < n := fun j hj hne => by
     have := (hB j hj).2; cases hd : JR l j with
     | none => rw [hd, hne] at this; cases this
     | some d => rw [hd] at this; simp only [Bool.and_eq_true] at this; exact ⟨d, rfl, by simpa [Nat.blt_eq] using this.1.2⟩
    unfold obS at hob; generalize hF : Jan F p.on b = FF at hob hFe; have hHF : Has n df a (FF ++ (List.range n).map fun t => (t, a.tmps.getD t undef)) := by
     refine ⟨I.nd, I.sz, fun t v hv => ?_⟩; rw [QW] at hv; cases hc : lk FF t with
     | some u =>
      rw [hc] at hv; cases hv; have hm := ZF hc; rw [hFe] at hm; rcases List.mem_append.1 hm with hm | hm
      .simp only [List.mem_reverse, List.mem_map] at hm; obtain ⟨j, hj, he⟩ := hm; have he1 : t = (F.getD j F0).1 := by rw [he]
       have he2 : v = (F.getD j F0).2 := by rw [he]
       rw [he1, he2]; have hon' := hon j hj; have hqj : q j = none := by simpa using hon'.2
       have hjl := I.lt j (hpre' j hon'.1); obtain ⟨d, hd', _⟩ := hdst j hjl hqj; rw [hdF j d hjl hd']; exact I.new j d (hpre' j hon'.1) hd'
      .have hL := Jkw hsub hm; have hts : t ∈ p.slots := by rw [<- hbs]; exact List.mem_map.2 ⟨_, hm, rfl⟩
       refine I.old t v hL fun k hk hdk => ?_; rcases hsl' t hts k (I.lt k hk) with (h | h) | h
       .subst h; rw [hun] at hk; cases hk
       .exact h hdk
       .have := I.cl k hk i h; rw [hun] at this; cases this
     | none =>
      rw [hc] at hv; have hm := ZF hv; simp only [List.mem_map, List.mem_range] at hm; obtain ⟨t', ht', he⟩ := hm; cases he; have : t < a.tmps.size := by rw [I.sz]; exact ht'
      simp [Array.getD_eq_getD_getElem?, this]
    have hsome : ∀ t, t < n -> ∃ v, lk (FF ++ (List.range n).map fun t => (t, a.tmps.getD t undef)) t = some v := fun t ht => by
     rw [QW]; cases lk FF t with
     | some u => exact ⟨u, rfl⟩
     | none => exact ⟨_, Jhr a n t ht⟩
    have go : ∀ (K : Fr -> World -> Prop), WL P n ro df l.toArray [o] (fun _ L' w' => K L' w') (FF ++ (List.range n).map fun t => (t, a.tmps.getD t undef)) w ->
      (∀ a' w' L', Has n df a' L' -> K L' w' -> wpAnyIn (QN ro) 0 P .any l.toArray (Y0 n df N B) fuel (listed.setIfInBounds i true) a' w') -> wpOpIn (QN ro) 0 P l.toArray (Y0 n df N B) i (wpAnyIn (QN ro) 0 P .any l.toArray (Y0 n df N B) fuel (listed.setIfInBounds i true)) a w := by
     intro K hK hfin; have hW := hK.out a hHF (fun _ _ _ _ => False); have fin' : ∀ a' w', wpListIn (QN ro) 0 P l.toArray (Y0 n df (fun _ L' w' => K L' w') (fun _ _ _ _ => False)) [] a' w' -> wpAnyIn (QN ro) 0 P .any l.toArray (Y0 n df N B) fuel (listed.setIfInBounds i true) a' w' := fun a' w' hq => by
      obtain ⟨L', hL', hq⟩ := hq; exact hfin a' w' L' hL' hq
     unfold wpOpIn; rw [ho]; simp only [wpListIn] at hW; by_cases hwant : Region.wanted o (yielded l.toArray a.tmps) = true
     .rw [if_pos hwant] at hW; simp only [hwant, if_true]; exact (Yn fin' (fun e a w hne h => by cases e <;> first | exact absurd rfl hne | (obtain ⟨_, _, _, h⟩ := h; exact h.elim)) hW)
     .rw [if_neg hwant] at hW; simp only [hwant, if_false, Bool.false_eq_true]; exact ⟨fun _ _ => trivial, fin' _ _ hW.2⟩
    have hisz : i < listed.size := by omega
    have hset : ∀ k, (listed.setIfInBounds i true).getD k false = true -> k = i ∨ listed.getD k false = true := fun k hk => by
     rw [ZO _ _ _ hisz] at hk; simp only [Bool.or_eq_true, decide_eq_true_eq] at hk; exact hk.imp Eq.symm (fun h => h)
    have hset' : ∀ k, k = i ∨ listed.getD k false = true -> (listed.setIfInBounds i true).getD k false = true := fun k hk => by
     rw [ZO _ _ _ hisz]; simp only [Bool.or_eq_true, decide_eq_true_eq]; exact hk.imp Eq.symm (fun h => h)
    have hcount : ((listed.setIfInBounds i true).toList.filter (!·)).length = fuel := by
     have hg : listed.toList[i]? = some false := by
      simp [Array.getD_eq_getD_getElem?, hisz] at hun; simp [hisz, hun]
     have := Jbx listed.toList i hg; rw [Array.toList_setIfInBounds]; omega
    have hcl : ∀ k, (listed.setIfInBounds i true).getD k false = true -> ∀ j ∈ Qi l k, (listed.setIfInBounds i true).getD j false = true := fun k hk j hj => by
     rcases hset k hk with rfl | h
     .exact hset' j (.inr (hpre' j hj))
     .exact hset' j (.inr (I.cl k h j hj))
    have hlt : ∀ k, (listed.setIfInBounds i true).getD k false = true -> k < l.length := fun k hk => by
     rcases hset k hk with rfl | h
     .exact hil
     .exact I.lt k h
    cases hqi : q i with
    | some r =>
     have hob : ∀ w, G r w -> ∀ R : Fr, WL P n ro df l.toArray [o] (fun _ L' w' => L' = FF ++ R /\ G (r + 1) w') (FF ++ R) w := by
      rw [hqi] at hob; exact hob
     have hrs : r = s := by
      have h1 : ¬ r < s := fun h => by have := (hs3 i r hil hqi).2 h; rw [hun] at this; cases this
      rcases Nat.lt_or_ge s r with h | h
      .exfalso; obtain ⟨k, hk, hqk⟩ := hsl s (by have := hqT i r hil hqi; omega); have hne : k ≠ i := fun e => by rw [e, hqi] at hqk; cases hqk; omega
       have h2 := hpre' k ((hqq i k r s hil hk hqi hqk hne).2 h); have := (hs3 k s hk hqk).1 h2; omega
      .omega
     subst hrs; refine go (fun L' w' => L' = FF ++ (List.range n).map (fun t => (t, a.tmps.getD t undef)) /\ G (r + 1) w') (hob w hs2 _) fun a' w' L' hL' hq => ?_; obtain ⟨rfl, hG⟩ := hq; have hsame : ∀ t, t < n -> a'.tmps[t]? = a.tmps[t]? := fun t ht => by
      obtain ⟨v, hv⟩ := hsome t ht; rw [hL'.at_ t v hv, hHF.at_ t v hv]
     have hsame' : ∀ t v, a.tmps[t]? = some v -> a'.tmps[t]? = some v := fun t v hv => by
      rw [hsame t (by have := (Array.getElem?_eq_some_iff.1 hv).1; rw [I.sz] at this; exact this)]; exact hv
     have hdn : JR l i = none := by
      cases hdd : JR l i with
      | none => rfl
      | some d => rw [hdd] at hd; simp [hqi] at hd
     refine ih _ a' w' (by simpa using hsz) hcount ⟨hL'.nd, hL'.sz, fun t v ht hk => hsame' t v (I.old t v ht fun k h => hk k (hset' k (.inr h))), fun k t hk ht => ?_, ⟨r + 1, by have := hqT i r hil hqi; omega, hG, fun i' r' hi' hq' => ?_⟩, hcl, hlt⟩
     .rcases hset k hk with rfl | h
      .rw [hdn] at ht; cases ht
      .exact hsame' _ _ (I.new k t h ht)
     .by_cases e : i' = i
      .subst e; rw [hqi] at hq'; cases hq'; exact ⟨fun _ => by omega, fun _ => hset' _ (.inl rfl)⟩
      .refine ⟨fun h => ?_, fun h => ?_⟩
       .have := (hs3 i' r' hi' hq').1 ((hset i' h).resolve_left e); omega
       .have hne := (hqq i i' r r' hil hi' hqi hq' e).1; exact hset' _ (.inr ((hs3 i' r' hi' hq').2 (by omega)))
    | none =>
     have hob : ∀ s w, s <= u i -> s <= T -> G s w -> ∀ R : Fr, WL P n ro df l.toArray [o] (fun _ L' w' => L' = F.getD i F0 :: (FF ++ R) /\ w' = w) (FF ++ R) w := by
      rw [hqi] at hob; exact hob
     have hsu : s <= u i := by
      rcases Nat.lt_or_ge (u i) s with h | h
      .exfalso; have h2 := hup i hil; rw [hqi] at h2; simp only [Option.isSome_none, Bool.false_or, Bool.or_eq_true, List.all_eq_true, List.mem_range, bne_iff_ne, ne_eq, List.contains_iff_mem] at h2; rcases h2 with h2 | h2
       .have : T <= u i := by simpa [Nat.ble_eq] using h2
        omega
       .obtain ⟨k, hk, hqk⟩ := hsl (u i) (by omega); rcases h2 k hk with h3 | h3
        .exact h3 hqk
        .have := I.cl k ((hs3 k (u i) hk hqk).2 h) i h3; rw [hun] at this; cases this
      .exact h
     obtain ⟨d, hdd, hdn⟩ := hdst i hil hqi; have e0 : F.getD i F0 = (d, (F.getD i F0).2) := Prod.ext (hdF i d hil hdd) rfl; refine go (fun L' w' => L' = F.getD i F0 :: (FF ++ (List.range n).map (fun t => (t, a.tmps.getD t undef))) /\ w' = w) (hob s w hsu hs1 hs2 _) fun a' w' L' hL' hq => ?_; obtain ⟨hL0, hw⟩ := hq; rw [hw]; rw [hL0, e0] at hL'; rw [hdd] at hd; simp only [Bool.and_eq_true, List.all_eq_true, List.mem_range, Bool.or_eq_true, beq_iff_eq, bne_iff_ne, ne_eq] at hd; have hsame' : ∀ t v, t ≠ d -> a.tmps[t]? = some v -> a'.tmps[t]? = some v := fun t v hne hv => by
      have ht : t < n := by have := (Array.getElem?_eq_some_iff.1 hv).1; rw [I.sz] at this; exact this
      obtain ⟨v', hv'⟩ := hsome t ht; have h2 := hHF.at_ t v' hv'; rw [hv] at h2; cases h2; exact hL'.at_ t v (by rw [Jcm (Ne.symm hne)]; exact hv')
     have hnew : a'.tmps[d]? = some (F.getD i F0).2 := hL'.at_ d _ (YZ _ _ _); refine ih _ a' w (by simpa using hsz) hcount ⟨hL'.nd, hL'.sz, fun t v ht hk => ?_, fun k t hk ht => ?_, ⟨s, hs1, hs2, fun i' r' hi' hq' => ?_⟩, hcl, hlt⟩
     .exact hsame' t v (fun e' => hk i (hset' i (.inl rfl)) (by rw [hdd, e'])) (I.old t v ht fun k h => hk k (hset' k (.inr h)))
     .by_cases ek : k = i
      .subst ek; rw [hdd] at ht; cases ht; exact hnew
      .rcases hset k hk with h | h
       .exact absurd h ek
       .refine hsame' t _ (fun e' => ?_) (I.new k t h ht); rcases hd.2 k (I.lt k h) with h' | h'
        .exact ek h'
        .exact h' (by rw [ht, e'])
     .exact ⟨fun h => (hs3 i' r' hi' hq').1 ((hset i' h).resolve_left (fun e => by rw [e, hqi] at hq'; cases hq')), fun h => hset' _ (.inr ((hs3 i' r' hi' hq').2 h))⟩
 refine key _ _ a _ (by simp) (by simp) ?_; exact {
  nd := ha.nd, sz := ha.sz
  old := fun t v h _ => ha.at_ t v h
  new := fun k t h => by rw [Qu] at h; cases h
  st := ⟨0, Nat.zero_le _, h0 _ ⟨rfl, rfl, rfl, Nat.le_refl _, fun _ _ _ => rfl⟩, fun i r hi hq => ⟨(fun h => by rw [Qu] at h; cases h), fun h => absurd h (Nat.not_lt_zero _)⟩⟩
  cl := fun k h => by rw [Qu] at h; cases h
  lt := fun k h => by rw [Qu] at h; cases h }
end Go.Proofs.Ytlfeialpcdoleaa
set_option linter.unusedSimpArgs false
set_option linter.unusedVariables false
namespace Go.Proofs.Ytlfeialpcdoleaa
open Go.RowKit
inductive Ent
  | k (d : Nat) (v : Value)
  | m (d : Nat) (Pr : Value -> World -> Prop) (h : ∀ v w1 w2, Pr v w1 -> w1.grownBy w2 none -> Pr v w2)
def Ent.d : Ent -> Nat
  | .k d _ => d
  | .m d _ _ => d
def Ent.V : Ent -> Value -> World -> Prop
  | .k _ v => fun u _ => u = v
  | .m _ Pr _ => Pr
def Ent.val : Ent -> Value -> Value
  | .k _ v, _ => v
  | .m _ _ _, u => u
def E0 : Ent := .k 0 (.int .i64 0)
def eV (F : List Ent) : Nat -> Value -> World -> Prop := fun i => (F.getD i E0).V
def eO (w : World) (d e m : Nat) (f : Option Addr -> Nat -> Value) (cs : List Value) : Ent :=
  .m d (fun v wQ => ∃ A k, v = f A k /\ Own 0 wQ e 1 A m k cs /\ ∀ g, bl A = some g -> w.heap.size <= g) fun _ _ _ ⟨A, k, h1, h2, h3⟩ hg => ⟨A, k, h1, h2.ext hg, h3⟩
def eS (w : World) (d e m : Nat) (cs : List Value) : Ent := eO w d e m (fun A k => .slice A m k) cs
def eX (w : World) (d eS_ eI m : Nat) (f : Option Addr -> Nat -> Hs -> Value) (ls : List (List Int)) : Ent :=
  .m d (fun v wQ => ∃ A k hs, v = f A k hs /\ Rows w.heap.size none wQ [mx eS_ eI A m k hs ls]) fun _ _ _ ⟨A, k, hs, h1, h2⟩ hg => ⟨A, k, hs, h1, h2.ext hg⟩
def Jbm (F : List Ent) (w : World) (K : Fr -> Prop) : List Nat -> Fr -> Prop
  | [], A => K A
  | j :: js, A => match F.getD j E0 with
    | .k d v => Jbm F w K js ((d, v) :: A)
    | .m d Pr _ => ∀ u, Pr u w -> Jbm F w K js ((d, u) :: A)
def Jge (L : Fr) : List Nat -> Fr
  | [] => []
  | t :: ts => (t, (lk L t).getD (.int .i64 0)) :: Jge L ts
def obY (P : Program) (n : Nat) (ro : Option Nat) (df : List Deferred) (l : List Oper) (al : Nat -> Bool) (cp : Nat -> Option Nat) (ph : Nat -> Value -> Value -> Prop) (F : List Ent) (D : Nat -> Value -> World -> Nat -> Prop) (w0 : World) (i : Nat) (o : Oper) (p : Plan) (base : Fr) : Prop :=
  ∀ w, (p.pure = false -> w0.grownBy w none) -> Jbm F w (fun A => ∀ R : Fr, WL P n ro df l.toArray [o]
    (fun _ L' w' => match F.getD i E0 with
      | .k d v => L' = (d, v) :: (A ++ R) /\ (if p.pure then w' = w else w.grownBy w' none)
      | .m d Pr _ => ∃ u, L' = (d, u) :: (A ++ R) /\ (if p.pure then w' = w else w.grownBy w' none) /\ Pr u w' /\ (al i = true -> ∀ g, D i u w' g -> w.heap.size <= g /\ g < w'.heap.size) /\ (∀ j, cp i = some j -> ∃ u', lk (A ++ R) (F.getD j E0).d = some u' /\ ph i u' u)) (A ++ R) w) p.on base
def obsY (P : Program) (n : Nat) (ro : Option Nat) (df : List Deferred) (l : List Oper) (al : Nat -> Bool) (cp : Nat -> Option Nat) (ph : Nat -> Value -> Value -> Prop) (F : List Ent) (D : Nat -> Value -> World -> Nat -> Prop) (w0 : World) (L : Fr) : Nat -> List Oper -> List Plan -> Prop
  | i, o :: os, p :: ps => obY P n ro df l al cp ph F D w0 i o p (Jge L p.slots) /\ obsY P n ro df l al cp ph F D w0 L (i + 1) os ps
  | _, [], [] => True
  | _, _, _ => False
def frY (X : List Nat) (vals : Nat -> Value) : Nat -> List Ent -> Fr
  | _, [] => []
  | i, e :: F => bif X.contains i then frY X vals (i + 1) F else (e.d, e.val (vals i)) :: frY X vals (i + 1) F
def kcB (al : Nat -> Bool) (cp : Nat -> Option Nat) : Nat -> List Ent -> Bool
  | _, [] => true
  | i, .k _ _ :: F => !al i && (cp i).isNone && kcB al cp (i + 1) F
  | i, .m _ _ _ :: F => kcB al cp (i + 1) F
theorem Jli {al : Nat -> Bool} {cp : Nat -> Option Nat} : ∀ (F : List Ent) (i k : Nat) {d : Nat} {v : Value}, kcB al cp i F = true -> F[k]? = some (.k d v) -> al (i + k) = false /\ cp (i + k) = none
 | [], _, _, _, _, _, h => by simp at h
 | .k d v :: F, i, 0, _, _, h, e => by
  simp only [kcB, Bool.and_eq_true, Bool.not_eq_true', Option.isNone_iff_eq_none] at h; exact h.1
 | .m d Pr hh :: F, i, 0, _, _, h, e => by simp at e
 | .k d v :: F, i, k + 1, _, _, h, e => by
  simp only [kcB, Bool.and_eq_true] at h; have := Jli F (i + 1) k h.2 (by simpa using e); rw [show i + (k + 1) = i + 1 + k by omega]; exact this
 | .m d Pr hh :: F, i, k + 1, _, _, h, e => by
  simp only [kcB] at h; have := Jli F (i + 1) k h (by simpa using e); rw [show i + (k + 1) = i + 1 + k by omega]; exact this
theorem Jbz (L : Fr) : ∀ ts : List Nat, (Jge L ts).map (·.1) = ts
 | [] => rfl
 | t :: ts => by simp [Jge, Jbz L ts]
theorem Jfw (L : Fr) : ∀ ts : List Nat, (ts.all fun t => (lk L t).isSome) = true -> sub (Jge L ts) L
 | [], _ => trivial
 | t :: ts, h => by
  simp only [List.all_cons, Bool.and_eq_true] at h; refine ⟨?_, Jfw L ts h.2⟩; cases e : lk L t with
  | none => rw [e] at h; exact absurd h.1 (by simp)
  | some v => rfl
theorem Je3 {l : List Oper} {F : List Ent} {w : World} {K : Fr -> Prop} : ∀ (js : List Nat) (A : Fr), (∀ j ∈ js, (JR l j).getD 0 = (F.getD j E0).d) -> Jbm F w K js A -> Jkt l (eV F) w K js A
 | [], _, _, h => h
 | j :: js, A, hd, h => by
  intro u hu; unfold eV at hu; unfold Jbm at h; have hd1 := hd j List.mem_cons_self; rw [hd1]; cases e : F.getD j E0 with
  | k d v =>
   rw [e] at hu h; obtain rfl : u = v := hu; exact Je3 js _ (fun q hq => hd q (List.mem_cons_of_mem _ hq)) h
  | m d Pr hh =>
   rw [e] at hu h; exact Je3 js _ (fun q hq => hd q (List.mem_cons_of_mem _ hq)) (h u hu)
theorem Jbt {F : List Ent} {w : World} {K K' : Fr -> Prop} (h : ∀ A, K A -> K' A) : ∀ (js : List Nat) (A : Fr), Jbm F w K js A -> Jbm F w K' js A
 | [], _, hk => h _ hk
 | j :: js, A, hk => by
  unfold Jbm at hk ⊢; cases e : F.getD j E0 with
  | k d v => rw [e] at hk; exact Jbt h js _ hk
  | m d Pr hh => rw [e] at hk; exact fun u hu => Jbt h js _ (hk u hu)
theorem Jjj {P : Program} {n : Nat} {ro : Option Nat} {df : List Deferred} {l : List Oper} {al : Nat -> Bool} {cp : Nat -> Option Nat} {ph : Nat -> Value -> Value -> Prop} {F : List Ent} {D : Nat -> Value -> World -> Nat -> Prop} {w0 : World} {L : Fr} {m : Nat}
  (hd : ∀ j, j < m -> (JR l j).getD 0 = (F.getD j E0).d) (hF : F.length = m) (hk : kcB al cp 0 F = true) (hcp : ∀ i j, i < m -> cp i = some j -> j < m) : ∀ (os : List Oper) (ps : List Plan) (i : Nat), i + os.length <= m -> (∀ p ∈ ps, ∀ j ∈ p.on, j < m) -> (∀ p ∈ ps, (p.slots.all fun t => (lk L t).isSome) = true) ->
  obsY P n ro df l al cp ph F D w0 L i os ps -> Jos P n ro df l al cp ph (eV F) D w0 L i os ps (ps.map fun p => Jge L p.slots)
 | [], [], _, _, _, _, _ => trivial
 | [], _ :: _, _, _, _, _, h => h.elim
 | _ :: _, [], _, _, _, _, h => h.elim
 | o :: os, p :: ps, i, hi, hp, hs, h => by
  simp only [List.length_cons] at hi; refine ⟨⟨Jbz _ _, Jfw _ _ (hs p List.mem_cons_self), fun w hw => Je3 _ _ (fun j hj => hd j (hp p List.mem_cons_self j hj)) (Jbt (fun A hA R => Jkc (fun df' L' w' hh => ?_) (hA R)) _ _ (h.1 w hw))⟩, Jjj hd hF hk hcp os ps (i + 1) (by omega) (fun q hq => hp q (List.mem_cons_of_mem _ hq)) (fun q hq => hs q (List.mem_cons_of_mem _ hq)) h.2⟩; have hgi : F[i]? = some (F.getD i E0) := by
   rw [List.getD_eq_getElem?_getD, List.getElem?_eq_getElem (by omega : i < F.length)]; rfl
  rw [hd i (by omega)]; unfold eV; cases e : F.getD i E0 with
  | k d v =>
   rw [e] at hh hgi; obtain ⟨h1, h2⟩ := Jli F 0 i hk hgi; rw [Nat.zero_add] at h1 h2; exact ⟨v, hh.1, hh.2, rfl, (fun h => by rw [h1] at h; cases h), (fun j h => by rw [h2] at h; cases h)⟩
  | m d Pr hm_ =>
   rw [e] at hh; obtain ⟨u, h1, h2, h3, h4, h5⟩ := hh; exact ⟨u, h1, h2, h3, h4, fun j hj => by rw [hd j (hcp i j (by omega) hj)]; exact h5 j hj⟩
theorem Jrn {X : List Nat} {vals : Nat -> Value} {w : World} (f : Nat -> Option Nat) : ∀ (F : List Ent) (i : Nat), (∀ k e, F[k]? = some e -> f (i + k) = some e.d /\ (X.contains (i + k) = false -> e.V (vals (i + k)) w)) ->
  ((List.range' i F.length).filterMap fun i => if X.contains i = true then none else (f i).map fun t => (t, vals i)) = frY X vals i F
 | [], _, _ => rfl
 | e :: F, i, h => by
  have ih := Jrn f F (i + 1) (fun k e' hk => by
   have := h (k + 1) e' (by simpa using hk); rw [show i + 1 + k = i + (k + 1) by omega]; exact this)
  obtain ⟨h1, h2⟩ := h 0 e rfl; rw [Nat.add_zero] at h1 h2; rw [List.length_cons, List.range'_succ, List.filterMap_cons]; unfold frY; cases hc : X.contains i with
  | true => simp only [if_true, cond_true]; exact ih
  | false =>
   have := h2 hc; simp only [Bool.false_eq_true, if_false, cond_false, h1, Option.map_some]; rw [ih]; cases e with
   | k d v => rw [show vals i = v from this]; rfl
   | m d Pr hh => rfl
theorem Q7 {P : Program} {n id : Nat} {ro : Option Nat} {df : List Deferred} {l : List Oper} {N : Qo} {B : QG} {L : Fr} {w0 : World} (m : Nat) (fs : List Nat) (al : Nat -> Bool) (cp : Nat -> Option Nat) (ph : Nat -> Value -> Value -> Prop) (ps : List Plan) (F : List Ent) (D : Nat -> Value -> World -> Nat -> Prop)
  (hm : P.follows .mixedOrders = true) (hB : (Je5 n l ps m fs && (List.range m).all (fun i => match cp i with | none => true | some j => Nat.blt j m && (Qi l i).contains j) && ps.all fun p => p.on.all (Nat.blt · m)) = true)
  (hds : (List.range m).map (JR l) = F.map (fun e => some e.d)) (hk : (kcB al cp 0 F && ps.all fun p => p.slots.all fun t => (lk L t).isSome) = true)
  (hD : ∀ j v w1 w2, eV F j v w1 -> w1.grownBy w2 none -> ∀ g, D j v w2 g -> D j v w1 g)
  (hobs : obsY P n ro df l al cp ph F D w0 L 0 (l.take m) ps)
  (hN2 : ∀ X ∈ Ji0 fs, ∀ (vals : Nat -> Value) w', w0.grownBy w' none -> (∀ i, i < m -> X.contains i = false -> eV F i (vals i) w') -> (∀ j k, j ≠ k -> j < m -> k < m -> X.contains j = false -> X.contains k = false -> al j = true -> al k = true -> ∀ g, D j (vals j) w' g -> ¬ D k (vals k) w' g) -> (∀ i j, i < m -> X.contains i = false -> cp i = some j -> ph i (vals j) (vals i)) -> ∀ q, q = (((List.range l.length).map fun k => Nat.blt k m && !(X.contains k)).filter (!·)).length ->
   WA P n ro df l N q ((List.range l.length).map fun k => Nat.blt k m && !(X.contains k)) (frY X vals 0 F ++ L) w') : W P n ro df (.region id l.toArray true) N B L w0 := by
 simp only [Bool.and_eq_true] at hB hk; obtain ⟨⟨hB, hcp⟩, hp⟩ := hB; have hF : F.length = m := by have := congrArg List.length hds; simpa using this.symm
 have hd1 : ∀ k e, F[k]? = some e -> JR l k = some e.d := by
  intro k e he; have h := congrArg (fun x : List (Option Nat) => x[k]?) hds; have hk' : k < m := by rw [<- hF]; exact (List.getElem?_eq_some_iff.1 he).1
  simp only [List.getElem?_map, List.getElem?_range hk', Option.map_some, he, Option.some.injEq] at h; exact h
 have hd : ∀ j, j < m -> (JR l j).getD 0 = (F.getD j E0).d := by
  intro j hj; have e1 : F[j]? = some (F.getD j E0) := by
   rw [List.getD_eq_getElem?_getD, List.getElem?_eq_getElem (by omega : j < F.length)]; rfl
  rw [hd1 j _ e1]; rfl
 have hcp1 : ∀ i j, i < m -> cp i = some j -> j < m /\ (Qi l i).contains j = true := fun i j hi hj => by
  have := List.all_eq_true.1 hcp i (List.mem_range.2 hi); rw [hj] at this; simp only [Bool.and_eq_true] at this; exact ⟨by simpa [Nat.blt_eq] using this.1, this.2⟩
 have hV : ∀ j v w1 w2, eV F j v w1 -> w1.grownBy w2 none -> eV F j v w2 := by
  intro j v w1 w2 h1 hg; unfold eV at h1 ⊢; cases e : F.getD j E0 with
  | k d u => rw [e] at h1; exact h1
  | m d Pr hh => rw [e] at h1; exact hh v w1 w2 h1 hg
 refine Jkf m fs al cp ph ps (ps.map fun p => Jge L p.slots) (eV F) D hm hB hV hD (List.all_eq_true.2 fun i hi => ?_) (Jjj hd hF hk.1 (fun i j hi hj => (hcp1 i j hi hj).1) _ _ _ (by simp [List.length_take]; omega) (fun p hp' j hj => ?_) (fun p hp' => List.all_eq_true.1 hk.2 p hp') hobs) ?_
 .cases hc : cp i with
  | none => rfl
  | some j => exact (hcp1 i j (List.mem_range.1 hi) hc).2
 .have := List.all_eq_true.1 hp p hp'
  simpa [Nat.blt_eq] using List.all_eq_true.1 this j hj
 .intro X hX vals w' hw h1 h2 h3 q hq; have h := hN2 X hX vals w' hw h1 h2 h3 q hq; have e : (List.range m).filterMap (fun i => if X.contains i = true then none else (JR l i).map fun t => (t, vals i)) = frY X vals 0 F := by
   rw [List.range_eq_range', <- hF]; refine Jrn (w := w') (JR l) F 0 fun k e he => ?_; rw [Nat.zero_add]; refine ⟨hd1 k e he, fun hc => ?_⟩; have hkm : k < m := by rw [<- hF]; exact (List.getElem?_eq_some_iff.1 he).1
   have := h1 k hkm hc; unfold eV at this; rw [List.getD_eq_getElem?_getD, he] at this; exact this
  rw [e]; exact h
def ovl : List (Nat × Value) -> Nat -> Value -> Value
  | [], _, u => u
  | p :: t, i, u => bif Nat.beq p.1 i then p.2 else ovl t i u
def ovs (vals : Nat -> Value) : List (Nat × Value) -> Prop
  | [] => True
  | p :: t => vals p.1 = p.2 /\ ovs vals t
theorem Jq3 {vals : Nat -> Value} {i : Nat} : ∀ {ov : List (Nat × Value)}, ovs vals ov -> ovl ov i (vals i) = vals i
 | [], _ => rfl
 | p :: t, h => by
  unfold ovl; cases e : Nat.beq p.1 i with
  | true => simp only [cond_true]; rw [<- h.1, Nat.eq_of_beq_eq_true e]
  | false => simp only [cond_false]; exact Jq3 h.2
theorem Qx {P : Program} {n : Nat} {ro : Option Nat} {df : List Deferred} {l : List Oper} {N : Qo} {q : Nat} {li : List Bool} {L : Fr} {w : World} {X : List Nat} {vals : Nat -> Value} {F : List Ent} (ov : List (Nat × Value)) (h : ovs vals ov) (h2 : WA P n ro df l N q li (frY X (fun i => ovl ov i (vals i)) 0 F ++ L) w) : WA P n ro df l N q li (frY X vals 0 F ++ L) w := by
 rwa [show (fun i => ovl ov i (vals i)) = vals from funext fun i => Jq3 h] at h2
theorem Qz {P : Program} {n id : Nat} {ro : Option Nat} {df : List Deferred} {l : List Oper} {N : Qo} {B : QG} {L : Fr} {w0 : World} (m : Nat) (al : Nat -> Bool) (cp : Nat -> Option Nat) (ph : Nat -> Value -> Value -> Prop) (ps : List Plan) (F : List Ent) (D : Nat -> Value -> World -> Nat -> Prop)
  (hm : P.follows .mixedOrders = true) (hB : (Je5 n l ps m [] && (List.range m).all (fun i => match cp i with | none => true | some j => Nat.blt j m && (Qi l i).contains j) && ps.all fun p => p.on.all (Nat.blt · m)) = true)
  (hds : (List.range m).map (JR l) = F.map (fun e => some e.d)) (hk : (kcB al cp 0 F && ps.all fun p => p.slots.all fun t => (lk L t).isSome) = true)
  (hD : ∀ j v w1 w2, eV F j v w1 -> w1.grownBy w2 none -> ∀ g, D j v w2 g -> D j v w1 g)
  (hobs : obsY P n ro df l al cp ph F D w0 L 0 (l.take m) ps)
  (hN : ∀ (vals : Nat -> Value) w', w0.grownBy w' none -> (∀ i, i < m -> eV F i (vals i) w') -> (∀ j k, j ≠ k -> j < m -> k < m -> al j = true -> al k = true -> ∀ g, D j (vals j) w' g -> ¬ D k (vals k) w' g) -> (∀ i j, i < m -> cp i = some j -> ph i (vals j) (vals i)) ->
   WA P n ro df l N (l.length - m) (List.replicate m true ++ List.replicate (l.length - m) false) (frY [] vals 0 F ++ L) w') : W P n ro df (.region id l.toArray true) N B L w0 := by
 have hlm : m <= l.length := by
  simp only [Bool.and_eq_true] at hB; have h := hB.1.1; simp only [Je5, Bool.and_eq_true] at h
  simpa [Nat.ble_eq] using h.1.1.1.2
 refine Q7 m [] al cp ph ps F D hm hB hds hk hD hobs fun X hX vals w' hw h1 h2 h3 q hq => ?_; obtain rfl : X = [] := by simpa [Ji0] using hX
 rw [Jgs m l.length hlm] at hq ⊢; rw [Jfk] at hq; subst hq; exact hN vals w' hw (fun i hi => h1 i hi rfl) (fun j k hjk hj hk => h2 j k hjk hj hk rfl rfl) (fun i j hi => h3 i j hi rfl)
def obsW (P : Program) (n : Nat) (ro : Option Nat) (df : List Deferred) (l : List Oper) (F : Fr) (w0 : World) (L : Fr) : Nat -> List Oper -> List Plan -> Prop
  | i, o :: os, p :: ps => obV P n ro df l F w0 i o p (Jge L p.slots) /\ obsW P n ro df l F w0 L (i + 1) os ps
  | _, [], [] => True
  | _, _, _ => False
theorem Jm8 {P : Program} {n : Nat} {ro : Option Nat} {df : List Deferred} {l : List Oper} {F : Fr} {w0 : World} {L : Fr} : ∀ (os : List Oper) (ps : List Plan) (i : Nat), (∀ p ∈ ps, (p.slots.all fun t => (lk L t).isSome) = true) -> obsW P n ro df l F w0 L i os ps -> obsV P n ro df l F w0 L i os ps (ps.map fun p => Jge L p.slots)
 | [], [], _, _, _ => trivial
 | [], _ :: _, _, _, h => h.elim
 | _ :: _, [], _, _, h => h.elim
 | _ :: os, p :: ps, i, hs, h => ⟨⟨Jbz _ _, Jfw _ _ (hs p List.mem_cons_self), h.1⟩, Jm8 os ps (i + 1) (fun q hq => hs q (List.mem_cons_of_mem _ hq)) h.2⟩
theorem JZ {P : Program} {n id : Nat} {ro : Option Nat} {df : List Deferred} {l : List Oper} {N : Qo} {B : QG} {L : Fr} {w0 : World} (m : Nat) (ps : List Plan) (F : Fr)
  (hm : P.follows .mixedOrders = true) (hB : (Jiw n l ps m && ps.all fun p => p.on.all (Nat.blt · m)) = true) (hds : (List.range m).map (JR l) = F.map (fun q => some q.1)) (hk : (ps.all fun p => p.slots.all fun t => (lk L t).isSome) = true)
  (hobs : obsW P n ro df l F w0 L 0 (l.take m) ps)
  (hN : ∀ w', w0.grownBy w' none -> WA P n ro df l N (l.length - m) (List.replicate m true ++ List.replicate (l.length - m) false) (F ++ L) w') : W P n ro df (.region id l.toArray true) N B L w0 :=
 Jve m ps (ps.map fun p => Jge L p.slots) F hm hB (by have := congrArg List.length hds; simpa using this.symm) hds (Jm8 _ _ 0 (fun p hp => List.all_eq_true.1 hk p hp) hobs) hN
end Go.Proofs.Ytlfeialpcdoleaa
set_option linter.unusedSimpArgs false
set_option linter.unusedVariables false
namespace Go.Proofs.Ytlfeialpcdoleaa
open Go.RowKit
def opv (L : Fr) : Op -> Option Value
  | .move x => ev L x
  | .assign x => ev L x
  | .pick c x y => match ev L c with
    | some (.bool b) => ev L (bif b then x else y)
    | _ => none
  | .extract x i => match ev L x with
    | some (.tuple vs) => vs[i]?
    | _ => none
  | .unOp .not _ x => match ev L x with
    | some (.bool b) => some (.bool !b)
    | _ => none
  | .binOp .lss _ x y _ => match ev L x, ev L y with
    | some (.int .i64 a), some (.int .i64 b) => some (.bool (decide (a < b)))
    | _, _ => none
  | .binOp .leq _ x y _ => match ev L x, ev L y with
    | some (.int .i64 a), some (.int .i64 b) => some (.bool (decide (a <= b)))
    | _, _ => none
  | .binOp .gtr _ x y _ => match ev L x, ev L y with
    | some (.int .i64 a), some (.int .i64 b) => some (.bool (decide (b < a)))
    | _, _ => none
  | .binOp .geq _ x y _ => match ev L x, ev L y with
    | some (.int .i64 a), some (.int .i64 b) => some (.bool (decide (b <= a)))
    | _, _ => none
  | .binOp .eql _ x y _ => match ev L x, ev L y with
    | some (.int .i64 a), some (.int .i64 b) => some (.bool (decide (a = b)))
    | _, _ => none
  | .binOp .neq _ x y _ => match ev L x, ev L y with
    | some (.int .i64 a), some (.int .i64 b) => some (.bool (decide (a ≠ b)))
    | _, _ => none
  | .nilCheck x => match ev L x with
    | some (.pointer (some p)) => some (.pointer (some p))
    | _ => none
  | _ => none
inductive Stp
  | val (L : Fr)
  | opr (o : Oper)
  | no
def stp (all : Array Oper) (n : Nat) (L : Fr) : Oper -> Stp
  | ⟨some d, op, ty, ps, af, some (j, want)⟩ => match (all[j]?.bind (·.dst)).bind (lk L) with
    | some (.bool b) => bif b == want then .opr ⟨some d, op, ty, ps, af, none⟩ else bif Nat.blt d n then .val ((d, undef) :: L) else .no
    | _ => .no
  | ⟨some d, op, ty, ps, af, none⟩ => match opv L op with
    | some v => bif Nat.blt d n then .val ((d, v) :: L) else .no
    | none => .no
  | _ => .no
inductive Gs
  | C (c : Code)
  | R (all : Array Oper) (rest : List Oper)
section
variable (P : Program) (n : Nat) (ro : Option Nat) (df : List Deferred) (N : Qo) (B : QG)
def Ns : List Code -> Qo
  | [] => N
  | c :: st => fun df L w => W P n ro df c (Ns st) B L w
def goS (w : World) : Nat -> List Code -> Gs -> Fr -> Prop
  | 0, st, .C c, L => W P n ro df c (Ns P n ro N B st) B L w
  | 0, st, .R all rest, L => WL P n ro df all rest (Ns P n ro N B st) L w
  | k + 1, st, .C (.seq a b), L => goS w k (b :: st) (.C a) L
  | k + 1, st, .C (.region _ ops false), L => goS w k st (.R ops ops.toList) L
  | k + 1, b :: st, .C .skip, L => goS w k st (.C b) L
  | _ + 1, [], .C .skip, L => N df L w
  | _ + 1, [], .R _ [], L => N df L w
  | k + 1, b :: st, .R _ [], L => goS w k st (.C b) L
  | k + 1, st, .R all (o :: rest), L => match stp all n L o with
    | .val L' => goS w k st (.R all rest) L'
    | .opr o' => goS w k st (.R all (o' :: rest)) L
    | .no => False
  | _, _, _, _ => False
end
section
variable {P : Program} {n : Nat} {ro : Option Nat} {df : List Deferred} {N : Qo} {B : QG} {L : Fr} {w : World} {all : Array Oper} {rest : List Oper}
theorem Jdq {d : Nat} {op : Op} {ty : TypeId} {ps : String} {af : Array Edge} {v : Value} (hv : opv L op = some v) (hn : Nat.blt d n = true) (h : WL P n ro df all rest N ((d, v) :: L) w) :
  WL P n ro df all (⟨some d, op, ty, ps, af, none⟩ :: rest) N L w := by
 unfold opv at hv; split at hv
 .exact Js hv hn h
 .exact Q6 hv hn h
 .split at hv
  .rename_i hc; exact WL.pick hc hv hn h
  .cases hv
 .split at hv
  .rename_i hc; exact Jmc hc hv hn h
  .cases hv
 .split at hv
  .rename_i hc; cases hv; exact Jb1 hc hn h
  .cases hv
 .split at hv
  .rename_i h1 h2; cases hv; exact YI h1 h2 hn h
  .cases hv
 .split at hv
  .rename_i h1 h2; cases hv; exact Ju9 h1 h2 hn h
  .cases hv
 .split at hv
  .rename_i h1 h2; cases hv; exact Jig h1 h2 hn h
  .cases hv
 .split at hv
  .rename_i h1 h2; cases hv; exact Jnz h1 h2 hn h
  .cases hv
 .split at hv
  .rename_i h1 h2; cases hv; exact Jcs h1 h2 hn h
  .cases hv
 .split at hv
  .rename_i h1 h2; cases hv; exact YH h1 h2 hn h
  .cases hv
 .split at hv
  .rename_i h1; cases hv; exact Q0 h1 hn h
  .cases hv
 .cases hv
theorem stp_ok {o : Oper} : (∀ L', stp all n L o = .val L' -> WL P n ro df all rest N L' w -> WL P n ro df all (o :: rest) N L w) /\ (∀ o', stp all n L o = .opr o' -> WL P n ro df all (o' :: rest) N L w -> WL P n ro df all (o :: rest) N L w) := by
 obtain ⟨dst, op, ty, ps, af, g⟩ := o; cases dst with
 | none => exact ⟨fun _ h => by simp [stp] at h, fun _ h => by simp [stp] at h⟩
 | some d =>
  cases g with
  | none =>
   refine ⟨fun L' h hw => ?_, fun o' h => ?_⟩
   .simp only [stp] at h; split at h
    .rename_i v hv
     cases hn : Nat.blt d n <;> rw [hn] at h
     .cases h
     .cases h; exact Jdq hv hn hw
    .cases h
   .simp only [stp] at h; split at h
    .cases hn : Nat.blt d n <;> rw [hn] at h <;> cases h
    .cases h
  | some jw =>
   obtain ⟨j, want⟩ := jw; refine ⟨fun L' h hw => ?_, fun o' h hw => ?_⟩
   .simp only [stp] at h; split at h
    .rename_i b hb
     cases hbw : (b == want) <;> rw [hbw] at h
     .cases hn : Nat.blt d n <;> rw [hn] at h
      .cases h
      .cases h; exact Jnw hb hbw hn hw
     .cases h
    .cases h
   .simp only [stp] at h; split at h
    .rename_i b hb
     cases hbw : (b == want) <;> rw [hbw] at h
     .cases hn : Nat.blt d n <;> rw [hn] at h <;> cases h
     .cases h; have e : b = want := by simpa using hbw
      subst e; exact WL.take hb hw
    .cases h
def Gs.prop (P : Program) (n : Nat) (ro : Option Nat) (df : List Deferred) (N : Qo) (B : QG) (L : Fr) (w : World) (st : List Code) : Gs -> Prop
  | .C c => W P n ro df c (Ns P n ro N B st) B L w
  | .R all rest => WL P n ro df all rest (Ns P n ro N B st) L w
theorem Jau : ∀ (k : Nat) (st : List Code) (s : Gs) (L : Fr), goS P n ro df N B w k st s L -> s.prop P n ro df N B L w st
 | 0, _, .C _, _, h => h
 | 0, _, .R _ _, _, h => h
 | k + 1, st, .C (.seq a b), L, h => JA (Jau k (b :: st) (.C a) L h)
 | k + 1, st, .C (.region i ops false), L, h => by
  have := Jau k st (.R ops ops.toList) L h; have := JI (B := B) (id := i) (l := ops.toList) this; exact this
 | k + 1, b :: st, .C .skip, L, h => Jq (Jau k st (.C b) L h)
 | _ + 1, [], .C .skip, L, h => Jq h
 | _ + 1, [], .R _ [], L, h => Ja h
 | k + 1, b :: st, .R _ [], L, h => Ja (Jau k st (.C b) L h)
 | k + 1, st, .R all (o :: rest), L, h => by
  have hs := stp_ok (P := P) (ro := ro) (df := df) (N := Ns P n ro N B st) (w := w) (all := all) (n := n) (L := L) (o := o) (rest := rest); unfold goS at h; split at h
  .rename_i L' e; exact hs.1 L' e (Jau k st (.R all rest) L' h)
  .rename_i o' e; exact hs.2 o' e (Jau k st (.R all (o' :: rest)) L h)
  .exact h.elim
theorem Je {c : Code} (k : Nat) (h : goS P n ro df N B w k [] (.C c) L) : W P n ro df c N B L w := Jau k [] (.C c) L h
theorem Jc (k : Nat) (h : goS P n ro df N (fun _ _ _ _ => False) w k [] (.R all rest) L) : WL P n ro df all rest N L w := Jau k [] (.R all rest) L h
end
end Go.Proofs.Ytlfeialpcdoleaa
set_option linter.unusedSimpArgs false
set_option linter.unusedVariables false
namespace Go.Proofs.Ytlfeialpcdoleaa
open Go.RowKit
def vlen : Value -> Nat
  | .slice _ m _ => m
  | _ => 0
def vbP : Value -> World -> Nat -> Prop := fun v _ g => 0 < vlen v /\ vb v = some g
def Jmz (u' u : Value) : Prop := vlen u = 0 -> vb u = vb u'
section
variable {P : Program} {n : Nat} {ro : Option Nat} {df : List Deferred} {N : Qo} {L : Fr} {w : World} {ops : Array Oper} {rest : List Oper}
variable {d : Nat} {ty : TypeId} {pos : String} {af : Array Edge}
theorem Jip {t e : TypeId} {by_ : Nat} {zero : Value} (ht : P.underlying t = some (.slice e)) (he : Elem P e 1 by_ zero) (hn : Nat.blt d n = true)
  (h : ∀ g w', Own 0 w' e 1 (some ⟨g, 0, none⟩) 0 0 [] -> w.heap.size <= g -> w.grownBy w' none -> WL P n ro df ops rest N ((d, .slice (some ⟨g, 0, none⟩) 0 0) :: L) w') :
  WL P n ro df ops (⟨some d, .buildSlice t 0 #[], ty, pos, af, none⟩ :: rest) N L w :=
 Jny (b := w.heap.size) (vs := []) (parts := []) ht he (by decide) rfl rfl rfl (by simp) (Nat.le_refl _) hn fun A w' hA hO hG => by
  subst hA; exact h _ w' (hO.low (Nat.zero_le _)) (Nat.le_refl _) hG
theorem Jb5 {x y : Operand} {t e : TypeId} {by_ : Nat} {zero : Value} {A' : Option Addr} {g m' c' B b0 : Nat} {cs' : List Value} (ht : P.underlying t = some (.slice e)) (he : Elem P e 1 by_ zero)
  (hO : Own 0 w e 1 (some ⟨g, 0, none⟩) 0 0 []) (hR : Rd B w 1 A' m' c' cs') (h1 : ∀ u ∈ cs', u.oneCell' = true) (hx : ev L x = some (.slice (some ⟨g, 0, none⟩) 0 0)) (hy : ev L y = some (.slice A' m' c'))
  (hmax : m' <= maxLen) (hby : m' * by_ <= 140737488355328) (hb0 : b0 <= w.heap.size) (hg0 : ∀ g2, bl (some ⟨g, 0, none⟩) = some g2 -> b0 <= g2) (hn : Nat.blt d n = true)
  (h : ∀ A2 c2 w', Own 0 w' e 1 A2 m' c2 cs' -> (∀ g2, bl A2 = some g2 -> b0 <= g2) -> (∀ g2, vbP (.slice A2 m' c2) w' g2 -> w.heap.size <= g2 /\ g2 < w'.heap.size) -> Jmz (.slice (some ⟨g, 0, none⟩) 0 0) (.slice A2 m' c2) -> w.grownBy w' none -> WL P n ro df ops rest N ((d, .slice A2 m' c2) :: L) w') :
  WL P n ro df ops (⟨some d, .call ⟨.builtin .append, #[x, y], #[t, t]⟩, ty, pos, af, none⟩ :: rest) N L w := by
 obtain ⟨inf, i1, i2, i3, i4⟩ := he.ex; rcases Nat.eq_zero_or_pos m' with h0 | h0
 .subst h0; have hnil : cs' = [] := List.eq_nil_of_length_eq_zero (by simpa using hR.len); subst hnil; have hr : (Builtin.append_ #[t, t] ty #[.slice (some ⟨g, 0, none⟩) 0 0, .slice A' 0 c']).run P w = .ok (.slice (some ⟨g, 0, none⟩) 0 0) w := by
   rcases hO.2 with ⟨h2, h3⟩ | ⟨g, cap, cur, h2, h3, h4, h5, h6, h7, h8⟩
   .cases h2
   .cases h2; cases A' <;> simp [Builtin.append_, run_underlying ht, sizeOf, typeInfo, i1, Builtin.lenOf, Builtin.firstCells, loadCells, loadCellsFrom, h5, storeCells]
  exact WL.val rfl rfl hn (fun a ha => by simp [execOp, resolve, invoke, builtin, ha.ev hx, ha.ev hy, hr]) (h _ 0 w hO hg0 (fun g2 hg2 => absurd hg2.1 (Nat.lt_irrefl 0)) (fun _ => rfl) (Jg w))
 .obtain ⟨ad, rfl, _, hcell⟩ := hR.cells h0; obtain ⟨v', w', hr, o1, o2⟩ := run_append_arg_grows (P := P) w t ty e inf zero 1 by_ ht i1 i2 i3 i4 he.zs he.pos ⟨g, 0, none⟩ 0 0 [] rfl (fun j u hu => by simp at hu) ad m' c' cs' hR.len hcell (by omega) (by omega) (by rw [Nat.zero_add]; exact hby); have hv : ∃ A2 c2, v' = .slice A2 m' c2 := by
   rcases o1.2 with ⟨rfl, h3⟩ | ⟨g, cap, cur, rfl, _⟩
   .omega
   .exact ⟨_, _, by rw [Nat.zero_add]⟩
  obtain ⟨A2, c2, rfl⟩ := hv; have hO2 : Own w.heap.size w' e 1 A2 m' c2 cs' := by rw [Nat.zero_add, List.nil_append] at o1; exact o1
  refine WL.val rfl rfl hn (fun a ha => by simp [execOp, resolve, invoke, builtin, ha.ev hx, ha.ev hy, hr]) (h A2 c2 w' (hO2.low (Nat.zero_le _)) (fun g2 hg2 => Nat.le_trans hb0 (hO2.bl_ge g2 hg2).1) (fun g2 hg2 => hO2.bl_ge g2 hg2.2) (fun h => absurd (show m' = 0 from h) (by omega)) o2)
theorem Jmh {x y : Operand} {t e : TypeId} {by_ B : Nat} {zero : Value} {A : Option Addr} {m c : Nat} {l : List Int} {wR : World} {k : IntKind} {J : Int} (ht : P.underlying t = some (.slice e)) (he : Elem P e 1 by_ zero) (hR : Rd B wR 1 A m c (is l))
    (hx : ev L x = some (.slice A m c)) (hy : ev L y = some (.int k J)) (hJ : 0 <= J /\ J <= (m : Nat)) (hn : Nat.blt d n = true)
    (h : WL P n ro df ops rest N ((d, .slice (if c = J.toNat then A else A.map (·.add (J.toNat * 1))) (l.drop J.toNat).length (c - J.toNat)) :: L) w) : WL P n ro df ops (⟨some d, .slice t x (some y) none none, ty, pos, af, none⟩ :: rest) N L w := by
  refine Jg2 ht he hR hx hy hJ hn ?_
  rw [List.length_drop, hR.ilen] at h; exact h
end
theorem Rd.win {B : Nat} {w : World} {A : Option Addr} {m c : Nat} {l : List Int} (h : Rd B w 1 A m c (is l)) {J : Int} (hJ : 0 <= J /\ J <= (m : Nat)) : Rd B w 1 (if c = J.toNat then A else A.map (·.add (J.toNat * 1))) (l.drop J.toNat).length (c - J.toNat) (is (l.drop J.toNat)) := by
 have h2 := h.drop (k := J.toNat) (by omega); rw [show (is l).drop (J.toNat * 1) = is (l.drop J.toNat) by rw [Nat.mul_one]; simp [is, List.map_drop]] at h2; rw [List.length_drop, h.ilen]; exact h2
end Go.Proofs.Ytlfeialpcdoleaa
set_option linter.unusedSimpArgs false
set_option linter.unusedVariables false
namespace Go.Proofs.Ytlfeialpcdoleaa
open Go.RowKit
abbrev nI (x : Int) : Value := .int .i64 x
abbrev nA (g : Nat) : Option Addr := some ⟨g, 0, none⟩
abbrev nP (g : Nat) : Value := .pointer (some ⟨g, 0, none⟩)
abbrev nS {α : Type} (A : Option Addr) (x : List α) (k : Nat) : Value := .slice A x.length k
abbrev nR (e : Nat) (A : Option Addr) (x : List Int) (k : Nat) : Rw := .row e 1 A x.length k (is x)
abbrev nV (e g : Nat) (v : Value) : Rw := .row e 1 (some ⟨g, 0, none⟩) 1 1 [v]
section
variable {P : Program} {n : Nat} {ro : Option Nat} {df : List Deferred} {N : Qo} {L : Fr} {w w0 : World} {ops : Array Oper} {rest : List Oper}
variable {d : Nat} {ty : TypeId} {pos : String} {af : Array Edge} {X : World -> Prop} {mr : Option Nat} {R : List Rw}
theorem Jm (i j : Nat) {x : Operand} {t e z g : Nat} {D : TypeDesc} {cs : List Value} {v : Value} (hu : P.underlying t = some D) (hS : St X w0 mr w R) (hr : R[i]? = some (.row e z (some ⟨g, 0, none⟩) 1 1 cs)) (hx : ev L x = some (.pointer (some ((⟨g, 0, none⟩ : Addr).add j)))) (hc : cs[j]? = some v)
    (hq : (match D with | .struct _ | .array _ _ => true | _ => false) = false /\ Nat.blt d n = true) (h : WL P n ro df ops rest N ((d, v) :: L) w) : WL P n ro df ops (⟨some d, .load t x, ty, pos, af, none⟩ :: rest) N L w :=
  Jk hu hq.1 hx (Jf (hS.own hr) j v hc) hq.2 h
end
def Joe (all : Array Oper) (n : Nat) (L : Fr) : Oper -> Option (Nat × Value)
  | ⟨some d, op, _, _, _, some (j, want)⟩ => match (all[j]?.bind (·.dst)).bind (lk L) with
    | some (.bool b) => bif b == want then (opv L op).bind (fun v => bif Nat.blt d n then some (d, v) else none) else bif Nat.blt d n then some (d, undef) else none
    | some (.tuple ⟨[]⟩) => bif Nat.blt d n then some (d, undef) else none
    | _ => none
  | ⟨some d, op, _, _, _, none⟩ => (opv L op).bind fun v => bif Nat.blt d n then some (d, v) else none
  | _ => none
theorem Jmv {P : Program} {n : Nat} {ro : Option Nat} {df : List Deferred} {N : Qo} {L : Fr} {w : World} {all : Array Oper} {o : Oper} {q : Nat × Value} (h : Joe all n L o = some q) (hN : N df (q :: L) w) : WL P n ro df all [o] N L w := by
 obtain ⟨dst, op, ty, ps, af, g⟩ := o; cases dst with
 | none => simp [Joe] at h
 | some d =>
  cases g with
  | none =>
   simp only [Joe] at h; cases hv : opv L op with
   | none => rw [hv] at h; simp at h
   | some v =>
    rw [hv] at h; cases hn : Nat.blt d n <;> simp [hn] at h; subst h; exact Jdq hv hn (Ja hN)
  | some jw =>
   obtain ⟨j, want⟩ := jw; simp only [Joe] at h; split at h
   .rename_i b hb
    cases hbw : (b == want) <;> rw [hbw] at h
    .cases hn : Nat.blt d n <;> simp [hn] at h; subst h; exact Jnw hb hbw hn (Ja hN)
    .have e : b = want := by simpa using hbw
     subst e; simp only [cond_true] at h; cases hv : opv L op with
     | none => rw [hv] at h; simp at h
     | some v =>
      rw [hv] at h; cases hn : Nat.blt d n <;> simp [hn] at h; subst h; exact WL.take hb (Jdq hv hn (Ja hN))
   .rename_i hb
    cases hn : Nat.blt d n <;> simp [hn] at h; subst h; exact QU hb hn (Ja hN)
   .cases h
theorem oA {P : Program} {n : Nat} {ro : Option Nat} {df : List Deferred} {l : List Oper} {F : Fr} {w0 : World} {i : Nat} {o : Oper} {p : Plan} {b : Fr} (h : ∀ R, Joe l.toArray n (Jan F p.on b ++ R) o = some (F.getD i F0)) : obV P n ro df l F w0 i o p b := fun w _ R => Jmv (h R) ⟨rfl, by
 cases p.pure
 .exact Jg _
 .rfl⟩
def ekV : Ent -> Option (Nat × Value)
  | .k d v => some (d, v)
  | _ => none
def tolF (F : List Ent) : List Nat -> Fr -> Option Fr
  | [], A => some A
  | j :: js, A => match F.getD j E0 with
    | .k d v => tolF F js ((d, v) :: A)
    | _ => none
theorem Jmt {F : List Ent} {w : World} {K : Fr -> Prop} : ∀ (js : List Nat) (A B : Fr), tolF F js A = some B -> K B -> Jbm F w K js A
 | [], _, _, h, hk => by cases h; exact hk
 | j :: js, A, B, h, hk => by
  unfold tolF at h; unfold Jbm; cases e : F.getD j E0 with
  | k d v => rw [e] at h; exact Jmt js _ _ h hk
  | m d Pr hh => rw [e] at h; cases h
def stpB (l : List Oper) (n : Nat) (F : List Ent) (o : Oper) (on : List Nat) (b R : Fr) : Option (Nat × Value) := (tolF F on b).bind fun A => Joe l.toArray n (A ++ R) o
def isK : Option (Nat × Value) -> Bool
  | some _ => true
  | none => false
theorem oB {P : Program} {n : Nat} {ro : Option Nat} {df : List Deferred} {l : List Oper} {al : Nat -> Bool} {cp : Nat -> Option Nat} {ph : Nat -> Value -> Value -> Prop} {F : List Ent} {D : Nat -> Value -> World -> Nat -> Prop} {w0 : World} {i : Nat} {o : Oper} {p : Plan} {b : Fr}
  (h : ∀ R, stpB l n F o p.on b R = ekV (F.getD i E0)) (hk : isK (ekV (F.getD i E0)) = true) : obY P n ro df l al cp ph F D w0 i o p b := fun w _ => by
 cases e : F.getD i E0 with
 | m d Pr hh => rw [e] at hk; cases hk
 | k d v =>
  cases hA : tolF F p.on b with
  | none =>
   have := h []; rw [e] at this; unfold stpB at this; rw [hA] at this; cases this
  | some A =>
   refine Jmt _ _ _ hA fun R => ?_; have := h R; rw [e] at this; unfold stpB at this; rw [hA] at this; exact Jmv this ⟨rfl, by
    cases p.pure
    .exact Jg _
    .rfl⟩
theorem St.pickN {X : World -> Prop} {w0 w : World} {mr : Option Nat} {R : List Rw} (k : Nat) (is : List Nat) (hn : Jdd is = true) (h : St X w0 mr w R) : St X w0 mr w ((is.filterMap fun i => (R.take k)[i]?) ++ R.drop k) :=
  Js6 (T := R.drop k) (R.take k) is hn (by rw [List.take_append_drop]; exact h)
theorem St.fin {w0 w : World} {R : List Rw} {K : List Rw -> Prop} (h : St TT w0 none w R) (hr : R.all (fun r => !r.isRo) = true) (hk : K R) : ∃ Q, w0.grownBy w none /\ Rows w0.heap.size none w Q /\ News w0.heap.size Q /\ K Q := ⟨R, h.ext, h.rows, J5 h.rows hr, hk⟩
theorem oT {p : Prop} [Decidable p] (h : decide p = true) : p := of_decide_eq_true h
theorem oF {p : Prop} [Decidable p] (h : decide p = false) : ¬ p := of_decide_eq_false h
end Go.Proofs.Ytlfeialpcdoleaa
set_option linter.unusedSimpArgs false
set_option linter.unusedVariables false
namespace Go.Proofs.Ytlfeialpcdoleaa
open Go.RowKit
def RlR (w : World) (hs : Hs) (ls : List (List Int)) : Prop := ∀ i, i < ls.length -> ∃ B, Rd B w 1 (hs i).1 (ls.getD i []).length (hs i).2 (is (ls.getD i []))
theorem RlR.ext {w w' : World} {hs : Hs} {ls : List (List Int)} (h : RlR w hs ls) (hg : w.grownBy w' none) : RlR w' hs ls := fun i hi => by obtain ⟨B, h2⟩ := h i hi; exact ⟨B, h2.ext hg⟩
theorem RlR.nil (w : World) (hs : Hs) : RlR w hs [] := fun i hi => absurd hi (Nat.not_lt_zero i)
theorem RlR.append {w : World} {hs hs' : Hs} {ls ls' : List (List Int)} (h : RlR w hs ls) (h' : RlR w hs' ls') : RlR w (Yf ls.length hs hs') (ls ++ ls') := fun i hi => by
 rw [List.length_append] at hi; rcases Nat.lt_or_ge i ls.length with hl | hl
 .have e1 : (ls ++ ls').getD i [] = ls.getD i [] := by rw [List.getD_eq_getElem?_getD, List.getElem?_append_left hl, <- List.getD_eq_getElem?_getD]
  have e2 : Yf ls.length hs hs' i = hs i := by unfold Yf; rw [if_pos hl]
  rw [e1, e2]; exact h i hl
 .have e1 : (ls ++ ls').getD i [] = ls'.getD (i - ls.length) [] := by rw [List.getD_eq_getElem?_getD, List.getElem?_append_right hl, <- List.getD_eq_getElem?_getD]
  have e2 : Yf ls.length hs hs' i = hs' (i - ls.length) := by unfold Yf; rw [if_neg (by omega)]
  rw [e1, e2]; exact h' _ (by omega)
theorem RlR.rl {w : World} {A : Option Addr} {n k B : Nat} {hs : Hs} {ls : List (List Int)} (h : RlR w hs ls) (hA : Rd B w 1 A n k (JJ hs ls)) : Rl w A n k ls := RlH.rl ⟨⟨B, hA⟩, h⟩
theorem RlH.rows {w : World} {A : Option Addr} {n k : Nat} {hs : Hs} {ls : List (List Int)} (h : RlH w A n k hs ls) : RlR w hs ls := h.at__
theorem RlR.inr {w : World} {eI : Nat} {hs : Hs} {ls : List (List Int)} (h : Rows 0 none w (inr eI hs ls)) : RlR w hs ls := fun i hi => by
 have := (h.get (Z9 eI hs ls hi)).1.rd; exact ⟨_, this⟩
section
variable {P : Program} {n : Nat} {ro : Option Nat} {df : List Deferred} {N : Qo} {L : Fr} {w w0 : World} {ops : Array Oper} {rest : List Oper}
variable {d : Nat} {ty : TypeId} {pos : String} {af : Array Edge} {X : World -> Prop} {mr : Option Nat} {R : List Rw} {eI m c : Nat} {A : Option Addr} {hs : Hs} {ls : List (List Int)}
end
abbrev HZ := Nat -> (Option Addr × Nat) × Hs
def zcells (H : HZ) (zs : List (List (List Int))) : List Value := zs.mapIdx fun i l => .slice (H i).1.1 l.length (H i).1.2
structure Rll (w : World) (A : Option Addr) (n k : Nat) (H : HZ) (zs : List (List (List Int))) : Prop where
  out : ∃ B, Rd B w 1 A n k (zcells H zs)
  at__ : ∀ i, i < zs.length -> RlH w (H i).1.1 (zs.getD i []).length (H i).1.2 (H i).2 (zs.getD i [])
theorem Rll.ext {w w' : World} {A : Option Addr} {n k : Nat} {H : HZ} {zs : List (List (List Int))} (h : Rll w A n k H zs) (hg : w.grownBy w' none) : Rll w' A n k H zs := by
 obtain ⟨B, h1⟩ := h.out; exact ⟨⟨B, h1.ext hg⟩, fun i hi => (h.at__ i hi).ext hg⟩
theorem Rll.two {w : World} {A A1 A2 : Option Addr} {B k m1 k1 m2 k2 : Nat} {hs1 hs2 : Hs} {l1 l2 : List (List Int)} (hA : Rd B w 1 A 2 k [.slice A1 m1 k1, .slice A2 m2 k2]) (h1 : RlH w A1 m1 k1 hs1 l1) (h2 : RlH w A2 m2 k2 hs2 l2) :
  Rll w A 2 k (fun i => if i = 0 then ((A1, k1), hs1) else ((A2, k2), hs2)) [l1, l2] := by
 obtain rfl := h1.len; obtain rfl := h2.len; refine ⟨⟨B, hA⟩, fun i hi => ?_⟩
 match i, hi with
 | 0, _ => exact h1
 | 1, _ => exact h2
end Go.Proofs.Ytlfeialpcdoleaa
set_option linter.unusedVariables false
namespace Go.Proofs.Ytlfeialpcdoleaa
open Go.RowKit
theorem Try.mixed : Try.prog.follows .mixedOrders = true := by kernel_rfl
theorem Try.el3 : Elem Try.prog 3 1 8 (.int .i64 0) := .mk' (by kernel_rfl) rfl (by decide)
theorem Try.el4 : Elem Try.prog 4 1 1 (.bool false) := .mk' (by kernel_rfl) rfl (by decide)
theorem Try.el22 : Elem Try.prog 22 1 24 (.slice none 0 0) := .mk' (by kernel_rfl) rfl (by decide)
theorem Try.el121 : Elem Try.prog 121 1 24 (.slice none 0 0) := .mk' (by kernel_rfl) rfl (by decide)
theorem Try.el25 : Elem Try.prog 25 1 24 (.slice none 0 0) := .mk' (by kernel_rfl) rfl (by decide)
theorem Try.el27 : Elem Try.prog 27 2 32 (.agg #[.int .i64 0, .slice none 0 0]) := .mk' (by kernel_rfl) rfl (by decide)
theorem Try.fla27_0 : Jdi Try.prog 27 0 0 = true := by kernel_rfl
theorem Try.fla27_1 : Jdi Try.prog 27 1 1 = true := by kernel_rfl
theorem Try.bld27 : bldP Try.prog 27 [(0, 1), (1, 1)] #[.int .i64 0, .slice none 0 0] := ⟨by kernel_rfl, _, Try.underlying27, by kernel_rfl⟩
theorem Try.el24 : Elem Try.prog 24 3 40 (.agg #[.int .i64 0, .int .i64 0, .slice none 0 0]) := .mk' (by kernel_rfl) rfl (by decide)
theorem Try.agg24 : Jpi Try.prog 24 = true := by kernel_rfl
theorem Try.agg27 : Jpi Try.prog 27 = true := by kernel_rfl
theorem Try.fla24_0 : Jdi Try.prog 24 0 0 = true := by kernel_rfl
theorem Try.fla24_1 : Jdi Try.prog 24 1 1 = true := by kernel_rfl
theorem Try.fla24_2 : Jdi Try.prog 24 2 2 = true := by kernel_rfl
theorem Try.bld24 : bldP Try.prog 24 [(0, 1), (1, 1), (2, 1)] #[.int .i64 0, .int .i64 0, .slice none 0 0] := ⟨by kernel_rfl, _, Try.underlying24, by kernel_rfl⟩
theorem Try.fla117_0 : Jdi Try.prog 117 0 0 = true := by kernel_rfl
theorem Try.fla117_1 : Jdi Try.prog 117 1 3 = true := by kernel_rfl
theorem Try.fla117_2 : Jdi Try.prog 117 2 4 = true := by kernel_rfl
theorem Try.fla117_3 : Jdi Try.prog 117 3 5 = true := by kernel_rfl
theorem Try.fla117_4 : Jdi Try.prog 117 4 6 = true := by kernel_rfl
theorem Try.bld117 : bldP Try.prog 117 [(0, 3), (3, 1), (4, 1), (5, 1), (6, 1)] #[.int .i64 0, .int .i64 0, .slice none 0 0, .int .i64 0, .slice none 0 0, .slice none 0 0, .slice none 0 0] := ⟨by kernel_rfl, _, Try.underlying117, by kernel_rfl⟩
theorem Try.nm15 : (Try.f15.name == "runtime.NumGoroutine") = false := by kernel_rfl
theorem Try.nm16 : (Try.f16.name == "runtime.NumGoroutine") = false := by kernel_rfl
theorem Try.nm17 : (Try.f17.name == "runtime.NumGoroutine") = false := by kernel_rfl
theorem Try.nm19 : (Try.f19.name == "runtime.NumGoroutine") = false := by kernel_rfl
theorem Try.nm20 : (Try.f20.name == "runtime.NumGoroutine") = false := by kernel_rfl
theorem Try.nm21 : (Try.f21.name == "runtime.NumGoroutine") = false := by kernel_rfl
theorem Try.nm22 : (Try.f22.name == "runtime.NumGoroutine") = false := by kernel_rfl
theorem Try.nm23 : (Try.f23.name == "runtime.NumGoroutine") = false := by kernel_rfl
theorem Try.nm26 : (Try.f26.name == "runtime.NumGoroutine") = false := by kernel_rfl
theorem Try.nm27 : (Try.f27.name == "runtime.NumGoroutine") = false := by kernel_rfl
theorem Try.nm28 : (Try.f28.name == "runtime.NumGoroutine") = false := by kernel_rfl
theorem Try.nm29 : (Try.f29.name == "runtime.NumGoroutine") = false := by kernel_rfl
theorem Try.nm30 : (Try.f30.name == "runtime.NumGoroutine") = false := by kernel_rfl
theorem Try.nm31 : (Try.f31.name == "runtime.NumGoroutine") = false := by kernel_rfl
theorem Try.nm32 : (Try.f32.name == "runtime.NumGoroutine") = false := by kernel_rfl
theorem Try.nm33 : (Try.f33.name == "runtime.NumGoroutine") = false := by kernel_rfl
theorem Try.nm36 : (Try.f36.name == "runtime.NumGoroutine") = false := by kernel_rfl
theorem Try.nm46 : (Try.f46.name == "runtime.NumGoroutine") = false := by kernel_rfl
theorem Try.nm49 : (Try.f49.name == "runtime.NumGoroutine") = false := by kernel_rfl
theorem Try.nm54 : (Try.f54.name == "runtime.NumGoroutine") = false := by kernel_rfl
theorem Try.nm56 : (Try.f56.name == "runtime.NumGoroutine") = false := by kernel_rfl
theorem Try.nm57 : (Try.f57.name == "runtime.NumGoroutine") = false := by kernel_rfl
theorem Try.nm58 : (Try.f58.name == "runtime.NumGoroutine") = false := by kernel_rfl
theorem Try.nm59 : (Try.f59.name == "runtime.NumGoroutine") = false := by kernel_rfl
theorem Try.nm60 : (Try.f60.name == "runtime.NumGoroutine") = false := by kernel_rfl
theorem Try.nm61 : (Try.f61.name == "runtime.NumGoroutine") = false := by kernel_rfl
theorem Try.nm62 : (Try.f62.name == "runtime.NumGoroutine") = false := by kernel_rfl
theorem Try.nm64 : (Try.f64.name == "runtime.NumGoroutine") = false := by kernel_rfl
theorem Try.nm65 : (Try.f65.name == "runtime.NumGoroutine") = false := by kernel_rfl
theorem Try.nm66 : (Try.f66.name == "runtime.NumGoroutine") = false := by kernel_rfl
theorem Try.nm67 : (Try.f67.name == "runtime.NumGoroutine") = false := by kernel_rfl
theorem Try.nm68 : (Try.f68.name == "runtime.NumGoroutine") = false := by kernel_rfl
theorem Try.nm69 : (Try.f69.name == "runtime.NumGoroutine") = false := by kernel_rfl
theorem Try.nm70 : (Try.f70.name == "runtime.NumGoroutine") = false := by kernel_rfl
theorem Try.nm71 : (Try.f71.name == "runtime.NumGoroutine") = false := by kernel_rfl
theorem Try.nm72 : (Try.f72.name == "runtime.NumGoroutine") = false := by kernel_rfl
theorem Try.nm73 : (Try.f73.name == "runtime.NumGoroutine") = false := by kernel_rfl
theorem Try.nm75 : (Try.f75.name == "runtime.NumGoroutine") = false := by kernel_rfl
theorem Try.nm79 : (Try.f79.name == "runtime.NumGoroutine") = false := by kernel_rfl
theorem Try.nm80 : (Try.f80.name == "runtime.NumGoroutine") = false := by kernel_rfl
theorem Try.nm81 : (Try.f81.name == "runtime.NumGoroutine") = false := by kernel_rfl
theorem Try.nm86 : (Try.f86.name == "runtime.NumGoroutine") = false := by kernel_rfl
theorem Try.nm87 : (Try.f87.name == "runtime.NumGoroutine") = false := by kernel_rfl
theorem Try.nm88 : (Try.f88.name == "runtime.NumGoroutine") = false := by kernel_rfl
theorem Try.nm89 : (Try.f89.name == "runtime.NumGoroutine") = false := by kernel_rfl
theorem Try.nm90 : (Try.f90.name == "runtime.NumGoroutine") = false := by kernel_rfl
theorem Try.nm91 : (Try.f91.name == "runtime.NumGoroutine") = false := by kernel_rfl
theorem Try.nm92 : (Try.f92.name == "runtime.NumGoroutine") = false := by kernel_rfl
theorem Try.nm93 : (Try.f93.name == "runtime.NumGoroutine") = false := by kernel_rfl
theorem Try.nm94 : (Try.f94.name == "runtime.NumGoroutine") = false := by kernel_rfl
theorem Try.nm95 : (Try.f95.name == "runtime.NumGoroutine") = false := by kernel_rfl
theorem Try.nm96 : (Try.f96.name == "runtime.NumGoroutine") = false := by kernel_rfl
theorem Try.nm97 : (Try.f97.name == "runtime.NumGoroutine") = false := by kernel_rfl
theorem Try.nm98 : (Try.f98.name == "runtime.NumGoroutine") = false := by kernel_rfl
theorem Try.nm99 : (Try.f99.name == "runtime.NumGoroutine") = false := by kernel_rfl
theorem Try.nm100 : (Try.f100.name == "runtime.NumGoroutine") = false := by kernel_rfl
theorem Try.nm101 : (Try.f101.name == "runtime.NumGoroutine") = false := by kernel_rfl
theorem Try.nm102 : (Try.f102.name == "runtime.NumGoroutine") = false := by kernel_rfl
theorem Try.nm103 : (Try.f103.name == "runtime.NumGoroutine") = false := by kernel_rfl
theorem Try.nm104 : (Try.f104.name == "runtime.NumGoroutine") = false := by kernel_rfl
theorem Try.nm105 : (Try.f105.name == "runtime.NumGoroutine") = false := by kernel_rfl
theorem Try.nm107 : (Try.f107.name == "runtime.NumGoroutine") = false := by kernel_rfl
theorem Try.nm108 : (Try.f108.name == "runtime.NumGoroutine") = false := by kernel_rfl
theorem Try.nm109 : (Try.f109.name == "runtime.NumGoroutine") = false := by kernel_rfl
theorem Try.nm110 : (Try.f110.name == "runtime.NumGoroutine") = false := by kernel_rfl
theorem Try.nm111 : (Try.f111.name == "runtime.NumGoroutine") = false := by kernel_rfl
theorem Try.nm112 : (Try.f112.name == "runtime.NumGoroutine") = false := by kernel_rfl
theorem Try.nm113 : (Try.f113.name == "runtime.NumGoroutine") = false := by kernel_rfl
theorem Try.nm114 : (Try.f114.name == "runtime.NumGoroutine") = false := by kernel_rfl
theorem Try.nm115 : (Try.f115.name == "runtime.NumGoroutine") = false := by kernel_rfl
theorem Try.nm116 : (Try.f116.name == "runtime.NumGoroutine") = false := by kernel_rfl
theorem Try.nm117 : (Try.f117.name == "runtime.NumGoroutine") = false := by kernel_rfl
theorem Try.nm118 : (Try.f118.name == "runtime.NumGoroutine") = false := by kernel_rfl
theorem Try.nm119 : (Try.f119.name == "runtime.NumGoroutine") = false := by kernel_rfl
theorem Try.nm120 : (Try.f120.name == "runtime.NumGoroutine") = false := by kernel_rfl
theorem Try.nm121 : (Try.f121.name == "runtime.NumGoroutine") = false := by kernel_rfl
theorem Try.nm122 : (Try.f122.name == "runtime.NumGoroutine") = false := by kernel_rfl
theorem Try.nm123 : (Try.f123.name == "runtime.NumGoroutine") = false := by kernel_rfl
theorem Try.nm124 : (Try.f124.name == "runtime.NumGoroutine") = false := by kernel_rfl
theorem Try.nm125 : (Try.f125.name == "runtime.NumGoroutine") = false := by kernel_rfl
theorem Try.nm126 : (Try.f126.name == "runtime.NumGoroutine") = false := by kernel_rfl
theorem Try.nm127 : (Try.f127.name == "runtime.NumGoroutine") = false := by kernel_rfl
theorem Try.nm128 : (Try.f128.name == "runtime.NumGoroutine") = false := by kernel_rfl
theorem Try.nm129 : (Try.f129.name == "runtime.NumGoroutine") = false := by kernel_rfl
theorem Try.nm130 : (Try.f130.name == "runtime.NumGoroutine") = false := by kernel_rfl
theorem Try.nm131 : (Try.f131.name == "runtime.NumGoroutine") = false := by kernel_rfl
theorem Try.nm132 : (Try.f132.name == "runtime.NumGoroutine") = false := by kernel_rfl
theorem Try.nm133 : (Try.f133.name == "runtime.NumGoroutine") = false := by kernel_rfl
theorem Try.nm134 : (Try.f134.name == "runtime.NumGoroutine") = false := by kernel_rfl
theorem Try.nm135 : (Try.f135.name == "runtime.NumGoroutine") = false := by kernel_rfl
theorem Try.nm136 : (Try.f136.name == "runtime.NumGoroutine") = false := by kernel_rfl
end Go.Proofs.Ytlfeialpcdoleaa
namespace Go.Proofs.Ytlfeialpcdoleaa
open Go.RowKit
abbrev Jif := Try.fla117_0
abbrev Jae := Try.fla117_1
abbrev Jem := Try.fla117_2
abbrev YG := Try.fla117_3
abbrev Jie := Try.fla117_4
abbrev Qh := Try.fla24_0
abbrev Qw := Try.fla24_1
abbrev Yu := Try.fla24_2
abbrev JP := Try.fla27_0
abbrev JN := Try.fla27_1
abbrev Js1 := Try.bld117
abbrev XB24 := Try.bld24
abbrev QM := Try.bld27
abbrev XE121 := Try.el121
abbrev Jy := Try.el22
abbrev J9 := Try.el24
abbrev Jid := Try.el25
abbrev Jw := Try.el27
abbrev XE3 := Try.el3
abbrev XE4 := Try.el4
abbrev Jnv := Try.func100
abbrev Jnu := Try.func101
abbrev XF102 := Try.func102
abbrev XF103 := Try.func103
abbrev XF104 := Try.func104
abbrev Js0 := Try.func105
abbrev XF107 := Try.func107
abbrev Jsz := Try.func108
abbrev XF109 := Try.func109
abbrev XF110 := Try.func110
abbrev XF111 := Try.func111
abbrev Jnt := Try.func112
abbrev Jg0 := Try.func113
abbrev XF114 := Try.func114
abbrev XF115 := Try.func115
abbrev Jsy := Try.func116
abbrev Jns := Try.func117
abbrev XF118 := Try.func118
abbrev Jsx := Try.func119
abbrev XF120 := Try.func120
abbrev Jsw := Try.func121
abbrev XF122 := Try.func122
abbrev XF123 := Try.func123
abbrev XF124 := Try.func124
abbrev XF125 := Try.func125
abbrev Jsv := Try.func126
abbrev XF127 := Try.func127
abbrev XF128 := Try.func128
abbrev Jnr := Try.func129
abbrev XF130 := Try.func130
abbrev XF131 := Try.func131
abbrev XF132 := Try.func132
abbrev XF133 := Try.func133
abbrev XF134 := Try.func134
abbrev XF135 := Try.func135
abbrev XF136 := Try.func136
abbrev XF15 := Try.func15
abbrev XF16 := Try.func16
abbrev XF17 := Try.func17
abbrev XF19 := Try.func19
abbrev Jma := Try.func20
abbrev XF21 := Try.func21
abbrev XF22 := Try.func22
abbrev XF23 := Try.func23
abbrev XF26 := Try.func26
abbrev XF27 := Try.func27
abbrev XF28 := Try.func28
abbrev XF29 := Try.func29
abbrev XF30 := Try.func30
abbrev XF31 := Try.func31
abbrev XF32 := Try.func32
abbrev XF33 := Try.func33
abbrev XF36 := Try.func36
abbrev XF46 := Try.func46
abbrev XF49 := Try.func49
abbrev XF54 := Try.func54
abbrev XF56 := Try.func56
abbrev XF57 := Try.func57
abbrev XF58 := Try.func58
abbrev XF59 := Try.func59
abbrev XF6 := Try.func6
abbrev XF60 := Try.func60
abbrev Jic := Try.func61
abbrev XF62 := Try.func62
abbrev XF64 := Try.func64
abbrev XF65 := Try.func65
abbrev XF66 := Try.func66
abbrev Jpn := Try.func67
abbrev Jpm := Try.func68
abbrev XF69 := Try.func69
abbrev XF70 := Try.func70
abbrev XF71 := Try.func71
abbrev XF72 := Try.func72
abbrev XF73 := Try.func73
abbrev XF75 := Try.func75
abbrev XF79 := Try.func79
abbrev XF80 := Try.func80
abbrev XF81 := Try.func81
abbrev Jpl := Try.func86
abbrev XF87 := Try.func87
abbrev XF88 := Try.func88
abbrev XF89 := Try.func89
abbrev XF90 := Try.func90
abbrev XF91 := Try.func91
abbrev Jpk := Try.func92
abbrev XF93 := Try.func93
abbrev XF94 := Try.func94
abbrev XF95 := Try.func95
abbrev XF96 := Try.func96
abbrev XF97 := Try.func97
abbrev XF98 := Try.func98
abbrev XF99 := Try.func99
abbrev Qk := Try.agg24
abbrev JX := Try.agg27
abbrev XN100 := Try.nm100
abbrev Jsq := Try.nm101
abbrev XN102 := Try.nm102
abbrev XN103 := Try.nm103
abbrev XN104 := Try.nm104
abbrev XN105 := Try.nm105
abbrev XN107 := Try.nm107
abbrev XN108 := Try.nm108
abbrev XN109 := Try.nm109
abbrev XN110 := Try.nm110
abbrev XN111 := Try.nm111
abbrev Jsp := Try.nm112
abbrev Jka := Try.nm113
abbrev XN114 := Try.nm114
abbrev XN115 := Try.nm115
abbrev XN116 := Try.nm116
abbrev Jso := Try.nm117
abbrev XN118 := Try.nm118
abbrev XN119 := Try.nm119
abbrev XN120 := Try.nm120
abbrev XN121 := Try.nm121
abbrev XN122 := Try.nm122
abbrev XN123 := Try.nm123
abbrev XN124 := Try.nm124
abbrev XN125 := Try.nm125
abbrev XN126 := Try.nm126
abbrev XN127 := Try.nm127
abbrev XN128 := Try.nm128
abbrev Jsn := Try.nm129
abbrev XN130 := Try.nm130
abbrev XN131 := Try.nm131
abbrev XN132 := Try.nm132
abbrev XN133 := Try.nm133
abbrev XN134 := Try.nm134
abbrev XN135 := Try.nm135
abbrev XN136 := Try.nm136
abbrev XN15 := Try.nm15
abbrev XN16 := Try.nm16
abbrev XN17 := Try.nm17
abbrev XN19 := Try.nm19
abbrev Jpj := Try.nm20
abbrev XN21 := Try.nm21
abbrev XN22 := Try.nm22
abbrev XN23 := Try.nm23
abbrev XN26 := Try.nm26
abbrev XN27 := Try.nm27
abbrev XN28 := Try.nm28
abbrev XN29 := Try.nm29
abbrev XN30 := Try.nm30
abbrev XN31 := Try.nm31
abbrev XN32 := Try.nm32
abbrev XN33 := Try.nm33
abbrev XN36 := Try.nm36
abbrev XN46 := Try.nm46
abbrev XN49 := Try.nm49
abbrev XN54 := Try.nm54
abbrev XN56 := Try.nm56
abbrev XN57 := Try.nm57
abbrev XN58 := Try.nm58
abbrev XN59 := Try.nm59
abbrev XN60 := Try.nm60
abbrev Jj9 := Try.nm61
abbrev XN62 := Try.nm62
abbrev XN64 := Try.nm64
abbrev XN65 := Try.nm65
abbrev XN66 := Try.nm66
abbrev XN67 := Try.nm67
abbrev XN68 := Try.nm68
abbrev XN69 := Try.nm69
abbrev XN70 := Try.nm70
abbrev XN71 := Try.nm71
abbrev XN72 := Try.nm72
abbrev XN73 := Try.nm73
abbrev XN75 := Try.nm75
abbrev XN79 := Try.nm79
abbrev XN80 := Try.nm80
abbrev XN81 := Try.nm81
abbrev XN86 := Try.nm86
abbrev XN87 := Try.nm87
abbrev XN88 := Try.nm88
abbrev XN89 := Try.nm89
abbrev XN90 := Try.nm90
abbrev XN91 := Try.nm91
abbrev XN92 := Try.nm92
abbrev XN93 := Try.nm93
abbrev XN94 := Try.nm94
abbrev XN95 := Try.nm95
abbrev XN96 := Try.nm96
abbrev XN97 := Try.nm97
abbrev XN98 := Try.nm98
abbrev XN99 := Try.nm99
abbrev XU109 := Try.underlying109
abbrev Jfz := Try.underlying121
abbrev Jr := Try.underlying22
abbrev Ju := Try.underlying25
abbrev XU3 := Try.underlying3
abbrev XU4 := Try.underlying4
abbrev Jd6 := Try.underlying58
abbrev Jd5 := Try.underlying69
end Go.Proofs.Ytlfeialpcdoleaa
set_option linter.unusedSimpArgs false
set_option linter.unusedVariables false
set_option maxRecDepth 4000
set_option maxHeartbeats 4000000
namespace Go.Proofs.Ytlfeialpcdoleaa
open Go.RowKit
def Jf2 (b : Bool) (Q : Int -> Prop) : Prop :=
  ((b = true) -> (Q (0 : Int))) /\ (b = false -> (Q (1 : Int)))
theorem Jm6 {w : World} {Q : Int -> Prop} {b : Bool}  (hv : Jf2 b Q) :
   Calls Try.prog 121 #[.bool b] w fun e w' => ∃ v Qr, e = .returned v /\ w.grownBy w' none /\ Rows w.heap.size none w' Qr /\ News w.heap.size Qr /\ ∃ (r0 : Int), v = .int .i64 r0 /\ Qr = [] /\ Q r0 := by
 refine Jp <| Jo (vs := [.bool b]) [2] Jsw rfl rfl rfl rfl ?_; have hS := Jt w; unfold Jf2 at hv; refine Je 9 <| Ji rfl (fun c11 => ?_) (fun c11 => ?_)
 .have hv := hv.1 (c11); refine Je 4 <| W.ret <| ⟨_, rfl, Fin.nil ?_⟩
  exact (hS.pick [] rfl).fin rfl ⟨(0 : Int), rfl, rfl, hv⟩
 have hv := hv.2 (c11); refine Jq <| Je 4 <| W.ret <| ⟨_, rfl, Fin.nil ?_⟩
 exact (hS.pick [] rfl).fin rfl ⟨(1 : Int), rfl, rfl, hv⟩
def Yx (x : Int) (Q : Int -> Prop) : Prop :=
  ∃ (I14 : Int -> Prop) (μ15 : Int -> Nat), I14 (2 : Int) /\ ∀ (z13 : Int), (I14 z13 -> ((I64 (z13 * z13)) /\ ((((z13 * z13) <= x) -> ((z13 ≠ 0) /\ ((((x.tmod z13) = (0 : Int)) -> Q z13) /\ (¬ ((x.tmod z13) = (0 : Int)) -> ((I64 (z13 + (1 : Int))) /\ (I14 (z13 + (1 : Int)) /\ μ15 (z13 + (1 : Int)) < μ15 z13)))))) /\ (¬ ((z13 * z13) <= x) -> Q x))))
theorem Jd3 {w : World} {Q : Int -> Prop} {x : Int}  (hv : Yx x Q) :
   Calls Try.prog 127 #[.int .i64 x] w fun e w' => ∃ v Qr, e = .returned v /\ w.grownBy w' none /\ Rows w.heap.size none w' Qr /\ News w.heap.size Qr /\ ∃ (r0 : Int), v = .int .i64 r0 /\ Qr = [] /\ Q r0 := by
 refine Jp <| Jo (vs := [nI x]) [2] XF127 rfl rfl rfl rfl ?_; have hS := Jt w; unfold Yx at hv; refine Je 9 <| W.block ?_; obtain ⟨I14, μ15, hv, hk22⟩ := hv; refine JE (σ := Int) (fun z13 w1 => I14 z13 /\ St TT w none w1 []) (fun z13 => [(0, nI x), (2, nI 0), (3, nI z13)]) (fun z13 => μ15 z13) (2 : Int) ⟨hv, hS⟩ ⟨rfl, rfl, rfl, trivial⟩ ?_; rintro z13 w16 ⟨hv, hS⟩; have hv := hk22 z13 hv; refine Je 5 ?_; obtain ⟨o17, hv⟩ := hv; refine WL.mul (r := (z13 * z13)) rfl rfl (wr o17) rfl <| Jc 3 <| Ji rfl (fun c18 => ?_) (fun c18 => ?_)
 .have hv := hv.1 (oT c18); refine Jq <| JA <| W.block <| Je 4 ?_; obtain ⟨o19, hv⟩ := hv; refine Yv (r := (x.tmod z13)) rfl rfl o19 rfl rfl <| Jc 2 <| Ji rfl (fun c20 => ?_) (fun c20 => ?_)
  .have hv := hv.1 (oT c20); refine Je 5 <| W.ret <| ⟨_, rfl, Fin.nil ?_⟩
   exact (hS.pick [] rfl).fin rfl ⟨z13, rfl, rfl, hv⟩
  have hv := hv.2 (oF c20); refine Jq <| Je 2 ?_; obtain ⟨o21, hv⟩ := hv; refine WL.add (r := (z13 + (1 : Int))) rfl rfl (wr o21) rfl <| Jc 2 ?_; exact ⟨(z13 + (1 : Int)), ⟨rfl, rfl, rfl, trivial⟩, hv.2, rfl, hv.1, hS⟩
 have hv := hv.2 (oF c18); refine JC <| Je 5 <| W.ret <| ⟨_, rfl, Fin.nil ?_⟩
 exact (hS.pick [] rfl).fin rfl ⟨x, rfl, rfl, hv⟩
def Jbe (x : Int) (Q : Bool -> Prop) : Prop :=
  (((2 : Int) <= x) -> (Yx x (fun r13 => Q (decide (r13 = x))))) /\ (¬ ((2 : Int) <= x) -> Q false)
theorem Jk9 {w : World} {Q : Bool -> Prop} {x : Int}  (hv : Jbe x Q) :
   Calls Try.prog 120 #[.int .i64 x] w fun e w' => ∃ v Qr, e = .returned v /\ w.grownBy w' none /\ Rows w.heap.size none w' Qr /\ News w.heap.size Qr /\ ∃ (r0 : Bool), v = .bool r0 /\ Qr = [] /\ Q r0 := by
 refine Jp <| Jo (vs := [nI x]) [2] XF120 rfl rfl rfl rfl ?_; have hS := Jt w; unfold Jbe at hv; refine Je 8 <| Js rfl rfl ?_; by_cases g11 : (2 : Int) <= x
 .have hv := hv.1 g11; rw [decide_eq_true g11]; refine Jc 3 <| SL.call hS (Jd3  hv) XF127 rfl XN127 rfl rfl ?_; rintro _ _ w12 ⟨r13, rfl, rfl, hv⟩ hGw12 hS; have hS := hS.n0; refine Jc 7 <| W.ret <| ⟨_, rfl, Fin.nil ?_⟩
  exact (hS.pick [] rfl).fin rfl ⟨(decide (r13 = x)), rfl, rfl, hv⟩
 have hv := hv.2 g11; rw [decide_eq_false g11]; refine Jc 7 <| W.ret <| ⟨_, rfl, Fin.nil ?_⟩
 exact (hS.pick [] rfl).fin rfl ⟨false, rfl, rfl, hv⟩
def Jah (Pf : Int) (Mf : Int) (mf : List Int) (Q : Int -> Prop) : Prop :=
  ∃ J14 : Int -> Prop, (∃ (I21 : Int -> Int -> Prop) (μ22 : Int -> Int -> Nat), I21 (1 : Int) (0 : Int) /\ ∀ (z19 : Int) (z20 : Int), (I21 z19 z20 -> (((z20 < Mf) -> (((z19 <= (256 : Int)) -> ((I64 (z19 * Pf)) /\ ((I64 (z20 + (1 : Int))) /\ (I21 (z19 * Pf) (z20 + (1 : Int)) /\ μ22 (z19 * Pf) (z20 + (1 : Int)) < μ22 z19 z20)))) /\ (¬ (z19 <= (256 : Int)) -> J14 z19))) /\ (¬ (z20 < Mf) -> J14 z19)))) /\ ∀ (z13 : Int), (J14 z13 -> Q z13)
theorem Jas {w : World} {Q : Int -> Prop} {Pf : Int} {Mf : Int} {mf : List Int} {Bf : Nat} {Af : Option Addr} {nf kf : Nat} (hf : Rd Bf w 1 Af nf kf (is mf)) (hv : Jah Pf Mf mf Q) :
   Calls Try.prog 113 #[.agg #[.int .i64 Pf, .int .i64 Mf, .slice Af nf kf]] w fun e w' => ∃ v Qr, e = .returned v /\ w.grownBy w' none /\ Rows w.heap.size none w' Qr /\ News w.heap.size Qr /\ ∃ (r0 : Int), v = .int .i64 r0 /\ Qr = [] /\ Q r0 := by
 have hnf := hf.ilen; subst hnf; refine Jp <| Jo (vs := [.agg #[nI Pf, nI Mf, nS Af mf kf]]) [2] Jg0 rfl rfl rfl rfl ?_; have hS := Jt w; unfold Jah at hv; refine Je 2 <| JF (z := 3) (cs := [nI Pf, nI Mf, nS Af mf kf]) hS rfl rfl rfl rfl ?_; intro g11 w12 hS; refine Jc 2 <| Je 9 ?_; obtain ⟨J14, hv, hk30⟩ := hv; refine Qt (σ := Int) (fun z13 w1 => J14 z13 /\ St TT w none w1 [.row 24 3 (nA g11) 1 1 [nI Pf, nI Mf, nS Af mf kf]]) (fun z13 => [(2, nI 0), (3, nI z13)]) ?_ ?_
 .refine W.block ?_; obtain ⟨I21, μ22, hv, hk28⟩ := hv; refine JE (σ := Int × Int) (fun q w1 => match q with | (z19, z20) => I21 z19 z20 /\ St TT w none w1 [.row 24 3 (nA g11) 1 1 [nI Pf, nI Mf, nS Af mf kf]]) (fun q => match q with | (z19, z20) => [(1, nP g11), (2, nI 0), (3, nI z19), (4, nI z20)]) (fun q => match q with | (z19, z20) => μ22 z19 z20) ((1 : Int), (0 : Int)) ⟨hv, hS⟩ ⟨rfl, rfl, rfl, rfl, trivial⟩ ?_; rintro ⟨z19, z20⟩ w23 ⟨hv, hS⟩; have hv := hk28 z19 z20 hv; refine Je 4 <| Jd (off := 1) Qw rfl rfl <| Jm 0 1 XU3 hS rfl rfl rfl ⟨rfl, rfl⟩ <| YI rfl rfl rfl <| Js rfl rfl ?_; by_cases g24 : z20 < Mf
  .have hv := hv.1 g24; rw [decide_eq_true g24]; refine Jc 6 <| Ji rfl (fun c25 => ?_) (fun c25 => ?_)
   .have hv := hv.1 (oT c25); refine Jq <| JA <| W.block <| Je 2 <| Jd (off := 0) Qh rfl rfl <| Jm 0 0 XU3 hS rfl rfl rfl ⟨rfl, rfl⟩ ?_; obtain ⟨o26, hv⟩ := hv; refine WL.mul (r := (z19 * Pf)) rfl rfl (wr o26) rfl <| Jc 2 <| Je 2 ?_; obtain ⟨o27, hv⟩ := hv; refine WL.add (r := (z20 + (1 : Int))) rfl rfl (wr o27) rfl <| Jc 2 ?_; exact ⟨((z19 * Pf), (z20 + (1 : Int))), ⟨rfl, rfl, rfl, rfl, trivial⟩, hv.2, rfl, hv.1, hS⟩
   have hv := hv.2 (oF c25); refine JC ?_; exact ⟨z19, ⟨rfl, rfl, trivial⟩, rfl, hv, hS⟩
  have hv := hv.2 g24; rw [decide_eq_false g24]; refine Jc 4 <| QB rfl <| JC ?_; exact ⟨z19, ⟨rfl, rfl, trivial⟩, rfl, hv, hS⟩
 rintro z13 w29 ⟨hv, hS⟩; have hv := hk30 z13 hv; refine Je 5 <| W.ret <| ⟨_, rfl, Fin.nil ?_⟩
 exact (hS.pick [] rfl).fin rfl ⟨z13, rfl, rfl, hv⟩
def ZW (p : Int) (n : Int) (x : Int) (Q : List Int -> Prop) : Prop :=
  (0 <= n /\ n * 8 <= 281474976710656 /\ n <= 281474976710656) /\ (∃ (I24 : List Int -> Int -> Int -> Prop) (μ25 : List Int -> Int -> Int -> Nat), I24 (List.replicate n.toNat (0 : Int)) x (0 : Int) /\ ∀ (x21 : List Int) (z22 : Int) (z23 : Int), (I24 x21 z22 z23 -> (((z23 < ((n.toNat : Nat) : Int)) -> ((p ≠ 0) /\ ((0 <= z23 /\ z23 < (n.toNat : Nat)) /\ ((p ≠ 0 /\ I64 (z22.tdiv p)) /\ ((I64 (z23 + (1 : Int))) /\ (I24 (si x21 z23 (z22.tmod p)) (z22.tdiv p) (z23 + (1 : Int)) /\ μ25 (si x21 z23 (z22.tmod p)) (z22.tdiv p) (z23 + (1 : Int)) < μ25 x21 z22 z23)))))) /\ (¬ (z23 < ((n.toNat : Nat) : Int)) -> Q x21))))
theorem Jdb {w : World} {Q : List Int -> Prop} {p : Int} {n : Int} {x : Int}  (hv : ZW p n x Q) :
  Calls Try.prog 129 #[.int .i64 p, .int .i64 n, .int .i64 x] w fun e w' => ∃ v Qr, e = .returned v /\ w.grownBy w' none /\ Rows w.heap.size none w' Qr /\ News w.heap.size Qr /\ ∃ (x : List Int)  (A : Option Addr) (c : Nat), v = .slice A x.length c /\ Qr = [.row 3 1 A x.length c (is x)] /\ Q x := by
 refine Jp <| Jo (vs := [nI p, nI n, nI x]) [6] Jnr rfl rfl rfl rfl ?_; have hS := Jt w; unfold ZW at hv; refine Je 7 ?_; obtain ⟨o11, hv⟩ := hv; refine QC (J := n) hS Jr XE3 rfl rfl o11 (QI _) rfl ?_; intro A12 w13 hS; refine Jc 2 <| Je 4 <| WL.len Jr rfl rfl <| Jc 2 <| W.block ?_; obtain ⟨I24, μ25, hv, hk33⟩ := hv; refine JE (σ := List Int × Int × Int) (fun q w1 => match q with | (x21, z22, z23) => I24 x21 z22 z23 /\ St TT w none w1 [.row 3 1 A12 n.toNat n.toNat (is x21)]) (fun q => match q with | (x21, z22, z23) => [(0, nI p), (2, nI z22), (6, .slice none 0 0), (7, .slice A12 n.toNat n.toNat), (12, nI ((n.toNat : Nat) : Int)), (13, nI z23)]) (fun q => match q with | (x21, z22, z23) => μ25 x21 z22 z23) (List.replicate n.toNat (0 : Int), x, (0 : Int)) ⟨hv, hS⟩ ⟨rfl, rfl, rfl, rfl, rfl, rfl, trivial⟩ ?_; rintro ⟨x21, z22, z23⟩ w26 ⟨hv, hS⟩; have hv := hk33 x21 z22 z23 hv; refine Je 5 <| Ji rfl (fun c27 => ?_) (fun c27 => ?_)
 .have hv := hv.1 (oT c27); refine Jq <| JA <| W.block <| Je 11 ?_; obtain ⟨o28, hv⟩ := hv; refine Yv (r := (z22.tmod p)) rfl rfl o28 rfl rfl ?_; obtain ⟨o29, hv⟩ := hv; refine Jh Jr XE3 (hS.rd (i := 0) rfl) rfl rfl o29 rfl <| JD (cs' := is (si x21 z23 (z22.tmod p))) 0 z23.toNat hS rfl XE3 rfl rfl rfl (QK (hS.rd (i := 0) rfl) o29) (Qp _ _ _) ?_; intro w30 hS; refine Ja <| Je 3 ?_; obtain ⟨o31, hv⟩ := hv; refine Jmb (r := (z22.tdiv p)) rfl rfl o31.1 (wr o31.2) rfl <| Jc 2 <| JI ?_; obtain ⟨o32, hv⟩ := hv; refine WL.add (r := (z23 + (1 : Int))) rfl rfl (wr o32) rfl <| Jc 2 ?_; exact ⟨(si x21 z23 (z22.tmod p), (z22.tdiv p), (z23 + (1 : Int))), ⟨rfl, rfl, rfl, rfl, rfl, rfl, trivial⟩, hv.2, rfl, hv.1, hS⟩
 have hv := hv.2 (oF c27); refine JC <| Je 5 <| W.ret ?_; have hm := (hS.rd (i := 0) rfl).ilen; have hS := hS.relen (i := 0) rfl hm.symm; refine ⟨_, rfl, Fin.nil ?_⟩; exact ⟨_, hS.ext, (hS.pick [0] rfl).rows, J5 (hS.pick [0] rfl).rows rfl, ⟨x21, A12, n.toNat, (by rw [hm]), rfl, hv⟩⟩
def Zx (Pf : Int) (Mf : Int) (mf : List Int) (x : Int) (Q : Int -> Prop) : Prop :=
  (Pf ≠ 0) /\ ((I64 (Pf - (1 : Int))) /\ ((((x.tmod Pf) = (Pf - (1 : Int))) -> ((Pf ≠ 0) /\ ((I64 (x - (x.tmod Pf))) /\ (Q (x - (x.tmod Pf)))))) /\ (¬ ((x.tmod Pf) = (Pf - (1 : Int))) -> ((I64 (x + (1 : Int))) /\ (Q (x + (1 : Int)))))))
theorem Jhj {w : World} {Q : Int -> Prop} {Pf : Int} {Mf : Int} {mf : List Int} {x : Int} {Bf : Nat} {Af : Option Addr} {nf kf : Nat} (hf : Rd Bf w 1 Af nf kf (is mf)) (hv : Zx Pf Mf mf x Q) :
   Calls Try.prog 115 #[.agg #[.int .i64 Pf, .int .i64 Mf, .slice Af nf kf], .int .i64 x] w fun e w' => ∃ v Qr, e = .returned v /\ w.grownBy w' none /\ Rows w.heap.size none w' Qr /\ News w.heap.size Qr /\ ∃ (r0 : Int), v = .int .i64 r0 /\ Qr = [] /\ Q r0 := by
 have hnf := hf.ilen; subst hnf; refine Jp <| Jo (vs := [.agg #[nI Pf, nI Mf, nS Af mf kf], nI x]) [4] XF115 rfl rfl rfl rfl ?_; have hS := Jt w; unfold Zx at hv; refine Je 2 <| JF (z := 3) (cs := [nI Pf, nI Mf, nS Af mf kf]) hS rfl rfl rfl rfl ?_; intro g11 w12 hS; refine Jc 2 <| Je 2 ?_; obtain ⟨o17, hv⟩ := hv; obtain ⟨o21, hv⟩ := hv; refine JZ 8 [⟨[], [1], true⟩, ⟨[], [2], true⟩, ⟨[1], [], false⟩, ⟨[0, 2], [], true⟩, ⟨[], [2], true⟩, ⟨[4], [], false⟩, ⟨[5], [], true⟩, ⟨[3, 6], [], true⟩] [(5, nI x), (6, nP g11), (7, nI Pf), (8, nI (x.tmod Pf)), (9, nP g11), (10, nI Pf), (11, nI (Pf - (1 : Int))), (12, .bool (decide ((x.tmod Pf) = (Pf - (1 : Int)))))] Try.mixed (by kernel_rfl) rfl rfl ?_ ?_
 . refine ⟨oA fun _ => rfl, fun _ _ _ => Jd (off := 0) Qh rfl rfl <| Ja ⟨rfl, rfl⟩, fun _ hE _ => have hS := hS.grow (hE rfl); Jm 0 0 XU3 hS rfl rfl rfl ⟨rfl, rfl⟩ <| Ja ⟨rfl, Jg _⟩, fun _ _ _ => Yv (r := (x.tmod Pf)) rfl rfl o17 rfl rfl <| Ja ⟨rfl, rfl⟩, fun _ _ _ => Jd (off := 0) Qh rfl rfl <| Ja ⟨rfl, rfl⟩, fun _ hE _ => have hS := hS.grow (hE rfl); Jm 0 0 XU3 hS rfl rfl rfl ⟨rfl, rfl⟩ <| Ja ⟨rfl, Jg _⟩, fun _ _ _ => WL.sub (r := (Pf - (1 : Int))) rfl rfl (wr o21) rfl <| Ja ⟨rfl, rfl⟩, oA fun _ => rfl, trivial⟩
 intro w23 hT; have hS := hS.grow hT; refine Jl (by decide +kernel) <| Ji rfl (fun c24 => ?_) (fun c24 => ?_)
 .have hv := hv.1 (oT c24); refine Je 4 <| Jd (off := 0) Qh rfl rfl <| Jm 0 0 XU3 hS rfl rfl rfl ⟨rfl, rfl⟩ ?_; obtain ⟨o25, hv⟩ := hv; refine Yv (r := (x.tmod Pf)) rfl rfl o25 rfl rfl ?_; obtain ⟨o26, hv⟩ := hv; refine WL.sub (r := (x - (x.tmod Pf))) rfl rfl (wr o26) rfl <| Jc 2 <| W.ret <| ⟨_, rfl, Fin.nil ?_⟩
  exact (hS.pick [] rfl).fin rfl ⟨(x - (x.tmod Pf)), rfl, rfl, hv⟩
 have hv := hv.2 (oF c24); refine Jq <| Je 3 ?_; obtain ⟨o27, hv⟩ := hv; refine WL.add (r := (x + (1 : Int))) rfl rfl (wr o27) rfl <| Jc 2 <| W.ret <| ⟨_, rfl, Fin.nil ?_⟩
 exact (hS.pick [] rfl).fin rfl ⟨(x + (1 : Int)), rfl, rfl, hv⟩
def Jai (l : List Int) (Q : List Int -> Prop) : Prop :=
  ∀ b11 : Bool, (b11 = true -> l = []) -> (((b11 = true) -> (Q ([] : List Int))) /\ (b11 = false -> ((((0 : Nat) + (l.length : Nat) : Int) * 8 <= 140737488355328) /\ (Q (([] : List Int) ++ l)))))
theorem Jch {w : World} {Q : List Int -> Prop} {l : List Int} {Bl : Nat} {Al : Option Addr} {nl kl : Nat} (hl : Rd Bl w 1 Al nl kl (is l)) (hv : Jai l Q) :
  Calls Try.prog 91 #[.slice Al nl kl] w fun e w' => ∃ v Qr, e = .returned v /\ w.grownBy w' none /\ Rows w.heap.size none w' Qr /\ News w.heap.size Qr /\ ∃ (x : List Int)  (A : Option Addr) (c : Nat), v = .slice A x.length c /\ Qr = [.row 3 1 A x.length c (is x)] /\ Q x := by
 have hnl := hl.ilen; subst hnl; refine Jp <| Jo (vs := [nS Al l kl]) [2] XF91 rfl rfl rfl rfl ?_; have hS := Jt w; unfold Jai at hv; refine Je 8 ?_; obtain ⟨b11, hb11⟩ : ∃ b, Al.isNone = b := ⟨_, rfl⟩
 have hv := hv b11 (fun h => Jpr (hS.ro hl) (hb11.trans h)); refine Jpq hb11 Jr rfl rfl rfl <| Ja <| Ji rfl (fun c12 => ?_) (fun c12 => ?_)
 .have hv := hv.1 (c12); refine Je 4 <| W.ret ?_; have hS := hS.nil (e := 3) (z := 1); refine ⟨_, rfl, Fin.nil ?_⟩; exact (hS.pick [0] rfl).fin rfl ⟨([] : List Int), none, 0, rfl, rfl, hv⟩
 have hv := hv.2 (c12); refine Jq <| Je 2 <| JH (vs := is ([] : List Int)) hS Jr XE3 rfl rfl rfl rfl (J1 _) rfl ?_; intro A13 w14 hS; refine Js rfl rfl ?_; obtain ⟨o16, hv⟩ := hv; refine SL.append (cs := is ([] : List Int)) (cs' := is l) 0 ((([] : List Int) ++ l).length) (is (([] : List Int) ++ l)) hS rfl Jr XE3 (hS.ro hl) (J1 _) rfl rfl (apk o16).1 (apk o16).2 (ZN (hS.rd (i := 0) rfl) (hS.ro hl)) (Qq _ _) rfl ?_; intro A17 k18 w19 hS; refine Jc 2 <| W.ret <| ⟨_, rfl, Fin.nil ?_⟩
 exact (hS.pick [0] rfl).fin rfl ⟨([] : List Int) ++ l, A17, k18, rfl, rfl, hv⟩
def ZS (Pf : Int) (Mf : Int) (mf : List Int) (Q : Int -> Prop) : Prop :=
  ((Pf < (2 : Int)) -> (Q (0 : Int))) /\ (¬ (Pf < (2 : Int)) -> (((Mf < (1 : Int)) -> (Q (0 : Int))) /\ (¬ (Mf < (1 : Int)) -> ((((8 : Int) < Mf) -> (Q (0 : Int))) /\ (¬ ((8 : Int) < Mf) -> (∃ (I22 : Int -> Int -> Prop) (μ23 : Int -> Int -> Nat), I22 (1 : Int) (0 : Int) /\ ∀ (z20 : Int) (z21 : Int), (I22 z20 z21 -> (((z21 < Mf) -> ((Pf ≠ 0 /\ I64 ((256 : Int).tdiv Pf)) /\ (((((256 : Int).tdiv Pf) < z20) -> (Q (0 : Int))) /\ (¬ (((256 : Int).tdiv Pf) < z20) -> ((I64 (z20 * Pf)) /\ ((I64 (z21 + (1 : Int))) /\ (I22 (z20 * Pf) (z21 + (1 : Int)) /\ μ23 (z20 * Pf) (z21 + (1 : Int)) < μ23 z20 z21))))))) /\ (¬ (z21 < Mf) -> Q z20)))))))))
theorem Jc8 {w : World} {Q : Int -> Prop} {Pf : Int} {Mf : Int} {mf : List Int} {Bf : Nat} {Af : Option Addr} {nf kf : Nat} (hf : Rd Bf w 1 Af nf kf (is mf)) (hv : ZS Pf Mf mf Q) :
   Calls Try.prog 26 #[.agg #[.int .i64 Pf, .int .i64 Mf, .slice Af nf kf]] w fun e w' => ∃ v Qr, e = .returned v /\ w.grownBy w' none /\ Rows w.heap.size none w' Qr /\ News w.heap.size Qr /\ ∃ (r0 : Int), v = .int .i64 r0 /\ Qr = [] /\ Q r0 := by
 have hnf := hf.ilen; subst hnf; refine Jp <| Jo (vs := [.agg #[nI Pf, nI Mf, nS Af mf kf]]) [2] XF26 rfl rfl rfl rfl ?_; have hS := Jt w; unfold ZS at hv; refine Je 2 <| JF (z := 3) (cs := [nI Pf, nI Mf, nS Af mf kf]) hS rfl rfl rfl rfl ?_; intro g11 w12 hS; refine Jc 2 <| Je 3 <| Jd (off := 0) Qh rfl rfl <| Jm 0 0 XU3 hS rfl rfl rfl ⟨rfl, rfl⟩ <| YI rfl rfl rfl <| Js rfl rfl ?_; by_cases g13 : Pf < (2 : Int)
 .have hv := hv.1 g13; rw [decide_eq_true g13]; refine Jc 10 <| Qd rfl <| Je 4 <| W.ret <| ⟨_, rfl, Fin.nil ?_⟩
  exact (hS.pick [] rfl).fin rfl ⟨(0 : Int), rfl, rfl, hv⟩
 have hv := hv.2 g13; rw [decide_eq_false g13]; refine WL.take rfl <| Jd (off := 1) Qw rfl rfl <| WL.take rfl <| Jm 0 1 XU3 hS rfl rfl rfl ⟨rfl, rfl⟩ <| Jc 3 <| Js rfl rfl ?_; by_cases g14 : Mf < (1 : Int)
 .have hv := hv.1 g14; rw [decide_eq_true g14]; refine Jc 5 <| Qd rfl <| Je 4 <| W.ret <| ⟨_, rfl, Fin.nil ?_⟩
  exact (hS.pick [] rfl).fin rfl ⟨(0 : Int), rfl, rfl, hv⟩
 have hv := hv.2 g14; rw [decide_eq_false g14]; refine WL.take rfl <| Jd (off := 1) Qw rfl rfl <| WL.take rfl <| Jm 0 1 XU3 hS rfl rfl rfl ⟨rfl, rfl⟩ <| Jc 4 <| Ji rfl (fun c15 => ?_) (fun c15 => ?_)
 .have hv := hv.1 (oT c15); refine Je 4 <| W.ret <| ⟨_, rfl, Fin.nil ?_⟩
  exact (hS.pick [] rfl).fin rfl ⟨(0 : Int), rfl, rfl, hv⟩
 have hv := hv.2 (oF c15); refine Jq <| Je 9 <| W.block ?_; obtain ⟨I22, μ23, hv, hk30⟩ := hv; refine JE (σ := Int × Int) (fun q w1 => match q with | (z20, z21) => I22 z20 z21 /\ St TT w none w1 [.row 24 3 (nA g11) 1 1 [nI Pf, nI Mf, nS Af mf kf]]) (fun q => match q with | (z20, z21) => [(1, nP g11), (2, nI 0), (3, nI z20), (4, nI z21)]) (fun q => match q with | (z20, z21) => μ23 z20 z21) ((1 : Int), (0 : Int)) ⟨hv, hS⟩ ⟨rfl, rfl, rfl, rfl, trivial⟩ ?_; rintro ⟨z20, z21⟩ w24 ⟨hv, hS⟩; have hv := hk30 z20 z21 hv; refine Je 4 <| Jd (off := 1) Qw rfl rfl <| Jm 0 1 XU3 hS rfl rfl rfl ⟨rfl, rfl⟩ <| Jc 2 <| Ji rfl (fun c25 => ?_) (fun c25 => ?_)
 .have hv := hv.1 (oT c25); refine Jq <| JA <| W.block <| Je 4 <| Jd (off := 0) Qh rfl rfl <| Jm 0 0 XU3 hS rfl rfl rfl ⟨rfl, rfl⟩ ?_; obtain ⟨o26, hv⟩ := hv; refine Jmb (r := ((256 : Int).tdiv Pf)) rfl rfl o26.1 (wr o26.2) rfl <| Jc 2 <| Ji rfl (fun c27 => ?_) (fun c27 => ?_)
  .have hv := hv.1 (oT c27); refine Je 4 <| W.ret <| ⟨_, rfl, Fin.nil ?_⟩
   exact (hS.pick [] rfl).fin rfl ⟨(0 : Int), rfl, rfl, hv⟩
  have hv := hv.2 (oF c27); refine Jq <| Je 2 <| Jd (off := 0) Qh rfl rfl <| Jm 0 0 XU3 hS rfl rfl rfl ⟨rfl, rfl⟩ ?_; obtain ⟨o28, hv⟩ := hv; refine WL.mul (r := (z20 * Pf)) rfl rfl (wr o28) rfl <| Jc 2 <| Je 2 ?_; obtain ⟨o29, hv⟩ := hv; refine WL.add (r := (z21 + (1 : Int))) rfl rfl (wr o29) rfl <| Jc 2 ?_; exact ⟨((z20 * Pf), (z21 + (1 : Int))), ⟨rfl, rfl, rfl, rfl, trivial⟩, hv.2, rfl, hv.1, hS⟩
 have hv := hv.2 (oF c25); refine JC <| Je 5 <| W.ret <| ⟨_, rfl, Fin.nil ?_⟩
 exact (hS.pick [] rfl).fin rfl ⟨z20, rfl, rfl, hv⟩
def Jcw (x : Int) (Q : Bool -> Prop) : Prop :=
  ∃ (I14 : Int -> Prop) (μ15 : Int -> Nat), I14 (2 : Int) /\ ∀ (z13 : Int), (I14 z13 -> (((z13 < x) -> ((z13 ≠ 0) /\ ((((x.tmod z13) = (0 : Int)) -> Q false) /\ (¬ ((x.tmod z13) = (0 : Int)) -> ((I64 (z13 + (1 : Int))) /\ (I14 (z13 + (1 : Int)) /\ μ15 (z13 + (1 : Int)) < μ15 z13)))))) /\ (¬ (z13 < x) -> Q true)))
theorem Jom {w : World} {Q : Bool -> Prop} {x : Int}  (hv : Jcw x Q) :
   Calls Try.prog 79 #[.int .i64 x] w fun e w' => ∃ v Qr, e = .returned v /\ w.grownBy w' none /\ Rows w.heap.size none w' Qr /\ News w.heap.size Qr /\ ∃ (r0 : Bool), v = .bool r0 /\ Qr = [] /\ Q r0 := by
 refine Jp <| Jo (vs := [nI x]) [2] XF79 rfl rfl rfl rfl ?_; have hS := Jt w; unfold Jcw at hv; refine Je 9 <| W.block ?_; obtain ⟨I14, μ15, hv, hk21⟩ := hv; refine JE (σ := Int) (fun z13 w1 => I14 z13 /\ St TT w none w1 []) (fun z13 => [(0, nI x), (2, .bool false), (3, nI z13)]) (fun z13 => μ15 z13) (2 : Int) ⟨hv, hS⟩ ⟨rfl, rfl, rfl, trivial⟩ ?_; rintro z13 w16 ⟨hv, hS⟩; have hv := hk21 z13 hv; refine Je 7 <| Ji rfl (fun c17 => ?_) (fun c17 => ?_)
 .have hv := hv.1 (oT c17); refine Jq <| JA <| W.block <| Je 4 ?_; obtain ⟨o18, hv⟩ := hv; refine Yv (r := (x.tmod z13)) rfl rfl o18 rfl rfl <| Jc 2 <| Ji rfl (fun c19 => ?_) (fun c19 => ?_)
  .have hv := hv.1 (oT c19); refine Je 4 <| W.ret <| ⟨_, rfl, Fin.nil ?_⟩
   exact (hS.pick [] rfl).fin rfl ⟨false, rfl, rfl, hv⟩
  have hv := hv.2 (oF c19); refine Jq <| Je 2 ?_; obtain ⟨o20, hv⟩ := hv; refine WL.add (r := (z13 + (1 : Int))) rfl rfl (wr o20) rfl <| Jc 2 ?_; exact ⟨(z13 + (1 : Int)), ⟨rfl, rfl, rfl, trivial⟩, hv.2, rfl, hv.1, hS⟩
 have hv := hv.2 (oF c17); refine JC <| Je 4 <| W.ret <| ⟨_, rfl, Fin.nil ?_⟩
 exact (hS.pick [] rfl).fin rfl ⟨true, rfl, rfl, hv⟩
def ZR (x : Int) (p : Int) (n : Int) (Q : List Int -> Prop) : Prop :=
  (0 <= n /\ n * 8 <= 281474976710656 /\ n <= 281474976710656) /\ (∃ (I24 : List Int -> Int -> Int -> Prop) (μ25 : List Int -> Int -> Int -> Nat), I24 (List.replicate n.toNat (0 : Int)) x (0 : Int) /\ ∀ (x21 : List Int) (z22 : Int) (z23 : Int), (I24 x21 z22 z23 -> (((z23 < n) -> ((p ≠ 0) /\ ((0 <= z23 /\ z23 < (n.toNat : Nat)) /\ ((p ≠ 0 /\ I64 (z22.tdiv p)) /\ ((I64 (z23 + (1 : Int))) /\ (I24 (si x21 z23 (z22.tmod p)) (z22.tdiv p) (z23 + (1 : Int)) /\ μ25 (si x21 z23 (z22.tmod p)) (z22.tdiv p) (z23 + (1 : Int)) < μ25 x21 z22 z23)))))) /\ (¬ (z23 < n) -> Q x21))))
theorem Jfd {w : World} {Q : List Int -> Prop} {x : Int} {p : Int} {n : Int}  (hv : ZR x p n Q) :
  Calls Try.prog 108 #[.int .i64 x, .int .i64 p, .int .i64 n] w fun e w' => ∃ v Qr, e = .returned v /\ w.grownBy w' none /\ Rows w.heap.size none w' Qr /\ News w.heap.size Qr /\ ∃ (x : List Int)  (A : Option Addr) (c : Nat), v = .slice A x.length c /\ Qr = [.row 3 1 A x.length c (is x)] /\ Q x := by
 refine Jp <| Jo (vs := [nI x, nI p, nI n]) [6] Jsz rfl rfl rfl rfl ?_; have hS := Jt w; unfold ZR at hv; refine Je 7 ?_; obtain ⟨o11, hv⟩ := hv; refine QC (J := n) hS Jr XE3 rfl rfl o11 (QI _) rfl ?_; intro A12 w13 hS; refine Jc 2 <| Je 5 <| W.block ?_; obtain ⟨I24, μ25, hv, hk33⟩ := hv; refine JE (σ := List Int × Int × Int) (fun q w1 => match q with | (x21, z22, z23) => I24 x21 z22 z23 /\ St TT w none w1 [.row 3 1 A12 n.toNat n.toNat (is x21)]) (fun q => match q with | (x21, z22, z23) => [(0, nI z22), (1, nI p), (2, nI n), (6, .slice none 0 0), (7, .slice A12 n.toNat n.toNat), (8, nI z23)]) (fun q => match q with | (x21, z22, z23) => μ25 x21 z22 z23) (List.replicate n.toNat (0 : Int), x, (0 : Int)) ⟨hv, hS⟩ ⟨rfl, rfl, rfl, rfl, rfl, rfl, trivial⟩ ?_; rintro ⟨x21, z22, z23⟩ w26 ⟨hv, hS⟩; have hv := hk33 x21 z22 z23 hv; refine Je 7 <| Ji rfl (fun c27 => ?_) (fun c27 => ?_)
 .have hv := hv.1 (oT c27); refine Jq <| JA <| W.block <| Je 6 ?_; obtain ⟨o28, hv⟩ := hv; refine Yv (r := (z22.tmod p)) rfl rfl o28 rfl rfl ?_; obtain ⟨o29, hv⟩ := hv; refine Jh Jr XE3 (hS.rd (i := 0) rfl) rfl rfl o29 rfl <| JD (cs' := is (si x21 z23 (z22.tmod p))) 0 z23.toNat hS rfl XE3 rfl rfl rfl (QK (hS.rd (i := 0) rfl) o29) (Qp _ _ _) ?_; intro w30 hS; refine Ja <| Je 3 ?_; obtain ⟨o31, hv⟩ := hv; refine Jmb (r := (z22.tdiv p)) rfl rfl o31.1 (wr o31.2) rfl <| Jc 2 <| Je 2 ?_; obtain ⟨o32, hv⟩ := hv; refine WL.add (r := (z23 + (1 : Int))) rfl rfl (wr o32) rfl <| Jc 2 ?_; exact ⟨(si x21 z23 (z22.tmod p), (z22.tdiv p), (z23 + (1 : Int))), ⟨rfl, rfl, rfl, rfl, rfl, rfl, trivial⟩, hv.2, rfl, hv.1, hS⟩
 have hv := hv.2 (oF c27); refine JC <| Je 5 <| W.ret ?_; have hm := (hS.rd (i := 0) rfl).ilen; have hS := hS.relen (i := 0) rfl hm.symm; refine ⟨_, rfl, Fin.nil ?_⟩; exact ⟨_, hS.ext, (hS.pick [0] rfl).rows, J5 (hS.pick [0] rfl).rows rfl, ⟨x21, A12, n.toNat, (by rw [hm]), rfl, hv⟩⟩
end Go.Proofs.Ytlfeialpcdoleaa
set_option linter.unusedSimpArgs false
set_option linter.unusedVariables false
namespace Go.Proofs.Ytlfeialpcdoleaa
open Go.RowKit
theorem Jh7 {w : World} {p : Addr} {A : Option Addr} {m c : Nat} (hm : m <= 9223372036854775807) :
    SeqJ Try.prog 136 #[.pointer (some p)] (fun w1 => w1.cell? p = some (.slice A m c) /\ ∃ l : List Int, ∃ B, Rd B w1 1 A m c (is l)) (fun i x w1 => ∃ v : Int, x = #[.int .i64 ((m - 1 - i : Nat) : Int), .int .i64 v] /\ w1.cell? ((JO A).add (m - 1 - i)) = some (.int .i64 v)) m w := by
  intro l J Jx Wn hW hJ hJx hM hY h0
  refine Jo (vs := [.func (.yield l) #[] #[], .pointer (some p)]) (R := fun _ w' => J m w' ∨ ∃ i, i <= m /\ Jx i w') [] Try.func136 rfl rfl rfl rfl ?_
  have hM0 := hM 0 Wn h0
  refine JA ?_
  refine JI ?_
  refine Jk Try.underlying22 rfl rfl hM0.1 rfl ?_
  refine WL.len Try.underlying22 rfl rfl ?_
  refine WL.sub (r := (m : Int) - 1) rfl rfl (wi64 (by omega) (by omega) rfl) rfl ?_
  refine Q6 rfl rfl ?_
  refine Ja ?_
  refine W.block ?_
  refine JE (σ := Nat) (fun i w1 => J i w1 /\ i <= m) (fun i => [(0, .func (.yield l) #[] #[]), (1, .pointer (some p)), (3, .int .i64 ((m : Int) - 1 - i))]) (fun i => m - i) 0 ⟨h0, Nat.zero_le _⟩ ⟨rfl, rfl, iv (by omega), trivial⟩ ?_
  rintro i w1 ⟨hi, hle⟩
  obtain ⟨hMp, xs, Bx, hR⟩ := hM i w1 hi
  refine JA ?_
  refine JA ?_
  refine JI ?_
  refine Js rfl rfl ?_
  refine Jnz rfl rfl rfl ?_
  refine Ja ?_
  refine Ji rfl (fun c => ?_) (fun c => ?_)
  . have c := of_decide_eq_true c
    have hj : (m : Int) - 1 - i = ((m - 1 - i : Nat) : Int) := by omega
    rw [hj]
    refine Jq ?_
    refine JA ?_
    refine W.block ?_
    refine JA ?_
    refine JI ?_
    refine Js rfl rfl ?_
    refine Js rfl rfl ?_
    refine Jk Try.underlying22 rfl rfl hMp rfl ?_
    refine Js rfl rfl ?_
    refine Jg1 (m - 1 - i) Try.underlying22 Try.el3 rfl rfl rfl (by omega) hR rfl ?_
    have hcell := hR.at_ (Jrg (show m - 1 - i < xs.length by have := hR.ilen; omega))
    refine Jk Try.underlying3 rfl rfl hcell rfl ?_
    refine Jkb (vs := [.int .i64 ((m - 1 - i : Nat) : Int), .int .i64 (xs.getD (m - 1 - i) 0)]) rfl rfl rfl (hY i #[.int .i64 ((m - 1 - i : Nat) : Int), .int .i64 (xs.getD (m - 1 - i) 0)] w1 hi (by omega) ⟨_, rfl, hcell⟩) (fun e w' h => by rcases h with ⟨h, _⟩ | ⟨h, _⟩ <;> exact ⟨_, h⟩) ?_
    rintro v w2 (⟨hv, h⟩ | ⟨hv, h⟩)
    . cases hv
      refine Jb1 rfl rfl ?_
      refine Ja ?_
      refine QB rfl ?_
      refine Jq ?_
      refine JI ?_
      refine Js rfl rfl ?_
      refine WL.sub (r := (m : Int) - 1 - ((i + 1 : Nat) : Int)) rfl rfl (wi64 (by omega) (by omega) (by omega)) rfl ?_
      refine Q6 rfl rfl ?_
      refine Ja ?_
      exact ⟨i + 1, ⟨rfl, rfl, rfl, trivial⟩, by omega, rfl, h, by omega⟩
    . cases hv
      refine Jb1 rfl rfl ?_
      refine Ja ?_
      refine Qd rfl ?_
      refine W.ret ?_
      exact ⟨_, rfl, Fin.nil (.inr ⟨i + 1, by omega, h⟩)⟩
  . have c := of_decide_eq_false c
    refine JC ?_
    have : i = m := by omega
    subst this
    exact ⟨_, rfl, Fin.nil (.inl hi)⟩
theorem Jhz {w : World} {p ad : Addr} {q : Int} (hq : I64 q) (hp : w.cell? p = some (.pointer (some ad))) (ha : w.cell? (ad.add 3) = some (.int .i64 q)) :
  SeqJ Try.prog 130 #[.pointer (some p)] (fun _ => True) (fun i x _ => x = #[.int .i64 (i : Int)]) q.toNat w := by
 intro l J Jx Wn hW hJ hJx _ hY h0; have hp' : Wn.cell? p = some (.pointer (some ad)) := (hW.cell (World.block_lt_of_cell? w _ hp)).trans hp; have ha' : Wn.cell? (ad.add 3) = some (.int .i64 q) := (hW.cell (World.block_lt_of_cell? w _ ha)).trans ha; refine Jo (vs := [.func (.yield l) #[] #[], .pointer (some p)]) (R := fun _ w' => J q.toNat w' ∨ ∃ i, i <= q.toNat /\ Jx i w') [] Try.func130 rfl rfl rfl rfl ?_; refine JA ?_; refine JI ?_; refine Jk Try.underlying69 rfl rfl hp' rfl ?_; refine Q0 rfl rfl ?_; refine Jd (off := 3) Try.fla117_1 rfl rfl ?_; refine Jk Try.underlying3 rfl rfl ha' rfl ?_; refine Js rfl rfl ?_; refine Ja ?_; refine W.block ?_; refine JE (σ := Nat) (fun i w1 => J i w1 /\ i <= q.toNat) (fun i => [(0, .func (.yield l) #[] #[]), (7, .int .i64 q), (8, .int .i64 (i : Int))]) (fun i => q.toNat - i) 0 ⟨h0, Nat.zero_le _⟩ ⟨rfl, rfl, rfl, trivial⟩ ?_; rintro i w1 ⟨hi, hle⟩; refine JA ?_; refine JI ?_; refine YI rfl rfl rfl ?_; refine Ja ?_; refine JA ?_; refine Ji rfl (fun c => ?_) (fun c => ?_)
 .have c := of_decide_eq_true c; refine Jq ?_; refine JA ?_; refine W.block ?_; refine JA ?_; refine JI ?_; refine Js rfl rfl ?_; refine Q6 rfl rfl ?_; refine Ja ?_; refine JA ?_; refine JI ?_; refine Js rfl rfl ?_; refine Js rfl rfl ?_; refine Jkb (vs := [.int .i64 (i : Int)]) rfl rfl rfl (hY i #[.int .i64 (i : Int)] w1 hi (by omega) rfl) (fun e w' h => by rcases h with ⟨h, _⟩ | ⟨h, _⟩ <;> exact ⟨_, h⟩) ?_; rintro v w2 (⟨hv, h⟩ | ⟨hv, h⟩)
  .cases hv; refine Jb1 rfl rfl ?_; refine Ja ?_; refine QB rfl ?_; refine Jq ?_; refine JI ?_; refine WL.add (r := ((i + 1 : Nat) : Int)) rfl rfl (wi64 (by omega) (by have := hq.2; omega) (by omega)) rfl ?_; refine Js rfl rfl ?_; refine Ja ?_; exact ⟨i + 1, ⟨rfl, rfl, rfl, trivial⟩, by omega, rfl, h, by omega⟩
  .cases hv; refine Jb1 rfl rfl ?_; refine Ja ?_; refine Qd rfl ?_; refine W.ret ?_; exact ⟨_, rfl, Fin.nil (.inr ⟨i + 1, by omega, h⟩)⟩
 .have c := of_decide_eq_false c; refine JC ?_; have : i = q.toNat := by omega
  subst this; exact ⟨_, rfl, Fin.nil (.inl hi)⟩
end Go.Proofs.Ytlfeialpcdoleaa
set_option linter.unusedSimpArgs false
set_option linter.unusedVariables false
namespace Go.Proofs.Ytlfeialpcdoleaa
open Go.RowKit
structure GFv where
  P : Int
  M : Int
  mod : List Int
  q : Int
  exp : List Int
  log : List Int
  above : List Int
def GFR (B : Nat) (w : World) (ad : Addr) (F : GFv) : Prop := ∃ A1 k1 A2 k2 A3 k3 A4 k4,
  Rd B w 7 (some ad) 1 1 [.int .i64 F.P, .int .i64 F.M, .slice A1 F.mod.length k1, .int .i64 F.q, .slice A2 F.exp.length k2, .slice A3 F.log.length k3, .slice A4 F.above.length k4] /\
  Rd B w 1 A1 F.mod.length k1 (is F.mod) /\ Rd B w 1 A2 F.exp.length k2 (is F.exp) /\ Rd B w 1 A3 F.log.length k3 (is F.log) /\ Rd B w 1 A4 F.above.length k4 (is F.above)
theorem GFR.ext {B : Nat} {w w' : World} {ad : Addr} {F : GFv} (h : GFR B w ad F) (hg : w.grownBy w' none) : GFR B w' ad F := by
 obtain ⟨A1, k1, A2, k2, A3, k3, A4, k4, h1, h2, h3, h4, h5⟩ := h; exact ⟨A1, k1, A2, k2, A3, k3, A4, k4, h1.ext hg, h2.ext hg, h3.ext hg, h4.ext hg, h5.ext hg⟩
def GFX (lo B : Nat) (w : World) (ad : Addr) (F : GFv) : Prop := ∃ A1 k1 A2 k2 A3 k3 A4 k4,
  (Rd B w 7 (some ad) 1 1 [.int .i64 F.P, .int .i64 F.M, .slice A1 F.mod.length k1, .int .i64 F.q, .slice A2 F.exp.length k2, .slice A3 F.log.length k3, .slice A4 F.above.length k4] /\ lo <= ad.block) /\
  (Rd B w 1 A1 F.mod.length k1 (is F.mod) /\ ∀ g, bl A1 = some g -> lo <= g) /\ (Rd B w 1 A2 F.exp.length k2 (is F.exp) /\ ∀ g, bl A2 = some g -> lo <= g) /\ (Rd B w 1 A3 F.log.length k3 (is F.log) /\ ∀ g, bl A3 = some g -> lo <= g) /\ (Rd B w 1 A4 F.above.length k4 (is F.above) /\ ∀ g, bl A4 = some g -> lo <= g)
theorem GFX.gfr {lo B : Nat} {w : World} {ad : Addr} {F : GFv} (h : GFX lo B w ad F) : GFR B w ad F := by
 obtain ⟨A1, k1, A2, k2, A3, k3, A4, k4, h1, h2, h3, h4, h5⟩ := h; exact ⟨A1, k1, A2, k2, A3, k3, A4, k4, h1.1, h2.1, h3.1, h4.1, h5.1⟩
theorem Rd.steady {lo B : Nat} {w w' : World} {z : Nat} {A : Option Addr} {m c : Nat} {cs : List Value} (h : Rd B w z A m c cs) (hl : ∀ g, bl A = some g -> lo <= g) (hw : ∀ k, lo <= k -> k < B -> w'.heap[k]? = w.heap[k]?) : Rd B w' z A m c cs :=
 ⟨h.len, h.cap, h.max, fun hm => by
  obtain ⟨ad, e1, e2, e3⟩ := h.cells hm; refine ⟨ad, e1, e2, fun j u hu => (World.cell?_of_block (hw _ ?_ ?_)).trans (e3 j u hu)⟩
  .rw [QX]; exact hl _ (by rw [e1]; rfl)
  .rw [QX]; exact e2⟩
theorem GFX.steady {lo B : Nat} {ad : Addr} {F : GFv} : Js5 lo B (fun w => GFX lo B w ad F) := by
 rintro w w' hw ⟨A1, k1, A2, k2, A3, k3, A4, k4, h1, h2, h3, h4, h5⟩; exact ⟨A1, k1, A2, k2, A3, k3, A4, k4, ⟨h1.1.steady (fun g hg => by cases hg; exact h1.2) hw, h1.2⟩, ⟨h2.1.steady h2.2 hw, h2.2⟩, ⟨h3.1.steady h3.2 hw, h3.2⟩, ⟨h4.1.steady h4.2 hw, h4.2⟩, ⟨h5.1.steady h5.2 hw, h5.2⟩⟩
theorem gfx_mk {lo B : Nat} {w : World} {ad : Addr} {F : GFv} {A1 A2 A3 A4 : Option Addr} {k1 k2 k3 k4 n1 n2 n3 n4 : Nat}
  (h : Rd B w 7 (some ad) 1 1 [.int .i64 F.P, .int .i64 F.M, .slice A1 n1 k1, .int .i64 F.q, .slice A2 n2 k2, .slice A3 n3 k3, .slice A4 n4 k4]) (hl : lo <= ad.block)
  (h1 : Rd B w 1 A1 n1 k1 (is F.mod) /\ ∀ g, bl A1 = some g -> lo <= g) (h2 : Rd B w 1 A2 n2 k2 (is F.exp) /\ ∀ g, bl A2 = some g -> lo <= g) (h3 : Rd B w 1 A3 n3 k3 (is F.log) /\ ∀ g, bl A3 = some g -> lo <= g) (h4 : Rd B w 1 A4 n4 k4 (is F.above) /\ ∀ g, bl A4 = some g -> lo <= g) : GFX lo B w ad F := by
 have e1 := h1.1.ilen; have e2 := h2.1.ilen; have e3 := h3.1.ilen; have e4 := h4.1.ilen; subst e1; subst e2; subst e3; subst e4; exact ⟨A1, k1, A2, k2, A3, k3, A4, k4, ⟨h, hl⟩, h1, h2, h3, h4⟩
theorem St.base {X : World -> Prop} {w0 w : World} {R : List Rw} {i e z m c : Nat} {A : Option Addr} {cs : List Value} (h : St X w0 none w R) (hi : R[i]? = some (.row e z A m c cs)) : ∀ g, bl A = some g -> w0.heap.size <= g := fun g hg => ((h.rows.get hi).2 g hg).resolve_right (by simp)
theorem GFR.norm {B : Nat} {w : World} {ad : Addr} {F : GFv} (h : GFR B w ad F) : GFR w.heap.size w ad F := by
 obtain ⟨A1, k1, A2, k2, A3, k3, A4, k4, h1, h2, h3, h4, h5⟩ := h; exact ⟨A1, k1, A2, k2, A3, k3, A4, k4, h1.norm, h2.norm, h3.norm, h4.norm, h5.norm⟩
end Go.Proofs.Ytlfeialpcdoleaa
set_option linter.unusedSimpArgs false
set_option linter.unusedVariables false
set_option maxRecDepth 4000
set_option maxHeartbeats 4000000
namespace Go.Proofs.Ytlfeialpcdoleaa
open Go.RowKit
def Jf4 (x : Int) (Pf : Int) (Mf : Int) (mf : List Int) (Q : Bool -> Prop) : Prop :=
  ((x < (0 : Int)) -> Q true) /\ (¬ (x < (0 : Int)) -> (Q (decide (Pf <= x))))
theorem Joq {w : World} {Q : Bool -> Prop} {x : Int} {Pf : Int} {Mf : Int} {mf : List Int} {af : Addr} {Bf Cf : Nat} {Af : Option Addr} {nf kf : Nat} (hcf : Rd Cf w 3 (some af) 1 1 [.int .i64 Pf, .int .i64 Mf, .slice Af nf kf]) (hmf : Rd Bf w 1 Af nf kf (is mf)) (hv : Jf4 x Pf Mf mf Q) :
   Calls Try.prog 122 #[.int .i64 x, .pointer (some af)] w fun e w' => ∃ v Qr, e = .returned v /\ w.grownBy w' none /\ Rows w.heap.size none w' Qr /\ News w.heap.size Qr /\ ∃ (r0 : Bool), v = .bool r0 /\ Qr = [] /\ Q r0 := by
 have hnf := hmf.ilen; subst hnf; refine Jp <| Jo (vs := [nI x, .pointer (some af)]) [3] XF122 rfl rfl rfl rfl ?_; have hS := Jt w; unfold Jf4 at hv; refine Je 8 <| Js rfl rfl ?_; by_cases g11 : x < (0 : Int)
 .have hv := hv.1 g11; rw [decide_eq_true g11]; refine Jc 7 <| W.ret <| ⟨_, rfl, Fin.nil ?_⟩
  exact (hS.pick [] rfl).fin rfl ⟨true, rfl, rfl, hv⟩
 have hv := hv.2 g11; rw [decide_eq_false g11]; refine Jc 3 <| Jd (off := 0) Qh rfl rfl <| WL.take rfl <| Jk XU3 rfl rfl (Rd.at_ (hS.ro hcf) (j := 0) rfl) rfl <| Jc 5 <| W.ret <| ⟨_, rfl, Fin.nil ?_⟩
 exact (hS.pick [] rfl).fin rfl ⟨(decide (Pf <= x)), rfl, rfl, hv⟩
def Jb3 (x : Int) (Q : Bool -> Prop) : Prop :=
  Q (decide (x ≠ (0 : Int)))
theorem Jjg {w : World} {Q : Bool -> Prop} {x : Int}  (hv : Jb3 x Q) :
  Calls Try.prog 133 #[.int .i64 x] w fun e w' => ∃ v Qr, e = .returned v /\ w.grownBy w' none /\ Rows w.heap.size none w' Qr /\ News w.heap.size Qr /\ ∃ (r0 : Bool), v = .bool r0 /\ Qr = [] /\ Q r0 := by
 refine Jp <| Jo (vs := [nI x]) [2] XF133 rfl rfl rfl rfl ?_; have hS := Jt w; unfold Jb3 at hv; refine Je 10 <| W.ret <| ⟨_, rfl, Fin.nil ?_⟩
 exact (hS.pick [] rfl).fin rfl ⟨(decide (x ≠ (0 : Int))), rfl, rfl, hv⟩
def Jim (l : List Int) (p : Int -> (Bool -> Prop) -> Prop) (Q : Int -> Prop) : Prop :=
  ∃ (I14 : Int -> Prop) (μ15 : Int -> Nat), I14 (0 : Int) /\ ∀ (z13 : Int), (I14 z13 -> (((z13 < (l.length : Int)) -> ((0 <= z13 /\ z13 < (l.length : Nat)) /\ (p (gi l z13) (fun b20 => ((b20 = true) -> Q z13) /\ (b20 = false -> ((I64 (z13 + (1 : Int))) /\ (I14 (z13 + (1 : Int)) /\ μ15 (z13 + (1 : Int)) < μ15 z13))))))) /\ (¬ (z13 < (l.length : Int)) -> (Q (-1 : Int)))))
theorem Jq9 {w : World} {Q : Int -> Prop} {l : List Int} {p : Int -> (Bool -> Prop) -> Prop} {Bl : Nat} {Al : Option Addr} {nl kl : Nat} (hl : Rd Bl w 1 Al nl kl (is l)) {cfp : Nat} {cgp : Func} {ccp : Code} {csp : List Value} (hcfp : Try.prog.funcs[cfp]? = some cgp) (hcbp : cgp.body = some ccp) (hcnp : (cgp.name == "runtime.NumGoroutine") = false) (hclp : ∀ (wc : World) (xc : Int) (Qc : Bool -> Prop), w.grownBy wc none -> p xc Qc -> Calls Try.prog cfp (.int .i64 xc :: csp).toArray wc fun e w' => ∃ v Qr, e = .returned v /\ wc.grownBy w' none /\ Rows wc.heap.size none w' Qr /\ News wc.heap.size Qr /\ ∃ b : Bool, v = .bool b /\ Qr = [] /\ Qc b) (hv : Jim l p Q) :
   Calls Try.prog 109 #[.slice Al nl kl, .func (.func cfp) #[] csp.toArray] w fun e w' => ∃ v Qr, e = .returned v /\ w.grownBy w' none /\ Rows w.heap.size none w' Qr /\ News w.heap.size Qr /\ ∃ (r0 : Int), v = .int .i64 r0 /\ Qr = [] /\ Q r0 := by
 have hnl := hl.ilen; subst hnl; refine Jp <| Jo (vs := [nS Al l kl, .func (.func cfp) #[] csp.toArray]) [4] XF109 rfl rfl rfl rfl ?_; have hS := Jt w; unfold Jim at hv; refine Je 8 <| WL.len Jr rfl rfl <| Jc 2 <| W.block ?_; obtain ⟨I14, μ15, hv, hk23⟩ := hv; refine JE (σ := Int) (fun z13 w1 => I14 z13 /\ St TT w none w1 []) (fun z13 => [(0, nS Al l kl), (1, .func (.func cfp) #[] csp.toArray), (4, nI 0), (7, nI (l.length : Int)), (8, nI z13)]) (fun z13 => μ15 z13) (0 : Int) ⟨hv, hS⟩ ⟨rfl, rfl, rfl, rfl, rfl, trivial⟩ ?_; rintro z13 w16 ⟨hv, hS⟩; have hv := hk23 z13 hv; refine Je 5 <| Ji rfl (fun c17 => ?_) (fun c17 => ?_)
 .have hv := hv.1 (oT c17); refine Jq <| JA <| W.block <| Je 10 ?_; obtain ⟨o18, hv⟩ := hv; refine Jh Jr XE3 (hS.ro hl) rfl rfl o18 rfl <| Jk XU3 rfl rfl (JM (hS.ro hl) o18) rfl <| Js9 (vs := [nI (gi l z13)]) (cs := csp) hS (hclp _ _ _ hS.ext hv) rfl hcfp hcbp hcnp rfl rfl ?_; rintro _ _ w19 ⟨b20, rfl, rfl, hv⟩ hGw19 hS
  change St _ _ _ _ [] at hS
  refine Ja <| Ji rfl (fun c21 => ?_) (fun c21 => ?_)
  .have hv := hv.1 (c21); refine Je 5 <| W.ret <| ⟨_, rfl, Fin.nil ?_⟩
   exact (hS.pick [] rfl).fin rfl ⟨z13, rfl, rfl, hv⟩
  have hv := hv.2 (c21); refine Jq <| JI ?_; obtain ⟨o22, hv⟩ := hv; refine WL.add (r := (z13 + (1 : Int))) rfl rfl (wr o22) rfl <| Jc 2 ?_; exact ⟨(z13 + (1 : Int)), ⟨rfl, rfl, rfl, rfl, rfl, trivial⟩, hv.2, rfl, hv.1, hS⟩
 have hv := hv.2 (oF c17); refine JC <| Je 4 <| W.ret <| ⟨_, rfl, Fin.nil ?_⟩
 exact (hS.pick [] rfl).fin rfl ⟨(-1 : Int), rfl, rfl, hv⟩
def Zl (l : List Int) (p : Int -> (Bool -> Prop) -> Prop) (Q : Bool -> Prop) : Prop :=
  Jim l p (fun r12 => Q (decide ((0 : Int) <= r12)))
theorem Jd0 {w : World} {Q : Bool -> Prop} {l : List Int} {p : Int -> (Bool -> Prop) -> Prop} {Bl : Nat} {Al : Option Addr} {nl kl : Nat} (hl : Rd Bl w 1 Al nl kl (is l)) {cfp : Nat} {cgp : Func} {ccp : Code} {csp : List Value} (hcfp : Try.prog.funcs[cfp]? = some cgp) (hcbp : cgp.body = some ccp) (hcnp : (cgp.name == "runtime.NumGoroutine") = false) (hclp : ∀ (wc : World) (xc : Int) (Qc : Bool -> Prop), w.grownBy wc none -> p xc Qc -> Calls Try.prog cfp (.int .i64 xc :: csp).toArray wc fun e w' => ∃ v Qr, e = .returned v /\ wc.grownBy w' none /\ Rows wc.heap.size none w' Qr /\ News wc.heap.size Qr /\ ∃ b : Bool, v = .bool b /\ Qr = [] /\ Qc b) (hv : Zl l p Q) :
  Calls Try.prog 81 #[.slice Al nl kl, .func (.func cfp) #[] csp.toArray] w fun e w' => ∃ v Qr, e = .returned v /\ w.grownBy w' none /\ Rows w.heap.size none w' Qr /\ News w.heap.size Qr /\ ∃ (r0 : Bool), v = .bool r0 /\ Qr = [] /\ Q r0 := by
 have hnl := hl.ilen; subst hnl; refine Jp <| Jo (vs := [nS Al l kl, .func (.func cfp) #[] csp.toArray]) [4] XF81 rfl rfl rfl rfl ?_; have hS := Jt w; unfold Zl at hv; refine Je 8 <| SL.call hS (Jq9 (hS.ro hl) hcfp hcbp hcnp (fun wc xc Qc hg hv => hclp wc xc Qc (Ja9 hS.ext hg) hv) hv) XF109 rfl XN109 rfl rfl ?_; rintro _ _ w11 ⟨r12, rfl, rfl, hv⟩ hGw11 hS; have hS := hS.n0; refine Jc 3 <| W.ret <| ⟨_, rfl, Fin.nil ?_⟩
 exact (hS.pick [] rfl).fin rfl ⟨(decide ((0 : Int) <= r12)), rfl, rfl, hv⟩
def ZV (p : Int) (l : List Int) (o : List Int) (Q : Bool -> Prop) : Prop :=
  Jai o (fun x12 => (I64 ((x12.length : Int) - (1 : Int))) /\ (∃ (I23 : List Int -> Int -> Prop) (μ24 : List Int -> Int -> Nat), I23 x12 ((x12.length : Int) - (1 : Int)) /\ ∀ (x21 : List Int) (z22 : Int), (I23 x21 z22 -> ((((l.length : Int) <= z22) -> (∃ (I33 : List Int -> Int -> Prop) (μ34 : List Int -> Int -> Nat), I33 x21 (0 : Int) /\ ∀ (x31 : List Int) (z32 : Int), (I33 x31 z32 -> (((z32 < (l.length : Int)) -> ((0 <= z32 /\ z32 < (l.length : Nat)) /\ ((I64 (z22 - (l.length : Int))) /\ ((I64 ((z22 - (l.length : Int)) + z32)) /\ ((0 <= ((z22 - (l.length : Int)) + z32) /\ ((z22 - (l.length : Int)) + z32) < (x12.length : Nat)) /\ ((I64 (p - (gi l z32))) /\ ((0 <= z22 /\ z22 < (x12.length : Nat)) /\ ((I64 ((p - (gi l z32)) * (gi x31 z22))) /\ ((I64 ((gi x31 ((z22 - (l.length : Int)) + z32)) + ((p - (gi l z32)) * (gi x31 z22)))) /\ ((p ≠ 0) /\ ((0 <= ((z22 - (l.length : Int)) + z32) /\ ((z22 - (l.length : Int)) + z32) < (x12.length : Nat)) /\ ((I64 (z32 + (1 : Int))) /\ (I33 (si x31 ((z22 - (l.length : Int)) + z32) (((gi x31 ((z22 - (l.length : Int)) + z32)) + ((p - (gi l z32)) * (gi x31 z22))).tmod p)) (z32 + (1 : Int)) /\ μ34 (si x31 ((z22 - (l.length : Int)) + z32) (((gi x31 ((z22 - (l.length : Int)) + z32)) + ((p - (gi l z32)) * (gi x31 z22))).tmod p)) (z32 + (1 : Int)) < μ34 x31 z32))))))))))))) /\ (¬ (z32 < (l.length : Int)) -> ((I64 (z22 - (1 : Int))) /\ (I23 x31 (z22 - (1 : Int)) /\ μ24 x31 (z22 - (1 : Int)) < μ24 x21 z22))))))) /\ (¬ ((l.length : Int) <= z22) -> ((0 <= (l.length : Int) /\ (l.length : Int) <= (x12.length : Nat)) /\ (Zl (x21.take (l.length : Int).toNat) (fun xc Qc => Jb3 xc  Qc) (fun r71 => Q (!r71)))))))))
theorem Jla {w : World} {Q : Bool -> Prop} {p : Int} {l : List Int} {o : List Int} {Bl : Nat} {Al : Option Addr} {nl kl : Nat} (hl : Rd Bl w 1 Al nl kl (is l)) {Bo : Nat} {Ao : Option Addr} {no ko : Nat} (ho : Rd Bo w 1 Ao no ko (is o)) (hv : ZV p l o Q) :
   Calls Try.prog 128 #[.int .i64 p, .slice Al nl kl, .slice Ao no ko] w fun e w' => ∃ v Qr, e = .returned v /\ w.grownBy w' none /\ Rows w.heap.size none w' Qr /\ News w.heap.size Qr /\ ∃ (r0 : Bool), v = .bool r0 /\ Qr = [] /\ Q r0 := by
 have hnl := hl.ilen; subst hnl; have hno := ho.ilen; subst hno; refine Jp <| Jo (vs := [nI p, nS Al l kl, nS Ao o ko]) [6] XF128 rfl rfl rfl rfl ?_; have hS := Jt w; unfold ZV at hv; refine Je 7 <| SL.call hS (Jch (hS.ro ho) hv) XF91 rfl XN91 rfl rfl ?_; rintro _ _ w11 ⟨x12, A13, k14, rfl, rfl, hv⟩ hGw11 hS; have hS := hS.n1; refine Jc 2 <| Je 4 <| WL.len Jr rfl rfl ?_; obtain ⟨o16, hv⟩ := hv; refine WL.sub (r := ((x12.length : Int) - (1 : Int))) rfl rfl (wr o16) rfl <| Jc 2 <| W.block ?_; obtain ⟨I23, μ24, hv, hk72⟩ := hv; refine JE (σ := List Int × Int) (fun q w1 => match q with | (x21, z22) => I23 x21 z22 /\ St TT w none w1 [.row 3 1 A13 x12.length k14 (is x21)]) (fun q => match q with | (x21, z22) => [(0, nI p), (1, nS Al l kl), (6, .bool false), (7, nS A13 x12 k14), (8, nI z22)]) (fun q => match q with | (x21, z22) => μ24 x21 z22) (x12, ((x12.length : Int) - (1 : Int))) ⟨hv, hS⟩ ⟨rfl, rfl, rfl, rfl, rfl, trivial⟩ ?_; rintro ⟨x21, z22⟩ w25 ⟨hv, hS⟩; have hv := hk72 x21 z22 hv; refine Je 5 <| WL.len Jr rfl rfl <| Jc 2 <| Ji rfl (fun c26 => ?_) (fun c26 => ?_)
 .have hv := hv.1 (oT c26); refine Jq <| JA <| W.block <| Je 3 <| WL.len Jr rfl rfl <| Jc 2 <| W.block ?_; obtain ⟨I33, μ34, hv, hk68⟩ := hv; refine JE (σ := List Int × Int) (fun q w1 => match q with | (x31, z32) => I33 x31 z32 /\ St TT w none w1 [.row 3 1 A13 x12.length k14 (is x31)]) (fun q => match q with | (x31, z32) => [(0, nI p), (1, nS Al l kl), (6, .bool false), (7, nS A13 x12 k14), (8, nI z22), (20, .bool (decide ((l.length : Int) <= z22))), (23, nS Al l kl), (24, nI (l.length : Int)), (25, nI z32)]) (fun q => match q with | (x31, z32) => μ34 x31 z32) (x21, (0 : Int)) ⟨hv, hS⟩ ⟨rfl, rfl, rfl, rfl, rfl, rfl, rfl, rfl, rfl, trivial⟩ ?_; rintro ⟨x31, z32⟩ w35 ⟨hv, hS⟩; have hv := hk68 x31 z32 hv; refine Je 5 <| Ji rfl (fun c36 => ?_) (fun c36 => ?_)
  .have hv := hv.1 (oT c36); refine Jq <| JA <| W.block <| Je 3 ?_; obtain ⟨o37, hv⟩ := hv; refine Jh Jr XE3 (hS.ro hl) rfl rfl o37 rfl <| Jk XU3 rfl rfl (JM (hS.ro hl) o37) rfl <| Jc 3 <| Je 4 <| WL.len Jr rfl rfl ?_; obtain ⟨o38, hv⟩ := hv; refine WL.sub (r := (z22 - (l.length : Int))) rfl rfl (wr o38) rfl <| Js rfl rfl ?_; obtain ⟨o39, hv⟩ := hv; refine WL.add (r := ((z22 - (l.length : Int)) + z32)) rfl rfl (wr o39) rfl <| Jc 2 ?_; obtain ⟨o45, hv⟩ := hv; obtain ⟨o50, hv⟩ := hv; obtain ⟨o54, hv⟩ := hv; obtain ⟨o57, hv⟩ := hv; obtain ⟨o59, hv⟩ := hv; obtain ⟨o62, hv⟩ := hv; refine JZ 17 [⟨[], [7], true⟩, ⟨[], [11], true⟩, ⟨[], [7], true⟩, ⟨[], [11], true⟩, ⟨[2, 3], [], true⟩, ⟨[4], [], false⟩, ⟨[], [0], true⟩, ⟨[], [10], true⟩, ⟨[6, 7], [], true⟩, ⟨[], [7], true⟩, ⟨[], [8], true⟩, ⟨[9, 10], [], true⟩, ⟨[11], [], false⟩, ⟨[8, 12], [], true⟩, ⟨[5, 13], [], true⟩, ⟨[], [0], true⟩, ⟨[14, 15], [], true⟩] [(36, nS A13 x12 k14), (37, nI ((z22 - (l.length : Int)) + z32)), (38, nS A13 x12 k14), (39, nI ((z22 - (l.length : Int)) + z32)), (40, .pointer (some ((JO A13).add (((z22 - (l.length : Int)) + z32).toNat)))), (41, nI (gi x31 ((z22 - (l.length : Int)) + z32))), (42, nI p), (43, nI (gi l z32)), (44, nI (p - (gi l z32))), (45, nS A13 x12 k14), (46, nI z22), (47, .pointer (some ((JO A13).add z22.toNat))), (48, nI (gi x31 z22)), (49, nI ((p - (gi l z32)) * (gi x31 z22))), (50, nI ((gi x31 ((z22 - (l.length : Int)) + z32)) + ((p - (gi l z32)) * (gi x31 z22)))), (51, nI p), (52, nI (((gi x31 ((z22 - (l.length : Int)) + z32)) + ((p - (gi l z32)) * (gi x31 z22))).tmod p))] Try.mixed (by kernel_rfl) rfl rfl ?_ ?_
   .refine ⟨oA fun _ => rfl, oA fun _ => rfl, oA fun _ => rfl, oA fun _ => rfl, fun _ _ _ => Jh Jr XE3 (hS.rd (i := 0) rfl) rfl rfl o45 rfl <| Ja ⟨rfl, rfl⟩, fun _ hE _ => have hS := hS.grow (hE rfl); Jk XU3 rfl rfl (JM (hS.rd (i := 0) rfl) o45) rfl <| Ja ⟨rfl, Jg _⟩, oA fun _ => rfl, oA fun _ => rfl, fun _ _ _ => WL.sub (r := (p - (gi l z32))) rfl rfl (wr o50) rfl <| Ja ⟨rfl, rfl⟩, oA fun _ => rfl, oA fun _ => rfl, fun _ _ _ => Jh Jr XE3 (hS.rd (i := 0) rfl) rfl rfl o54 rfl <| Ja ⟨rfl, rfl⟩, fun _ hE _ => have hS := hS.grow (hE rfl); Jk XU3 rfl rfl (JM (hS.rd (i := 0) rfl) o54) rfl <| Ja ⟨rfl, Jg _⟩, fun _ _ _ => WL.mul (r := ((p - (gi l z32)) * (gi x31 z22))) rfl rfl (wr o57) rfl <| Ja ⟨rfl, rfl⟩, fun _ _ _ => WL.add (r := ((gi x31 ((z22 - (l.length : Int)) + z32)) + ((p - (gi l z32)) * (gi x31 z22)))) rfl rfl (wr o59) rfl <| Ja ⟨rfl, rfl⟩, oA fun _ => rfl, fun _ _ _ => Yv (r := (((gi x31 ((z22 - (l.length : Int)) + z32)) + ((p - (gi l z32)) * (gi x31 z22))).tmod p)) rfl rfl o62 rfl rfl <| Ja ⟨rfl, rfl⟩, trivial⟩
   intro w63 hT; have hS := hS.grow hT; refine Jb 17 (by decide +kernel) rfl ?_; obtain ⟨o64, hv⟩ := hv; refine Jh Jr XE3 (hS.rd (i := 0) rfl) rfl rfl o64 rfl <| Ja <| Jb 18 (by decide +kernel) rfl <| JD (cs' := is (si x31 ((z22 - (l.length : Int)) + z32) (((gi x31 ((z22 - (l.length : Int)) + z32)) + ((p - (gi l z32)) * (gi x31 z22))).tmod p))) 0 ((z22 - (l.length : Int)) + z32).toNat hS rfl XE3 rfl rfl rfl (QK (hS.rd (i := 0) rfl) o64) (Qp _ _ _) ?_; intro w65 hS; refine Ja <| Jl (by decide +kernel) <| JI ?_; obtain ⟨o66, hv⟩ := hv; refine WL.add (r := (z32 + (1 : Int))) rfl rfl (wr o66) rfl <| Jc 2 ?_; exact ⟨(si x31 ((z22 - (l.length : Int)) + z32) (((gi x31 ((z22 - (l.length : Int)) + z32)) + ((p - (gi l z32)) * (gi x31 z22))).tmod p), (z32 + (1 : Int))), ⟨rfl, rfl, rfl, rfl, rfl, rfl, rfl, rfl, rfl, trivial⟩, hv.2, rfl, hv.1, hS⟩
  have hv := hv.2 (oF c36); refine JC <| Je 2 ?_; obtain ⟨o67, hv⟩ := hv; refine WL.sub (r := (z22 - (1 : Int))) rfl rfl (wr o67) rfl <| Jc 2 ?_; exact ⟨(x31, (z22 - (1 : Int))), ⟨rfl, rfl, rfl, rfl, rfl, trivial⟩, hv.2, rfl, hv.1, hS⟩
 have hv := hv.2 (oF c26); refine JC <| Je 4 <| WL.len Jr rfl rfl ?_; obtain ⟨o69, hv⟩ := hv; refine Jbf Jr XE3 (hS.rd (i := 0) rfl) rfl rfl o69 rfl (x21.take (l.length : Int).toNat).length (Jee (hS.rd (i := 0) rfl) o69) <| SL.call hS (Jd0 (Jmi (hS.rd (i := 0) rfl) o69) XF133 rfl XN133 (fun wc xc Qc hg hv => Jjg  hv) hv) XF81 rfl XN81 rfl rfl ?_; rintro _ _ w70 ⟨r71, rfl, rfl, hv⟩ hGw70 hS; have hS := hS.n0; refine Jc 3 <| W.ret <| ⟨_, rfl, Fin.nil ?_⟩
 exact (hS.pick [] rfl).fin rfl ⟨(!r71), rfl, rfl, hv⟩
def Yd (Pf : Int) (Mf : Int) (mf : List Int) (Q : Bool -> Prop) : Prop :=
  Jai mf (fun x14 => (((x14.length : Nat) + (1 : Nat) : Int) * 8 <= 140737488355328) /\ (∃ (I36 : Int -> Int -> Prop) (μ37 : Int -> Int -> Nat), I36 (1 : Int) Pf /\ ∀ (z34 : Int) (z35 : Int), (I36 z34 z35 -> ((I64 ((2 : Int) * z34)) /\ (((((2 : Int) * z34) <= Mf) -> (∃ (I44 : Int -> Prop) (μ45 : Int -> Nat), I44 (0 : Int) /\ ∀ (z43 : Int), (I44 z43 -> (((z43 < z35) -> (∃ (x55 : List Int), ZW Pf z34 z43 (fun q => q = x55) /\ (∃ (r65 : Bool), ZV Pf x55 (x14 ++ ([(1 : Int)] : List Int)) (fun q => q = r65) /\ (((r65 = true) -> Q false) /\ (r65 = false -> ((I64 (z43 + (1 : Int))) /\ (I44 (z43 + (1 : Int)) /\ μ45 (z43 + (1 : Int)) < μ45 z43))))))) /\ (¬ (z43 < z35) -> ((I64 (z34 + (1 : Int))) /\ ((I64 (z35 * Pf)) /\ (I36 (z34 + (1 : Int)) (z35 * Pf) /\ μ37 (z34 + (1 : Int)) (z35 * Pf) < μ37 z34 z35)))))))) /\ (¬ (((2 : Int) * z34) <= Mf) -> Q true))))))
theorem Jda {w : World} {Q : Bool -> Prop} {Pf : Int} {Mf : Int} {mf : List Int} {Bf : Nat} {Af : Option Addr} {nf kf : Nat} (hf : Rd Bf w 1 Af nf kf (is mf)) (hv : Yd Pf Mf mf Q) :
   Calls Try.prog 123 #[.agg #[.int .i64 Pf, .int .i64 Mf, .slice Af nf kf]] w fun e w' => ∃ v Qr, e = .returned v /\ w.grownBy w' none /\ Rows w.heap.size none w' Qr /\ News w.heap.size Qr /\ ∃ (r0 : Bool), v = .bool r0 /\ Qr = [] /\ Q r0 := by
 have hnf := hf.ilen; subst hnf; refine Jp <| Jo (vs := [.agg #[nI Pf, nI Mf, nS Af mf kf]]) [2] XF123 rfl rfl rfl rfl ?_; have hS := Jt w; unfold Yd at hv; refine Je 2 <| JF (z := 3) (cs := [nI Pf, nI Mf, nS Af mf kf]) hS rfl rfl rfl rfl ?_; intro g11 w12 hS; refine Jc 2 <| Je 2 <| Jd (off := 2) Yu rfl rfl <| Jm 0 2 Jr hS rfl rfl rfl ⟨rfl, rfl⟩ <| SL.call hS (Jch (hS.ro hf) hv) XF91 rfl XN91 rfl rfl ?_; rintro _ _ w13 ⟨x14, A15, k16, rfl, rfl, hv⟩ hGw13 hS; have hS := hS.n1; refine JH (vs := is ([(1 : Int)] : List Int)) hS Jr XE3 rfl rfl rfl rfl (J1 _) rfl ?_; intro A18 w19 hS; obtain ⟨o21, hv⟩ := hv; refine SL.append (cs := is x14) (cs' := is ([(1 : Int)] : List Int)) 1 ((x14 ++ ([(1 : Int)] : List Int)).length) (is (x14 ++ ([(1 : Int)] : List Int))) hS rfl Jr XE3 (hS.rd (i := 0) rfl) (J1 _) rfl rfl (apk o21).1 (apk o21).2 (ZN (hS.rd (i := 1) rfl) (hS.rd (i := 0) rfl)) (Qq _ _) rfl ?_; intro A22 k23 w24 hS; refine Jc 2 <| Je 2 <| JZ 4 [⟨[], [1], true⟩, ⟨[0], [], false⟩, ⟨[], [], true⟩, ⟨[1], [], true⟩] [(12, nP g11), (13, nI Pf), (4, nI 1), (5, nI Pf)] Try.mixed (by kernel_rfl) rfl rfl ?_ ?_
 . refine ⟨fun _ _ _ => Jd (off := 0) Qh rfl rfl <| Ja ⟨rfl, rfl⟩, fun _ hE _ => have hS := hS.grow (hE rfl); Jm 2 0 XU3 hS rfl rfl rfl ⟨rfl, rfl⟩ <| Ja ⟨rfl, Jg _⟩, oA fun _ => rfl, oA fun _ => rfl, trivial⟩
 intro w29 hT; have hS := hS.grow hT; refine Jl (by decide +kernel) <| W.block ?_; obtain ⟨I36, μ37, hv, hk83⟩ := hv; refine JE (σ := Int × Int) (fun q w1 => match q with | (z34, z35) => I36 z34 z35 /\ St TT w none w1 [.row 3 1 A18 1 1 (is ([(1 : Int)] : List Int)), .row 3 1 A22 ((x14 ++ ([(1 : Int)] : List Int)).length) k23 (is (x14 ++ ([(1 : Int)] : List Int))), .row 24 3 (nA g11) 1 1 [nI Pf, nI Mf, nS Af mf kf]]) (fun q => match q with | (z34, z35) => [(1, nP g11), (2, .bool false), (3, .slice A22 ((x14 ++ ([(1 : Int)] : List Int)).length) k23), (4, nI z34), (5, nI z35)]) (fun q => match q with | (z34, z35) => μ37 z34 z35) ((1 : Int), Pf) ⟨hv, hS⟩ ⟨rfl, rfl, rfl, rfl, rfl, trivial⟩ ?_; rintro ⟨z34, z35⟩ w38 ⟨hv, hS⟩; have hv := hk83 z34 z35 hv; refine Je 4 ?_; obtain ⟨o39, hv⟩ := hv; refine WL.mul (r := ((2 : Int) * z34)) rfl rfl (wr o39) rfl <| Jd (off := 1) Qw rfl rfl <| Jm 2 1 XU3 hS rfl rfl rfl ⟨rfl, rfl⟩ <| Jc 2 <| Ji rfl (fun c40 => ?_) (fun c40 => ?_)
 .have hv := hv.1 (oT c40); refine Jq <| JA <| W.block <| Je 5 <| W.block ?_; obtain ⟨I44, μ45, hv, hk82⟩ := hv; refine JE (σ := Int) (fun z43 w1 => I44 z43 /\ St TT w none w1 [.row 3 1 A18 1 1 (is ([(1 : Int)] : List Int)), .row 3 1 A22 ((x14 ++ ([(1 : Int)] : List Int)).length) k23 (is (x14 ++ ([(1 : Int)] : List Int))), .row 24 3 (nA g11) 1 1 [nI Pf, nI Mf, nS Af mf kf]]) (fun z43 => [(1, nP g11), (2, .bool false), (3, .slice A22 ((x14 ++ ([(1 : Int)] : List Int)).length) k23), (4, nI z34), (5, nI z35), (18, .bool (decide (((2 : Int) * z34) <= Mf))), (25, nI z35), (26, nI z43)]) (fun z43 => μ45 z43) (0 : Int) ⟨hv, hS⟩ ⟨rfl, rfl, rfl, rfl, rfl, rfl, rfl, rfl, trivial⟩ ?_; rintro z43 w46 ⟨hv, hS⟩; have hv := hk82 z43 hv; refine Je 5 <| Ji rfl (fun c47 => ?_) (fun c47 => ?_)
  .have hv := hv.1 (oT c47); refine Jq <| JA <| W.block <| Je 6 ?_; obtain ⟨x55, o62, hv⟩ := hv; obtain ⟨r65, o67, hv⟩ := hv; have hS0 := hS; refine Qz 9 (fun iA => [false, false, false, false, false, false, true, false, false].getD iA false) (fun _ => none) (fun _ v u => u = v) [⟨[], [1], true⟩, ⟨[0], [], false⟩, ⟨[], [1], true⟩, ⟨[2], [], false⟩, ⟨[], [4], true⟩, ⟨[], [6], true⟩, ⟨[3, 4, 5], [], false⟩, ⟨[], [3], true⟩, ⟨[1, 6, 7], [], false⟩] [.k 29 (nP g11), .k 30 (nI Pf), .k 31 (nP g11), .k 32 (nI Pf), .k 33 (nI z34), .k 34 (nI z43), eS w46 35 3 x55.length (is x55), .k 36 (.slice A22 ((x14 ++ ([(1 : Int)] : List Int)).length) k23), .k 37 (.bool r65)] (fun _ => vbD) Try.mixed (by kernel_rfl) rfl rfl (fun _ _ _ _ _ _ _ h => h) ?_ ?_
   . refine ⟨fun _ _ _ => Jd (off := 0) Qh rfl rfl <| Ja ⟨rfl, rfl⟩, fun _ hE _ => have hS := hS.grow (hE rfl); Jm 2 0 XU3 hS rfl rfl rfl ⟨rfl, rfl⟩ <| Ja ⟨rfl, Jg _⟩, fun _ _ _ => Jd (off := 0) Qh rfl rfl <| Ja ⟨rfl, rfl⟩, fun _ hE _ => have hS := hS.grow (hE rfl); Jm 2 0 XU3 hS rfl rfl rfl ⟨rfl, rfl⟩ <| Ja ⟨rfl, Jg _⟩, oB (fun _ => rfl) rfl, oB (fun _ => rfl) rfl, ?_, oB (fun _ => rfl) rfl, ?_, trivial⟩
     .intro w54 hE; have hE := hE rfl; have hS := hS.grow hE; intro RR; refine WL.call Jnr rfl Jsn rfl rfl (JS (Jdb  o62)) ?_; rintro _ w59 ⟨_, hGw59, hRww59, hNww59, x55q, A56, k57, rfl, rfl, he⟩; subst he; have hO60 := (hRww59.get (i := 0) rfl).1; have hN61 : ∀ g, bl A56 = some g -> _ <= g := fun g hg => Nat.le_trans hE.size (hNww59.1 g hg); exact Ja ⟨_, rfl, hGw59, ⟨A56, k57, rfl, hO60, hN61⟩, (fun _ => fun g hg => ⟨hNww59.1 g hg, (hO60.bl_ge g hg).2⟩), (fun j h => by cases h)⟩
     intro w64 hE; have hS := hS.grow (hE rfl); rintro _ ⟨A56_6, k57_6, rfl, hO60_6, hN61_6⟩; intro RR; refine WL.call XF128 rfl XN128 rfl rfl (JS (Jla hO60_6.rd (hS.rd (i := 1) rfl) o67)) ?_; rintro _ w66 ⟨_, hGw66, hRww66, hNww66, r65q, rfl, rfl, he⟩; subst he; exact Ja ⟨rfl, hGw66⟩
   intro vals w68 hT hVs hAp hCp; have hS := hS.grow hT; obtain ⟨A56_6, k57_6, hv6, hO60_6, hN61_6⟩ := hVs 6 (by decide); refine Qx [(6, nS A56_6 x55 k57_6)] ⟨hv6, trivial⟩ <| Jl (by decide +kernel) <| Ji rfl (fun c69 => ?_) (fun c69 => ?_)
   .have hv := hv.1 (c69); refine Je 4 <| W.ret <| ⟨_, rfl, Fin.nil ?_⟩
    exact (hS.pick [] rfl).fin rfl ⟨false, rfl, rfl, hv⟩
   have hv := hv.2 (c69); refine Jq <| JI ?_; obtain ⟨o70, hv⟩ := hv; refine WL.add (r := (z43 + (1 : Int))) rfl rfl (wr o70) rfl <| Jc 2 ?_; exact ⟨(z43 + (1 : Int)), ⟨rfl, rfl, rfl, rfl, rfl, rfl, rfl, rfl, trivial⟩, hv.2, rfl, hv.1, hS⟩
  have hv := hv.2 (oF c47); refine JC ?_; obtain ⟨o73, hv⟩ := hv; obtain ⟨o78, hv⟩ := hv; refine JZ 8 [⟨[], [4], true⟩, ⟨[0], [], true⟩, ⟨[], [5], true⟩, ⟨[], [1], true⟩, ⟨[3], [], false⟩, ⟨[2, 4], [], true⟩, ⟨[1], [], true⟩, ⟨[5], [], true⟩] [(19, nI z34), (20, nI (z34 + (1 : Int))), (21, nI z35), (22, nP g11), (23, nI Pf), (24, nI (z35 * Pf)), (4, nI (z34 + (1 : Int))), (5, nI (z35 * Pf))] Try.mixed (by kernel_rfl) rfl rfl ?_ ?_
  . refine ⟨oA fun _ => rfl, fun _ _ _ => WL.add (r := (z34 + (1 : Int))) rfl rfl (wr o73) rfl <| Ja ⟨rfl, rfl⟩, oA fun _ => rfl, fun _ _ _ => Jd (off := 0) Qh rfl rfl <| Ja ⟨rfl, rfl⟩, fun _ hE _ => have hS := hS.grow (hE rfl); Jm 2 0 XU3 hS rfl rfl rfl ⟨rfl, rfl⟩ <| Ja ⟨rfl, Jg _⟩, fun _ _ _ => WL.mul (r := (z35 * Pf)) rfl rfl (wr o78) rfl <| Ja ⟨rfl, rfl⟩, oA fun _ => rfl, oA fun _ => rfl, trivial⟩
  intro w81 hT; have hS := hS.grow hT; refine Jl (by decide +kernel) ?_; exact ⟨((z34 + (1 : Int)), (z35 * Pf)), ⟨rfl, rfl, rfl, rfl, rfl, trivial⟩, hv.2, rfl, hv.1, hS⟩
 have hv := hv.2 (oF c40); refine JC <| Je 4 <| W.ret <| ⟨_, rfl, Fin.nil ?_⟩
 exact (hS.pick [] rfl).fin rfl ⟨true, rfl, rfl, hv⟩
def Jer (Pf : Int) (Mf : Int) (mf : List Int) (Q : Int -> Prop) : Prop :=
  (((256 : Int) < Pf) -> (Q (1 : Int))) /\ (¬ ((256 : Int) < Pf) -> (Jbe Pf (fun r15 => (((!r15) = true) -> (Q (1 : Int))) /\ ((!r15) = false -> (((Mf < (1 : Int)) -> (Q (1 : Int))) /\ (¬ (Mf < (1 : Int)) -> (Jah Pf Mf mf (fun r19 => (((256 : Int) < r19) -> (Q (1 : Int))) /\ (¬ ((256 : Int) < r19) -> (((Mf = (1 : Int)) -> (Jf2 (decide ((mf.length : Int) = (0 : Int))) (fun r23 => Q r23))) /\ (¬ (Mf = (1 : Int)) -> ((((mf.length : Int) ≠ Mf) -> (Q (1 : Int))) /\ (¬ ((mf.length : Int) ≠ Mf) -> (Zl mf (fun xc Qc => Jf4 xc Pf Mf mf Qc) (fun r26 => ((r26 = true) -> (Q (1 : Int))) /\ (r26 = false -> (Yd Pf Mf mf (fun r29 => Jf2 r29 (fun r31 => Q r31)))))))))))))))))))
theorem Jra {w : World} {Q : Int -> Prop} {Pf : Int} {Mf : Int} {mf : List Int} {Bf : Nat} {Af : Option Addr} {nf kf : Nat} (hf : Rd Bf w 1 Af nf kf (is mf)) (hv : Jer Pf Mf mf Q) :
   Calls Try.prog 111 #[.agg #[.int .i64 Pf, .int .i64 Mf, .slice Af nf kf]] w fun e w' => ∃ v Qr, e = .returned v /\ w.grownBy w' none /\ Rows w.heap.size none w' Qr /\ News w.heap.size Qr /\ ∃ (r0 : Int), v = .int .i64 r0 /\ Qr = [] /\ Q r0 := by
 have hnf := hf.ilen; subst hnf; refine Jp <| Jo (vs := [.agg #[nI Pf, nI Mf, nS Af mf kf]]) [2] XF111 rfl rfl rfl rfl ?_; have hS := Jt w; unfold Jer at hv; refine Je 2 <| JF (z := 3) (cs := [nI Pf, nI Mf, nS Af mf kf]) hS rfl rfl rfl rfl ?_; intro g11 w12 hS; refine Jc 2 <| Je 3 <| Jd (off := 0) Qh rfl rfl <| Jm 0 0 XU3 hS rfl rfl rfl ⟨rfl, rfl⟩ <| Jig rfl rfl rfl <| Js rfl rfl ?_; by_cases g13 : (256 : Int) < Pf
 .have hv := hv.1 g13; rw [decide_eq_true g13]; refine Jc 16 <| Qd rfl <| Je 4 <| W.ret <| ⟨_, rfl, Fin.nil ?_⟩
  exact (hS.pick [] rfl).fin rfl ⟨(1 : Int), rfl, rfl, hv⟩
 have hv := hv.2 g13; rw [decide_eq_false g13]; refine WL.take rfl <| Jd (off := 0) Qh rfl rfl <| WL.take rfl <| Jm 0 0 XU3 hS rfl rfl rfl ⟨rfl, rfl⟩ <| WL.take rfl <| SL.call hS (Jk9  hv) XF120 rfl XN120 rfl rfl ?_; rintro _ _ w14 ⟨r15, rfl, rfl, hv⟩ hGw14 hS; have hS := hS.n0; refine Jc 3 <| Js rfl rfl ?_; rcases g16 : (!r15) with _ | _
 .have hv := hv.2 g16; refine WL.take rfl <| Jd (off := 1) Qw rfl rfl <| WL.take rfl <| Jm 0 1 XU3 hS rfl rfl rfl ⟨rfl, rfl⟩ <| Jc 3 <| Js rfl rfl ?_; by_cases g17 : Mf < (1 : Int)
  .have hv := hv.1 g17; rw [decide_eq_true g17]; refine Jc 5 <| Qd rfl <| Je 4 <| W.ret <| ⟨_, rfl, Fin.nil ?_⟩
   exact (hS.pick [] rfl).fin rfl ⟨(1 : Int), rfl, rfl, hv⟩
  have hv := hv.2 g17; rw [decide_eq_false g17]; refine WL.take rfl <| Jj (cs := [nI Pf, nI Mf, nS Af mf kf]) J9 Qk rfl rfl (Jf (hS.own (i := 0) rfl)) rfl <| WL.take rfl <| SL.call hS (Jas (hS.ro hf) hv) Jg0 rfl Jka rfl rfl ?_; rintro _ _ w18 ⟨r19, rfl, rfl, hv⟩ hGw18 hS; have hS := hS.n0; refine Jc 4 <| Ji rfl (fun c20 => ?_) (fun c20 => ?_)
  .have hv := hv.1 (oT c20); refine Je 4 <| W.ret <| ⟨_, rfl, Fin.nil ?_⟩
   exact (hS.pick [] rfl).fin rfl ⟨(1 : Int), rfl, rfl, hv⟩
  have hv := hv.2 (oF c20); refine Jq <| Je 3 <| Jd (off := 1) Qw rfl rfl <| Jm 0 1 XU3 hS rfl rfl rfl ⟨rfl, rfl⟩ <| Jc 2 <| Ji rfl (fun c21 => ?_) (fun c21 => ?_)
  .have hv := hv.1 (oT c21); refine Je 2 <| Jd (off := 2) Yu rfl rfl <| Jm 0 2 Jr hS rfl rfl rfl ⟨rfl, rfl⟩ <| WL.len Jr rfl rfl <| Jcs rfl rfl rfl <| SL.call hS (Jm6  hv) Jsw rfl XN121 rfl rfl ?_; rintro _ _ w22 ⟨r23, rfl, rfl, hv⟩ hGw22 hS; have hS := hS.n0; refine Jc 2 <| W.ret <| ⟨_, rfl, Fin.nil ?_⟩
   exact (hS.pick [] rfl).fin rfl ⟨r23, rfl, rfl, hv⟩
  have hv := hv.2 (oF c21); refine Jq <| Je 3 <| Jd (off := 2) Yu rfl rfl <| Jm 0 2 Jr hS rfl rfl rfl ⟨rfl, rfl⟩ <| WL.len Jr rfl rfl <| Jd (off := 1) Qw rfl rfl <| Jm 0 1 XU3 hS rfl rfl rfl ⟨rfl, rfl⟩ <| YH rfl rfl rfl <| Js rfl rfl ?_; by_cases g24 : (mf.length : Int) ≠ Mf
  .have hv := hv.1 g24; rw [decide_eq_true g24]; refine Jc 6 <| Qd rfl <| Je 4 <| W.ret <| ⟨_, rfl, Fin.nil ?_⟩
   exact (hS.pick [] rfl).fin rfl ⟨(1 : Int), rfl, rfl, hv⟩
  have hv := hv.2 g24; rw [decide_eq_false g24]; refine WL.take rfl <| Jd (off := 2) Yu rfl rfl <| WL.take rfl <| Jm 0 2 Jr hS rfl rfl rfl ⟨rfl, rfl⟩ <| WL.take rfl <| Q1 (vs := [nP g11]) rfl rfl <| WL.take rfl <| SL.call hS (Jd0 (hS.ro hf) XF122 rfl XN122 (fun wc xc Qc hg hv => Joq ((hS.rd (i := 0) rfl).ext hg) ((hS.ro hf).ext hg) hv) hv) XF81 rfl XN81 rfl rfl ?_; rintro _ _ w25 ⟨r26, rfl, rfl, hv⟩ hGw25 hS; have hS := hS.n0; refine Jc 2 <| Ji rfl (fun c27 => ?_) (fun c27 => ?_)
  .have hv := hv.1 (c27); refine Je 4 <| W.ret <| ⟨_, rfl, Fin.nil ?_⟩
   exact (hS.pick [] rfl).fin rfl ⟨(1 : Int), rfl, rfl, hv⟩
  have hv := hv.2 (c27); refine Jq <| Je 2 <| Jj (cs := [nI Pf, nI Mf, nS Af mf kf]) J9 Qk rfl rfl (Jf (hS.own (i := 0) rfl)) rfl <| SL.call hS (Jda (hS.ro hf) hv) XF123 rfl XN123 rfl rfl ?_; rintro _ _ w28 ⟨r29, rfl, rfl, hv⟩ hGw28 hS; have hS := hS.n0; refine SL.call hS (Jm6  hv) Jsw rfl XN121 rfl rfl ?_; rintro _ _ w30 ⟨r31, rfl, rfl, hv⟩ hGw30 hS; have hS := hS.n0; refine Jc 2 <| W.ret <| ⟨_, rfl, Fin.nil ?_⟩
  exact (hS.pick [] rfl).fin rfl ⟨r31, rfl, rfl, hv⟩
 have hv := hv.1 g16; refine Jc 10 <| Qd rfl <| Je 4 <| W.ret <| ⟨_, rfl, Fin.nil ?_⟩
 exact (hS.pick [] rfl).fin rfl ⟨(1 : Int), rfl, rfl, hv⟩
def Jb2 (Fg : GFv) (Q : Unit -> Prop) : Prop :=
  Q ()
theorem Jjf {w : World} {Q : Unit -> Prop} {Fg : GFv} {ag : Addr} {Bg : Nat} (hgg : GFR Bg w ag Fg) (hv : Jb2 Fg Q) :
  Calls Try.prog 124 #[.pointer (some ag)] w fun e w' => ∃ v Qr, e = .returned v /\ w.grownBy w' none /\ Rows w.heap.size none w' Qr /\ News w.heap.size Qr /\ ∃ g : Nat, v = .func (.func 130) #[] #[.pointer (some ⟨g, 0, none⟩)] /\ Qr = [.row 69 1 (some ⟨g, 0, none⟩) 1 1 [.pointer (some ag)]] /\ Q () := by
 have hgg_ := hgg; obtain ⟨Ag_mod, kg_mod, Ag_exp, kg_exp, Ag_log, kg_log, Ag_above, kg_above, hg_c, hg_mod, hg_exp, hg_log, hg_above⟩ := hgg_; refine Jp <| Jo (vs := [.pointer (some ag)]) [2] XF124 rfl rfl rfl rfl ?_; have hS := Jt w; unfold Jb2 at hv; refine Je 2 <| JF (z := 1) (cs := [.pointer (some ag)]) hS rfl rfl rfl rfl ?_; intro g11 w12 hS; refine Jc 2 <| Je 2 <| Q1 (vs := [nP g11]) rfl rfl <| Jc 2 <| W.ret <| ⟨_, rfl, Fin.nil ?_⟩
 exact (hS.pick [0] rfl).fin rfl ⟨g11, rfl, rfl, hv⟩
def Jb4 (l : List Int) (Q : Unit -> Prop) : Prop :=
  Q ()
theorem Jjh {w : World} {Q : Unit -> Prop} {l : List Int} {Bl : Nat} {Al : Option Addr} {nl kl : Nat} (hl : Rd Bl w 1 Al nl kl (is l)) (hv : Jb4 l Q) :
  Calls Try.prog 135 #[.slice Al nl kl] w fun e w' => ∃ v Qr, e = .returned v /\ w.grownBy w' none /\ Rows w.heap.size none w' Qr /\ News w.heap.size Qr /\ ∃ g : Nat, v = .func (.func 136) #[] #[.pointer (some ⟨g, 0, none⟩)] /\ Qr = [.row 22 1 (some ⟨g, 0, none⟩) 1 1 [.slice Al nl kl]] /\ Q () := by
 have hnl := hl.ilen; subst hnl; refine Jp <| Jo (vs := [nS Al l kl]) [2] XF135 rfl rfl rfl rfl ?_; have hS := Jt w; unfold Jb4 at hv; refine Je 2 <| JF (z := 1) (cs := [nS Al l kl]) hS rfl rfl rfl rfl ?_; intro g11 w12 hS; refine Jc 2 <| Je 2 <| Q1 (vs := [nP g11]) rfl rfl <| Jc 2 <| W.ret <| ⟨_, rfl, Fin.nil ?_⟩
 exact (hS.pick [0] rfl).fin rfl ⟨g11, rfl, rfl, hv⟩
def Y5 (p : Int) (l : List Int) (Q : Int -> Prop) : Prop :=
  Jb4 l (fun _ => ∃ (I22 : Nat -> Int -> Prop), I22 0 (0 : Int) /\ (∀ i18 : Nat, i18 < l.length -> ∀ (z21 : Int), I22 i18 z21 -> ((I64 (z21 * p)) /\ ((I64 ((z21 * p) + (gi l ((l.length - 1 - i18 : Nat) : Int)))) /\ (I22 (i18 + 1) ((z21 * p) + (gi l ((l.length - 1 - i18 : Nat) : Int))))))) /\ (∀ (z21 : Int), I22 l.length z21 -> Q z21))
theorem Jgb {w : World} {Q : Int -> Prop} {p : Int} {l : List Int} {Bl : Nat} {Al : Option Addr} {nl kl : Nat} (hl : Rd Bl w 1 Al nl kl (is l)) (hv : Y5 p l Q) :
   Calls Try.prog 132 #[.int .i64 p, .slice Al nl kl] w fun e w' => ∃ v Qr, e = .returned v /\ w.grownBy w' none /\ Rows w.heap.size none w' Qr /\ News w.heap.size Qr /\ ∃ (r0 : Int), v = .int .i64 r0 /\ Qr = [] /\ Q r0 := by
 have hnl := hl.ilen; subst hnl; refine Jp <| Jo (vs := [nI p, nS Al l kl]) [4] XF132 rfl rfl rfl rfl ?_; have hS := Jt w; unfold Y5 at hv; refine Je 2 <| JF (z := 1) (cs := [nI p]) hS rfl rfl rfl rfl ?_; intro g11 w12 hS; refine Jc 2 <| Je 2 <| SL.alloc (cs := [nI 0]) hS XE3 rfl rfl ?_; intro g13 w14 hS; refine JD (cs' := [nI 0]) 0 0 hS rfl XE3 rfl rfl rfl (Qy rfl) rfl ?_; intro w15 hS; refine Ja <| Je 4 <| SL.call hS (Jjh (hS.ro hl) hv) XF135 rfl XN135 rfl rfl ?_; rintro _ _ w16 ⟨g17, rfl, rfl, hv⟩ hGw16 hS; have hS := hS.n1; refine Ja <| W.block ?_; obtain ⟨I22, hv, hk29, hd30⟩ := hv; refine Jkh (σ := Int) (fun i q => match q with | z21 => I22 i z21) (fun z21 => [.row 22 1 (some ⟨g17, 0, none⟩) 1 1 [.slice Al l.length kl], .row 3 1 (some ⟨g13, 0, none⟩) 1 1 [.int .i64 z21], .row 3 1 (some ⟨g11, 0, none⟩) 1 1 [.int .i64 p]]) (fun _ _ => False) (fun vs => [(2, .pointer (some ⟨g11, 0, none⟩)), (4, .int .i64 0), (5, .pointer (some ⟨g13, 0, none⟩)), (7, vs.getD 1 undef)]) (0 : Int) hS hv (fun q => by obtain z21 := q; exact trivial) rfl XF136 rfl XN136 (Jh7 (A := Al) (m := l.length) (c := kl) (Rd.m64 (hS.ro hl))) (Below.refl _ _) (fun _ _ _ h => by obtain ⟨_, h, _⟩ := h; rw [h]; rfl) (fun i x => Jup) (by decide) (fun _ q _ _ hS => by obtain z21 := q; exact ⟨Jf (hS.own (i := 0) rfl) 0 _ rfl, _, _, (hS.ro hl)⟩) ?_ ?_ ?_ ?_
 .intro lq vsq W1q hlq
  match vsq, hlq with
  | [a0, a1], _ =>
    refine Je 3 ?_; exact ⟨rfl, rfl, ⟨rfl, rfl, rfl, rfl, trivial⟩⟩
 .rintro lq i18 _ z21 w23 hi ⟨vb, rfl, hcell⟩ hI hS; have hvb : vb = (gi l ((l.length - 1 - i18 : Nat) : Int)) := bw_val (hS.ro hl) (by omega) hcell; subst hvb; have hv := hk29 i18 hi z21 hI; refine W.block <| JI <| Jm 1 0 XU3 hS rfl rfl rfl ⟨rfl, rfl⟩ <| Jm 2 0 XU3 hS rfl rfl rfl ⟨rfl, rfl⟩ ?_; obtain ⟨o24, hv⟩ := hv; refine WL.mul (r := (z21 * p)) rfl rfl (wr o24) rfl <| Js rfl rfl ?_; obtain ⟨o25, hv⟩ := hv; refine WL.add (r := ((z21 * p) + (gi l ((l.length - 1 - i18 : Nat) : Int)))) rfl rfl (wr o25) rfl <| JD (cs' := [nI ((z21 * p) + (gi l ((l.length - 1 - i18 : Nat) : Int)))]) 1 0 hS rfl XE3 rfl rfl rfl (Qy rfl) rfl ?_; intro w26 hS; refine Ja ?_; exact ⟨((z21 * p) + (gi l ((l.length - 1 - i18 : Nat) : Int))), hv, hS⟩
 .rintro D27 z21 w28 hv hD hS; have hv := hd30 z21 hv; refine Je 2 <| Jm 2 0 XU3 hS rfl rfl rfl ⟨rfl, rfl⟩ <| Jc 2 <| W.ret ?_; have hS := hS.pick [0] rfl; obtain ⟨hDD27, hS⟩ := hS.taken trivial; refine ⟨_, rfl, Fin.cons hDD27 (Fin.nil ?_)⟩; exact (hS.pick [] rfl).fin rfl ⟨z21, rfl, rfl, hv⟩
 rintro _ e _ _ _ hv; exact hv.elim
end Go.Proofs.Ytlfeialpcdoleaa
