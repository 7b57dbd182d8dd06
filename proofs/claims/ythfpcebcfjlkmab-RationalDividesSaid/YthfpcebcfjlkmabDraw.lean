/- Regions that draw their order. -/
import Derived.Test.YthfpcebcfjlkmabMem
import Derived.Orders
import Derived.Still
namespace Go.Proofs.Ythfpcebcfjlkmab
open Go.RowKit

/-- One operation of a region whose order is open. 'on': those that it waits for and whose values it is told; 'base': what it knows of the frame ahead of the region; 'pure': it asks nothing of the world. -/
structure Plan where
  on : List Nat
  slots : List Nat
  pure : Bool
def dstAt (l : List Oper) (i : Nat) : Option Nat := (l[i]?).bind (·.dst)
def anyOn (l : List Oper) (i : Nat) : List Nat := match l[i]? with
  | some o => (o.after.toList.filter (Region.binds .any)).map (·.on)
  | none => []
def drawB (n : Nat) (l : List Oper) (ps : List Plan) (s : Nat) : Bool :=
  ps.length == l.length && (List.range l.length).all fun i =>
    (anyOn l i).all (fun j => Nat.blt j i) &&
    (match ps[i]? with
     | none => false
     | some p => p.on.all (fun j => (anyOn l i).contains j && j != s) && p.slots.all (fun t => (List.range l.length).all fun k => k == i || dstAt l k != some t || (anyOn l k).contains i) &&
        (p.pure || i == s || Nat.ble l.length s || (anyOn l s).contains i) && (!(p.pure && i == s))) &&
    (match dstAt l i with
     | none => i == s
     | some d => i != s && Nat.blt d n && (List.range l.length).all fun k => k == i || dstAt l k != some d)

/-- What op is told of those that it waits for. -/
def told (l : List Oper) (V : Nat → Value → World → Prop) (w : World) (K : Fr → Prop) : List Nat → Fr → Prop
  | [], F => K F
  | j :: js, F => ∀ u, V j u w → told l V w K js (((dstAt l j).getD 0, u) :: F)

/-- What is to be shown of an operation. -/
def ob (P : Program) (n : Nat) (l : List Oper) (V : Nat → Value → World → Prop) (T : World → Prop) (w0 : World) (s i : Nat) (o : Oper) (p : Plan) (base : Fr) : Prop :=
  ∀ w, (p.pure = false → w0.grownBy w none) → told l V w (fun F => ∀ R : Fr, WL P n l.toArray [o]
    (fun L' w' => if i = s then L' = F ++ R ∧ T w' else ∃ u, L' = ((dstAt l i).getD 0, u) :: (F ++ R) ∧ (if p.pure then w' = w else w.grownBy w' none) ∧ V i u w') (F ++ R) w) p.on base
def obs (P : Program) (n : Nat) (l : List Oper) (V : Nat → Value → World → Prop) (T : World → Prop) (w0 : World) (L : Fr) (s : Nat) : Nat → List Oper → List Plan → List Fr → Prop
  | i, o :: os, p :: ps, b :: bs => (b.map (·.1) = p.slots ∧ sub b L ∧ ob P n l V T w0 s i o p b) ∧ obs P n l V T w0 L s (i + 1) os ps bs
  | _, [], [], [] => True
  | _, _, _, _ => False

theorem obs_at {P : Program} {n : Nat} {l : List Oper} {V : Nat → Value → World → Prop} {T : World → Prop} {w0 : World} {L : Fr} {s : Nat} : ∀ (os : List Oper) (ps : List Plan) (bs : List Fr) (i : Nat),
    obs P n l V T w0 L s i os ps bs → ∀ k o p, os[k]? = some o → ps[k]? = some p → ∃ b, b.map (·.1) = p.slots ∧ sub b L ∧ ob P n l V T w0 s (i + k) o p b
  | [], _, _, _, _, k, _, _, ho, _ => by simp at ho
  | o :: os, [], _, _, h, _, _, _, _, hp => by simp at hp
  | o :: os, p :: ps, [], _, h, _, _, _, _, _ => by exact h.elim
  | o :: os, p :: ps, b :: bs, i, h, k, o', p', ho, hp => by
    cases k with
    | zero =>
      simp at ho hp
      subst ho; subst hp
      exact ⟨b, h.1⟩
    | succ k =>
      obtain ⟨b', h1, h2, h3⟩ := obs_at os ps bs (i + 1) h.2 k o' p' (by simpa using ho) (by simpa using hp)
      exact ⟨b', h1, h2, by rw [show i + (k + 1) = i + 1 + k by omega]; exact h3⟩

theorem told_at {l : List Oper} {V : Nat → Value → World → Prop} {w : World} {K : Fr → Prop} (vals : Nat → Value) : ∀ (js : List Nat) (F : Fr), told l V w K js F → (∀ j ∈ js, V j (vals j) w) →
    K ((js.map fun j => ((dstAt l j).getD 0, vals j)).reverse ++ F)
  | [], F, h, _ => by simpa [told] using h
  | j :: js, F, h, hv => by
    have := told_at vals js _ (h (vals j) (hv j (List.mem_cons_self ..))) (fun k hk => hv k (List.mem_cons_of_mem _ hk))
    simpa using this

theorem oper_wp_mono {P : Program} {o : Oper} {a : Act} {w : World} {K K' : Act → World → Prop} {Q Q' : Exit → Act → World → Prop} (h : ∀ a w, K a w → K' a w) (hq : ∀ e a w, e ≠ .normal → Q e a w → Q' e a w)
    (hh : o.wp P a w K Q) : o.wp P a w K' Q' := by
  unfold Oper.wp at *
  generalize (execOp a.eval o).run P w = r at *
  cases r with
  | ok n w' =>
    cases n <;> simp only [Oper.upon] at hh ⊢ <;>
      first
        | exact h _ _ hh
        | exact Calls.mono hh (fun e w'' he => by
            cases e with
            | returned v => exact h _ _ he
            | panicked c => exact hq _ _ _ (by simp) he
            | outgrown => obtain ⟨a1, w1, h1⟩ := he; exact ⟨a1, w1, hq _ _ _ (by simp) h1⟩)
        | exact Rows.mono hh (fun _ _ he => h _ _ he)
  | halt x w' => cases x <;> simp only [Oper.upon] at hh ⊢ <;> first | exact hh | exact hq _ _ _ (by simp) hh

theorem lk_append (A B : Fr) (t : Nat) : lk (A ++ B) t = match lk A t with | some v => some v | none => lk B t := by
  induction A with
  | nil => rfl
  | cons p A ih =>
    obtain ⟨k, v⟩ := p
    by_cases e : k = t
    · subst e; simp [lk_self]
    · simp [lk_ne e, ih]
theorem lk_mem {A : Fr} {t : Nat} {v : Value} (h : lk A t = some v) : (t, v) ∈ A := by
  induction A with
  | nil => cases h
  | cons p A ih =>
    obtain ⟨k, u⟩ := p
    by_cases e : k = t
    · subst e; rw [lk_self] at h; cases h; exact List.mem_cons_self ..
    · rw [lk_ne e] at h; exact List.mem_cons_of_mem _ (ih h)
theorem lk_full (a : Act) (m t : Nat) (h : t < m) : lk ((List.range m).map fun t => (t, a.tmps.getD t undef)) t = some (a.tmps.getD t undef) := by
  induction m with
  | zero => omega
  | succ m ih =>
    rw [List.range_succ, List.map_append, lk_append]
    by_cases e : t < m
    · rw [ih e]
    · have : t = m := by omega
      subst this
      have hn : lk ((List.range t).map fun t => (t, a.tmps.getD t undef)) t = none := by
        cases hc : lk ((List.range t).map fun t => (t, a.tmps.getD t undef)) t with
        | none => rfl
        | some v => have := lk_mem hc; simp at this; omega
      rw [hn]
      simp [lk]
theorem sub_at {M L : Fr} (h : sub M L) {t : Nat} {v : Value} (hm : (t, v) ∈ M) : lk L t = some v := by
  induction M with
  | nil => cases hm
  | cons p M ih =>
    obtain ⟨k, u⟩ := p
    rcases List.mem_cons.1 hm with e | e
    · cases e; exact h.1
    · exact ih h.2 e

/-- What is known of the frame and the world when the operations 'd' have been carried out. -/
structure DInv (n : Nat) (l : List Oper) (ps : List Plan) (V : Nat → Value → World → Prop) (T : World → Prop) (w0 : World) (L : Fr) (s : Nat) (d : Nat → Bool) (vals : Nat → Value) (a : Act) (w : World) : Prop where
  nd : a.defers = []
  sz : a.tmps.size = n
  old : ∀ t v, lk L t = some v → (∀ k, d k = true → dstAt l k ≠ some t) → a.tmps[t]? = some v
  new : ∀ k t, d k = true → dstAt l k = some t → a.tmps[t]? = some (vals k)
  wd : d s = false → w0.grownBy w none
  ws : d s = true → T w
  vs : ∀ k, d k = true → k ≠ s → V k (vals k) w
  cl : ∀ k, d k = true → ∀ j ∈ anyOn l k, d j = true
  lt : ∀ k, d k = true → k < l.length

theorem lk_of_mem {A : Fr} {t : Nat} {v : Value} (h : (t, v) ∈ A) : ∃ u, lk A t = some u := by
  induction A with
  | nil => cases h
  | cons p A ih =>
    obtain ⟨k, u⟩ := p
    by_cases e : k = t
    · subst e; exact ⟨u, lk_self _ _ _⟩
    · rw [lk_ne e]
      rcases List.mem_cons.1 h with h | h
      · cases h; exact absurd rfl e
      · exact ih h
theorem getD_rep (m j : Nat) : (Array.replicate m false).getD j false = false := by
  rcases Nat.lt_or_ge j m with h | h
  · simp [Array.getD_eq_getD_getElem?, h]
  · simp [Array.getD_eq_getD_getElem?, h]
theorem getD_set (x : Array Bool) (i k : Nat) (hi : i < x.size) : (x.setIfInBounds i true).getD k false = (decide (i = k) || x.getD k false) := by
  simp only [Array.getD_eq_getD_getElem?, Array.getElem?_setIfInBounds]
  by_cases e : i = k
  · subst e; simp [hi]
  · simp [e]
theorem filter_set (x : List Bool) (i : Nat) (hi : x[i]? = some false) : (x.filter (!·)).length = ((x.set i true).filter (!·)).length + 1 := by
  induction x generalizing i with
  | nil => simp at hi
  | cons b x ih =>
    cases i with
    | zero => simp at hi; subst hi; simp
    | succ i => 
      have := ih i (by simpa using hi)
      cases b <;> simp [this]
theorem filter_zero {x : List Bool} (h : (x.filter (!·)).length = 0) (i : Nat) (hi : i < x.length) : x[i]? = some true := by
  have h1 : x.filter (!·) = [] := List.eq_nil_of_length_eq_zero h
  have h2 := List.filter_eq_nil_iff.1 h1 x[i] (List.getElem_mem hi)
  rw [List.getElem?_eq_getElem hi]
  cases hb : x[i] <;> simp_all

theorem W.draw {P : Program} {n id : Nat} {l : List Oper} {N : Post} {B : BPost} {L : Fr} {w0 : World} (ps : List Plan) (bs : List Fr) (V : Nat → Value → World → Prop) (T : World → Prop) (s : Nat)
    (hm : P.follows .mixedOrders = true) (hB : drawB n l ps s = true)
    (hV : ∀ j v w1 w2, V j v w1 → (w1.grownBy w2 none ∨ s < l.length) → V j v w2)
    (hobs : obs P n l V T w0 L s 0 l ps bs)
    (hN : ∀ (vals : Nat → Value) w', (if s < l.length then T w' else w0.grownBy w' none) → (∀ i, i < l.length → i ≠ s → V i (vals i) w') →
      N ((((List.range l.length).filterMap fun i => (dstAt l i).map fun t => (t, vals i))) ++ L) w') : W P n (.region id l.toArray true) N B L w0 := by
  simp only [drawB, Bool.and_eq_true, List.all_eq_true, List.mem_range, beq_iff_eq] at hB
  obtain ⟨hlen, hB⟩ := hB
  refine ⟨fun a ha => wp_region_any hm ?_⟩
  have key : ∀ (fuel : Nat) (listed : Array Bool) (vals : Nat → Value) (a : Act) (w : World), listed.size = l.length → (listed.toList.filter (!·)).length = fuel →
      DInv n l ps V T w0 L s (fun k => listed.getD k false) vals a w → wpAny P .any l.toArray (fin n N B) fuel listed a w := by
    intro fuel
    induction fuel with
    | zero =>
      intro listed vals a w hsz hf I
      have hall : ∀ k, k < l.length → listed.getD k false = true := fun k hk => by
        have := filter_zero hf k (by simpa [hsz] using hk)
        simp only [Array.getElem?_toList] at this
        simp [Array.getD_eq_getD_getElem?, this]
      refine ⟨?_, ?_⟩
      · cases hr : Region.ready .any l.toArray listed with
        | nil => rfl
        | cons i r =>
          have hi : i ∈ Region.ready .any l.toArray listed := by rw [hr]; exact List.mem_cons_self ..
          obtain ⟨h1, o, ho, _⟩ := mem_ready.1 hi
          have hlt : i < l.length := by have := (Array.getElem?_eq_some_iff.1 ho).1; simpa using this
          have := hall i hlt
          have hs : i < listed.size := by omega
          simp [Array.getD_eq_getD_getElem?, hs] at h1 this
          rw [h1] at this; cases this
      · refine ⟨_, ⟨I.nd, I.sz, ?_⟩, hN vals w ?_ fun i hi hne => I.vs i (hall i hi) hne⟩
        · intro t v hv
          rw [lk_append] at hv
          cases hc : lk ((List.range l.length).filterMap fun i => (dstAt l i).map fun t => (t, vals i)) t with
          | some u =>
            rw [hc] at hv
            cases hv
            have := lk_mem hc
            simp only [List.mem_filterMap, List.mem_range, Option.map_eq_some_iff] at this
            obtain ⟨k, hk, t', ht', he⟩ := this
            cases he
            exact I.new k t (hall k hk) ht'
          | none =>
            rw [hc] at hv
            refine I.old t v hv fun k hk hd => ?_
            have hm : (t, vals k) ∈ (List.range l.length).filterMap fun i => (dstAt l i).map fun t => (t, vals i) := by
              simp only [List.mem_filterMap, List.mem_range, Option.map_eq_some_iff]
              exact ⟨k, I.lt k hk, t, hd, rfl⟩
            obtain ⟨u, hu⟩ := lk_of_mem hm
            rw [hc] at hu; cases hu
        · split
          · rename_i hs; exact I.ws (hall s hs)
          · rename_i hs
            refine I.wd ?_
            have : listed.size ≤ s := by omega
            simp [Array.getD_eq_getD_getElem?, Array.getElem?_eq_none this]
    | succ fuel ih =>
      intro listed vals a w hsz hf I
      have hlist : ∀ k, listed.getD k true = false → k < l.length ∧ listed.getD k false = false := fun k hk => by
        rcases Nat.lt_or_ge k listed.size with h | h
        · simp [Array.getD_eq_getD_getElem?, h] at hk ⊢
          exact ⟨by omega, hk⟩
        · simp [Array.getD_eq_getD_getElem?, Array.getElem?_eq_none h] at hk
      refine ⟨?_, ?_⟩
      · intro hr
        -- the first that has not come up yet is ready
        exfalso
        have hex : ∃ k, k < l.length ∧ listed.getD k false = false := by
          by_cases hc : ∃ k, k < l.length ∧ listed.getD k false = false
          · exact hc
          · have hfe : listed.toList.filter (!·) = [] := by
              rw [List.filter_eq_nil_iff]
              intro b hb
              obtain ⟨k, hk, rfl⟩ := List.mem_iff_getElem.1 hb
              have hk' : k < listed.size := by simpa using hk
              have : ¬ listed.getD k false = false := fun h => hc ⟨k, by omega, h⟩
              simp [Array.getD_eq_getD_getElem?, hk'] at this
              simp [this]
            rw [hfe] at hf; simp at hf
        have hmin : ∀ m, (∃ k, k ≤ m ∧ k < l.length ∧ listed.getD k false = false) → ∃ k, k < l.length ∧ listed.getD k false = false ∧ ∀ j, j < k → listed.getD j false = true := by
          intro m
          induction m with
          | zero => rintro ⟨k, hk, h1, h2⟩; exact ⟨k, h1, h2, fun j hj => by omega⟩
          | succ m ihm =>
            rintro ⟨k, hk, h1, h2⟩
            by_cases hc : ∃ j, j ≤ m ∧ j < l.length ∧ listed.getD j false = false
            · exact ihm hc
            · refine ⟨k, h1, h2, fun j hj => ?_⟩
              cases hb : listed.getD j false with
              | true => rfl
              | false => exact absurd ⟨j, by omega, by omega, hb⟩ hc
        obtain ⟨k0, hk0, hk0'⟩ := hex
        obtain ⟨k, h1, h2, h3⟩ := hmin k0 ⟨k0, Nat.le_refl _, hk0, hk0'⟩
        have hin : k ∈ Region.ready .any l.toArray listed := by
          refine mem_ready.2 ⟨?_, l[k], by simp [h1], fun e he hb => ?_⟩
          · have : k < listed.size := by omega
            simp [Array.getD_eq_getD_getElem?, this] at h2 ⊢
            exact h2
          · have := (hB k h1).1.1 e.on (by
              simp only [anyOn, List.getElem?_eq_getElem h1, List.mem_map, List.mem_filter]
              exact ⟨e, ⟨by simpa using he, hb⟩, rfl⟩)
            exact h3 e.on (by simpa [Nat.blt_eq] using this)
        rw [hr] at hin; cases hin
      · intro i hi
        obtain ⟨h1, o, ho, hpre⟩ := mem_ready.1 hi
        obtain ⟨hil, hun⟩ := hlist i h1
        have ho' : l[i]? = some o := by simpa using ho
        have hpre' : ∀ j ∈ anyOn l i, listed.getD j false = true := fun j hj => by
          simp only [anyOn, ho', List.mem_map, List.mem_filter] at hj
          obtain ⟨e, ⟨he, hb⟩, rfl⟩ := hj
          exact hpre e (by simpa using he) hb
        obtain ⟨⟨_, hp⟩, hd⟩ := hB i hil
        have hpi : i < ps.length := by omega
        rw [List.getElem?_eq_getElem hpi] at hp
        generalize hpe : ps[i] = p at hp
        simp only [Bool.and_eq_true, List.all_eq_true, Bool.or_eq_true, List.mem_range, beq_iff_eq, bne_iff_ne, ne_eq, List.contains_iff_mem] at hp
        obtain ⟨⟨⟨hon, hsl⟩, hpur⟩, hpn⟩ := hp
        obtain ⟨b, hbs, hsub, hob⟩ := obs_at l ps bs 0 hobs i o p ho' (by rw [List.getElem?_eq_getElem hpi, hpe])
        rw [Nat.zero_add] at hob
        have hds : i ≠ s → p.pure = false → listed.getD s false = false := fun hne hpf => by
          cases hb : listed.getD s false with
          | false => rfl
          | true =>
            rcases hpur with ((h | h) | h) | h
            · rw [hpf] at h; cases h
            · exact absurd h hne
            · have := I.lt s hb; have : l.length ≤ s := by simpa [Nat.ble_eq] using h
              omega
            · have := I.cl s hb i h; rw [hun] at this; cases this
        have hw0 : p.pure = false → w0.grownBy w none := fun hpf => by
          by_cases e : i = s
          · subst e; exact I.wd hun
          · exact I.wd (hds e hpf)
        have hT := told_at vals p.on b (hob w hw0) (fun j hj => I.vs j (hpre' j (hon j hj).1) (hon j hj).2)
        generalize hF : (List.map (fun j => ((dstAt l j).getD 0, vals j)) p.on).reverse ++ b = F at hT
        have hdst : ∀ j, j < l.length → j ≠ s → ∃ d, dstAt l j = some d ∧ d < n := fun j hj hne => by
          have := (hB j hj).2
          cases hd : dstAt l j with
          | none => rw [hd] at this; simp at this; exact absurd this hne
          | some d => rw [hd] at this; simp only [Bool.and_eq_true] at this; exact ⟨d, rfl, by simpa [Nat.blt_eq] using this.1.2⟩
        have hHF : Has n a (F ++ (List.range n).map fun t => (t, a.tmps.getD t undef)) := by
          refine ⟨I.nd, I.sz, fun t v hv => ?_⟩
          rw [lk_append] at hv
          cases hc : lk F t with
          | some u =>
            rw [hc] at hv; cases hv
            have hm := lk_mem hc
            rw [← hF] at hm
            rcases List.mem_append.1 hm with hm | hm
            · simp only [List.mem_reverse, List.mem_map] at hm
              obtain ⟨j, hj, he⟩ := hm
              cases he
              obtain ⟨d, hd', _⟩ := hdst j (I.lt j (hpre' j (hon j hj).1)) (hon j hj).2
              rw [hd']
              exact I.new j d (hpre' j (hon j hj).1) hd'
            · have hL := sub_at hsub hm
              have hts : t ∈ p.slots := by rw [← hbs]; exact List.mem_map.2 ⟨_, hm, rfl⟩
              refine I.old t v hL fun k hk hdk => ?_
              rcases hsl t hts k (I.lt k hk) with (h | h) | h
              · subst h; rw [hun] at hk; cases hk
              · exact h hdk
              · have := I.cl k hk i h; rw [hun] at this; cases this
          | none =>
            rw [hc] at hv
            have hm := lk_mem hv
            simp only [List.mem_map, List.mem_range] at hm
            obtain ⟨t', ht', he⟩ := hm
            cases he
            have : t < a.tmps.size := by rw [I.sz]; exact ht'
            simp [Array.getD_eq_getD_getElem?, this]
        have hsome : ∀ t, t < n → ∃ v, lk (F ++ (List.range n).map fun t => (t, a.tmps.getD t undef)) t = some v := fun t ht => by
          rw [lk_append]
          cases lk F t with
          | some u => exact ⟨u, rfl⟩
          | none => exact ⟨_, lk_full a n t ht⟩
        have hW := (hT ((List.range n).map fun t => (t, a.tmps.getD t undef))).out a hHF (fun _ _ _ => False)
        have fin' : ∀ a' w', wpList P l.toArray (fin n (fun L' w' => if i = s then L' = F ++ (List.range n).map (fun t => (t, a.tmps.getD t undef)) ∧ T w' else ∃ u, L' = ((dstAt l i).getD 0, u) :: (F ++ (List.range n).map fun t => (t, a.tmps.getD t undef)) ∧ (if p.pure then w' = w else w.grownBy w' none) ∧ V i u w') (fun _ _ _ => False)) [] a' w' →
            wpAny P .any l.toArray (fin n N B) fuel (listed.setIfInBounds i true) a' w' := by
          intro a' w' hq
          obtain ⟨L', hL', hq⟩ := hq
          have hisz : i < listed.size := by omega
          have hset : ∀ k, (listed.setIfInBounds i true).getD k false = true → k = i ∨ listed.getD k false = true := fun k hk => by
            rw [getD_set _ _ _ hisz] at hk
            simp only [Bool.or_eq_true, decide_eq_true_eq] at hk
            exact hk.imp Eq.symm (fun h => h)
          have hset' : ∀ k, k = i ∨ listed.getD k false = true → (listed.setIfInBounds i true).getD k false = true := fun k hk => by
            rw [getD_set _ _ _ hisz]
            simp only [Bool.or_eq_true, decide_eq_true_eq]
            exact hk.imp Eq.symm (fun h => h)
          have hcount : ((listed.setIfInBounds i true).toList.filter (!·)).length = fuel := by
            have hg : listed.toList[i]? = some false := by
              simp [Array.getD_eq_getD_getElem?, hisz] at hun
              simp [hisz, hun]
            have := filter_set listed.toList i hg
            rw [Array.toList_setIfInBounds]
            omega
          have hcl : ∀ k, (listed.setIfInBounds i true).getD k false = true → ∀ j ∈ anyOn l k, (listed.setIfInBounds i true).getD j false = true := fun k hk j hj => by
            rcases hset k hk with rfl | h
            · exact hset' j (.inr (hpre' j hj))
            · exact hset' j (.inr (I.cl k h j hj))
          have hlt : ∀ k, (listed.setIfInBounds i true).getD k false = true → k < l.length := fun k hk => by
            rcases hset k hk with rfl | h
            · exact hil
            · exact I.lt k h
          by_cases e : i = s
          · rw [if_pos e] at hq
            obtain ⟨rfl, hTw⟩ := hq
            have hsame : ∀ t, t < n → a'.tmps[t]? = a.tmps[t]? := fun t ht => by
              obtain ⟨v, hv⟩ := hsome t ht
              rw [hL'.at_ t v hv, hHF.at_ t v hv]
            have hsame' : ∀ t v, a.tmps[t]? = some v → a'.tmps[t]? = some v := fun t v hv => by
              rw [hsame t (by have := (Array.getElem?_eq_some_iff.1 hv).1; rw [I.sz] at this; exact this)]; exact hv
            have hdn : dstAt l i = none := by
              cases hdd : dstAt l i with
              | none => rfl
              | some d => rw [hdd] at hd; simp [e] at hd
            refine ih _ vals a' w' (by simpa using hsz) hcount ⟨hL'.nd, hL'.sz, fun t v ht hk => hsame' t v (I.old t v ht fun k h => hk k (hset' k (.inr h))), fun k t hk ht => ?_, fun h => ?_, fun _ => hTw, fun k hk hne => ?_, hcl, hlt⟩
            · rcases hset k hk with rfl | h
              · rw [hdn] at ht; cases ht
              · exact hsame' _ _ (I.new k t h ht)
            · rw [← e, hset' i (.inl rfl)] at h; cases h
            · rcases hset k hk with rfl | h
              · exact absurd e hne
              · exact hV k _ w w' (I.vs k h hne) (.inr (by rw [← e]; exact hil))
          · rw [if_neg e] at hq
            obtain ⟨u, rfl, hww, hVu⟩ := hq
            obtain ⟨d, hdd, hdn⟩ := hdst i hil e
            rw [hdd] at hL' hd
            simp only [Option.getD_some] at hL'
            simp only [Bool.and_eq_true, List.all_eq_true, List.mem_range, Bool.or_eq_true, beq_iff_eq, bne_iff_ne, ne_eq] at hd
            have hsame' : ∀ t v, t ≠ d → a.tmps[t]? = some v → a'.tmps[t]? = some v := fun t v hne hv => by
              have ht : t < n := by have := (Array.getElem?_eq_some_iff.1 hv).1; rw [I.sz] at this; exact this
              obtain ⟨v', hv'⟩ := hsome t ht
              have h2 := hHF.at_ t v' hv'
              rw [hv] at h2; cases h2
              exact hL'.at_ t v (by rw [lk_ne (Ne.symm hne)]; exact hv')
            have hnew : a'.tmps[d]? = some u := hL'.at_ d u (lk_self _ _ _)
            have hVk : ∀ k, listed.getD k false = true → k ≠ s → V k (vals k) w' := fun k h hne => by
              by_cases hp' : p.pure = true
              · rw [if_pos hp'] at hww; subst hww; exact I.vs k h hne
              · rw [if_neg hp'] at hww; exact hV k _ w w' (I.vs k h hne) (.inl hww)
            refine ih _ (fun k => if k = i then u else vals k) a' w' (by simpa using hsz) hcount ⟨hL'.nd, hL'.sz, fun t v ht hk => ?_, fun k t hk ht => ?_, fun h => ?_, fun h => ?_, fun k hk hne => ?_, hcl, hlt⟩
            · exact hsame' t v (fun e' => hk i (hset' i (.inl rfl)) (by rw [hdd, e'])) (I.old t v ht fun k h => hk k (hset' k (.inr h)))
            · by_cases ek : k = i
              · subst ek; rw [hdd] at ht; cases ht; simpa using hnew
              · rw [if_neg ek]
                rcases hset k hk with h | h
                · exact absurd h ek
                · refine hsame' t _ (fun e' => ?_) (I.new k t h ht)
                  rcases hd.2 k (I.lt k h) with h' | h'
                  · exact ek h'
                  · exact h' (by rw [ht, e'])
            · have hs' : listed.getD s false = false := by
                cases hb : listed.getD s false with
                | false => rfl
                | true => rw [hset' s (.inr hb)] at h; cases h
              have h0 := I.wd hs'
              by_cases hp' : p.pure = true
              · rw [if_pos hp'] at hww; subst hww; exact h0
              · rw [if_neg hp'] at hww; exact ext_trans h0 hww
            · have hs' : listed.getD s false = true := by
                rcases hset s h with h' | h'
                · exact absurd h'.symm e
                · exact h'
              have hp' : p.pure = true := by
                cases hpp : p.pure with
                | true => rfl
                | false => have := hds e hpp; rw [hs'] at this; cases this
              rw [if_pos hp'] at hww; subst hww; exact I.ws hs'
            · by_cases ek : k = i
              · subst ek; simpa using hVu
              · rw [if_neg ek]
                rcases hset k hk with h | h
                · exact absurd h ek
                · exact hVk k h hne
        unfold wpOp
        rw [ho]
        simp only [wpList] at hW
        by_cases hwant : Region.wanted o (yielded l.toArray a.tmps) = true
        · rw [if_pos hwant] at hW
          simp only [hwant, if_true]
          rcases hW with hW | ⟨_, a', w', L', _, hF'⟩
          · exact .inl (oper_wp_mono fin' (fun e a w hne h => by cases e <;> first | exact absurd rfl hne | (obtain ⟨_, _, h⟩ := h; exact h.elim)) hW)
          · exact hF'.elim
        · rw [if_neg hwant] at hW
          simp only [hwant, if_false, Bool.false_eq_true]
          exact fin' _ _ hW
  refine key _ _ (fun _ => undef) a _ (by simp) (by simp) ?_
  exact {
    nd := ha.nd, sz := ha.sz
    old := fun t v h _ => ha.at_ t v h
    new := fun k t h => by rw [getD_rep] at h; cases h
    wd := fun _ => ⟨rfl, rfl, rfl, Nat.le_refl _, fun _ _ _ => rfl⟩
    ws := fun h => by rw [getD_rep] at h; cases h
    vs := fun k h => by rw [getD_rep] at h; cases h
    cl := fun k h => by rw [getD_rep] at h; cases h
    lt := fun k h => by rw [getD_rep] at h; cases h }
end Go.Proofs.Ythfpcebcfjlkmab
