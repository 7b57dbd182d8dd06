/- Contracts of functions of the program, and what they lean on: Draw6, D10, D11, P2, P3, P4, P5, P6, Q1. -/
import Derived.Test.YtaipfkmlgdmjbaaFactorOrderG6
set_option linter.unusedSimpArgs false
set_option linter.unusedVariables false
namespace Go.Proofs.Ytaipfkmlgdmjbaa
open Go.RowKit
/-! ### regions that draw their order, where some operations may come late -/
def subs : List Nat → List (List Nat)
  | [] => [[]]
  | x :: l => subs l ++ (subs l).map (x :: ·)
theorem subs_filter (p : Nat → Bool) : ∀ l : List Nat, l.filter p ∈ subs l
  | [] => by simp [subs]
  | x :: l => by
    have ih := subs_filter p l
    rw [List.filter_cons]
    cases h : p x
    · simp only [Bool.false_eq_true, if_false]; exact List.mem_append_left _ ih
    · simp only [if_true]; exact List.mem_append_right _ (List.mem_map.2 ⟨_, ih, rfl⟩)
def tailG (n : Nat) (l : List Oper) (ps : List Plan) (m : Nat) (fs : List Nat) : Bool :=
  ps.length == m && Nat.ble m l.length && (List.range l.length).all (fun i => (anyOn l i).all (fun j => Nat.blt j i)) &&
    (List.range l.length).all (fun i => Nat.blt i m || (List.range m).all (fun j => fs.contains j || (reach l 6 (anyOn l i)).contains j)) && (List.range m).all fun i =>
    (match ps[i]? with
     | none => false
     | some p => p.on.all (fun j => (anyOn l i).contains j) && p.slots.all (fun t => (List.range m).all fun k => k == i || dstAt l k != some t || (anyOn l k).contains i)) &&
    (match dstAt l i with
     | none => false
     | some d => Nat.blt d n && (List.range m).all fun k => k == i || dstAt l k != some d)
theorem W.drawXG {P : Program} {n id : Nat} {ro : Option Nat} {df : List Deferred} {l : List Oper} {N : Post} {B : BPost} {L : Fr} {w0 : World} (m : Nat) (fs : List Nat) (al : Nat → Bool) (cp : Nat → Option Nat) (ps : List Plan) (bs : List Fr) (V : Nat → Value → World → Prop)
    (hm : P.follows .mixedOrders = true) (hB : tailG n l ps m fs = true)
    (hV : ∀ j v w1 w2, V j v w1 → w1.grownBy w2 none → V j v w2)
    (hcp : (List.range m).all (fun i => match cp i with | none => true | some j => (anyOn l i).contains j) = true)
    (hobs : obsA P n ro df l al cp V w0 L 0 (l.take m) ps bs)
    (hN2 : ∀ X ∈ subs fs, ∀ (vals : Nat → Value) w', w0.grownBy w' none → (∀ i, i < m → X.contains i = false → V i (vals i) w') → (∀ j k, j ≠ k → j < m → k < m → X.contains j = false → X.contains k = false → al j = true → al k = true → ∀ g, vb (vals j) = some g → vb (vals k) ≠ some g) → (∀ i j, i < m → X.contains i = false → cp i = some j → vals i = vals j) → ∀ q, q = (((List.range l.length).map fun k => Nat.blt k m && !(X.contains k)).filter (!·)).length →
      WA P n ro df l N q ((List.range l.length).map fun k => Nat.blt k m && !(X.contains k)) ((((List.range m).filterMap fun i => if X.contains i = true then none else (dstAt l i).map fun t => (t, vals i))) ++ L) w') : W P n ro df (.region id l.toArray true) N B L w0 := by
  simp only [tailG, Bool.and_eq_true, Bool.or_eq_true, List.all_eq_true, List.mem_range, beq_iff_eq, List.contains_iff_mem] at hB
  obtain ⟨⟨⟨⟨hlen, hlm0⟩, hlt0⟩, htail⟩, hB⟩ := hB
  have hlm : m ≤ l.length := by simpa [Nat.ble_eq] using hlm0
  refine ⟨fun a ha => wpIn_mono (Q := finE n df N B) (wpIn_region_any hm ?_) fin_of_finE⟩
  have hon_lt : ∀ k, k < l.length → ∀ j ∈ anyOn l k, j < k := fun k hk j hj => by simpa [Nat.blt_eq] using hlt0 k hk j hj
  have fin0 : ∀ (c : Nat) (listed : Array Bool) (vals : Nat → Value) (a : Act) (w : World), listed.size = l.length → (listed.toList.filter (!·)).length = c → (∀ k, listed.getD k false = true → k < m) →
      DInv n df l ps V (fun _ => True) w0 L (l.length + 1) (fun k => listed.getD k false) vals a w → Ap al cp (fun k => listed.getD k false) vals w → (∀ k, k < m → k ∉ fs → listed.getD k false = true) → wpAnyIn (wideR ro) 0 P .any l.toArray (finE n df N B) c listed a w := by
    intro c listed vals a w hsz hf hnm I hap hcase
    have hXm : ∀ k, k < m → (fs.filter fun k => !listed.getD k false).contains k = !listed.getD k false := fun k hk => by
      cases hb : listed.getD k false with
      | true =>
        cases hc : (fs.filter fun k => !listed.getD k false).contains k with
        | false => rfl
        | true => rw [List.contains_iff_mem, List.mem_filter, hb] at hc; exact absurd hc.2 (by decide)
      | false =>
        show _ = true
        rw [List.contains_iff_mem, List.mem_filter, hb]
        refine ⟨Classical.byContradiction fun h => ?_, rfl⟩
        have := hcase k hk h; rw [hb] at this; cases this
    have hXs := subs_filter (fun k => !listed.getD k false) fs
    generalize hXe : (fs.filter fun k => !listed.getD k false) = X at hXm hXs
    have hX : listed = ((List.range l.length).map fun k => Nat.blt k m && !(X.contains k)).toArray := by
      apply Array.ext
      · simp [hsz]
      · intro k h1 h2
        have hk : k < l.length := by omega
        have hv : listed.getD k false = listed[k] := by simp [Array.getD_eq_getD_getElem?, h1]
        rw [← hv]
        simp only [List.getElem_toArray, List.getElem_map, List.getElem_range]
        rcases Nat.lt_or_ge k m with h | h
        · rw [hXm k h, Bool.not_not]
          have : Nat.blt k m = true := by rw [Nat.blt_eq]; exact h
          rw [this]; rfl
        · have hb : listed.getD k false = false := by
            cases hb : listed.getD k false with
            | false => rfl
            | true => have := hnm k hb; omega
          have : Nat.blt k m = false := by
            cases hc : Nat.blt k m with
            | false => rfl
            | true => rw [Nat.blt_eq] at hc; omega
          rw [hb, this]; rfl
    have hlk : ∀ k, k < m → X.contains k = false → listed.getD k false = true := fun k hk h => by
      have := hXm k hk; rw [h] at this
      cases hb : listed.getD k false with
      | true => rfl
      | false => rw [hb] at this; cases this
    have hw := I.wd (by simp [Array.getD_eq_getD_getElem?, show ¬ l.length + 1 < listed.size by omega])
    have hvs : ∀ j, j < m → X.contains j = false → V j (vals j) w := fun j hj hne => I.vs j (hlk j hj hne) (by omega)
    have hW := hN2 X hXs vals w hw hvs (fun j k hjk hj hk hjf hkf h1 h2 => hap.ap j k hjk (hlk j hj hjf) (hlk k hk hkf) h1 h2) (fun i j hi hif h => hap.cp_ i j (hlk i hi hif) h) c (by rw [← @List.toList_toArray _ ((List.range l.length).map fun k => Nat.blt k m && !(X.contains k)), ← hX]; omega)
    have hHas : Has n df a ((((List.range m).filterMap fun i => if X.contains i = true then none else (dstAt l i).map fun t => (t, vals i))) ++ L) := by
      refine ⟨I.nd, I.sz, fun t v hv => ?_⟩
      rw [lk_append] at hv
      cases hc : lk ((List.range m).filterMap fun i => if X.contains i = true then none else (dstAt l i).map fun t => (t, vals i)) t with
      | some u =>
        rw [hc] at hv
        cases hv
        have := lk_mem hc
        simp only [List.mem_filterMap, List.mem_range] at this
        obtain ⟨k, hk, he⟩ := this
        cases hkf : X.contains k with
        | true => rw [if_pos hkf] at he; cases he
        | false =>
          rw [if_neg (by rw [hkf]; decide)] at he
          simp only [Option.map_eq_some_iff] at he
          obtain ⟨t', ht', he⟩ := he
          cases he
          exact I.new k t (hlk k hk hkf) ht'
      | none =>
        rw [hc] at hv
        refine I.old t v hv fun k hk hd => ?_
        have hkm := hnm k hk
        have hkf : X.contains k = false := by rw [hXm k hkm, hk]; rfl
        have hm2 : (t, vals k) ∈ (List.range m).filterMap fun i => if X.contains i = true then none else (dstAt l i).map fun t => (t, vals i) := by
          simp only [List.mem_filterMap, List.mem_range]
          exact ⟨k, hkm, by rw [if_neg (by rw [hkf]; decide)]; simp [hd]⟩
        obtain ⟨u, hu⟩ := lk_of_mem hm2
        rw [hc] at hu; cases hu
    rw [hX]
    exact hW.out a hHas B
  have key : ∀ (fuel : Nat) (listed : Array Bool) (vals : Nat → Value) (a : Act) (w : World), listed.size = l.length → (listed.toList.filter (!·)).length = fuel + (l.length - m) → (∀ k, listed.getD k false = true → k < m) →
      DInv n df l ps V (fun _ => True) w0 L (l.length + 1) (fun k => listed.getD k false) vals a w → Ap al cp (fun k => listed.getD k false) vals w → wpAnyIn (wideR ro) 0 P .any l.toArray (finE n df N B) (fuel + (l.length - m)) listed a w := by
    intro fuel
    induction fuel with
    | zero =>
      intro listed vals a w hsz hf hnm I hap
      have hall : ∀ k, k < m → listed.getD k false = true := fun k hk => by
        cases hb : listed.getD k false with
        | true => rfl
        | false =>
          exfalso
          have hcnt : ∀ (x : List Bool) (m : Nat), m ≤ x.length → (∀ j, m ≤ j → j < x.length → x[j]? = some false) → (x.length - m) + ((x.take m).filter (!·)).length = (x.filter (!·)).length := by
            intro x m hmx hfalse
            have h1 : x = x.take m ++ x.drop m := (List.take_append_drop m x).symm
            have h2 : (x.drop m).filter (!·) = x.drop m := by
              rw [List.filter_eq_self]
              intro b hb
              obtain ⟨j, hj, rfl⟩ := List.mem_iff_getElem.1 hb
              have := hfalse (m + j) (by omega) (by simp at hj; omega)
              rw [List.getElem_drop]
              rw [List.getElem?_eq_getElem (by simp at hj; omega)] at this
              simpa using this
            conv => rhs; rw [h1]
            rw [List.filter_append, List.length_append, h2, List.length_drop]
            omega
          have hx := hcnt listed.toList m (by simp; omega) (fun j h1 h2 => by
            have hj : j < listed.size := by simpa using h2
            cases hbj : listed.getD j false with
            | true => have := hnm j hbj; omega
            | false =>
              simp [Array.getD_eq_getD_getElem?, hj] at hbj
              simp [hj, hbj])
          have hsz2 : listed.toList.length = l.length := by simpa using hsz
          have hzero : ((listed.toList.take m).filter (!·)).length = 0 := by omega
          have hz := filter_zero hzero k (by simp; omega)
          rw [List.getElem?_take, if_pos hk] at hz
          have hk2 : k < listed.size := by omega
          simp [Array.getD_eq_getD_getElem?, hk2] at hb
          simp [hk2, hb] at hz
      exact fin0 _ listed vals a w hsz hf hnm I hap (fun k hk _ => hall k hk)
    | succ fuel ih =>
      intro listed vals a w hsz hf hnm I hap
      rw [show fuel + 1 + (l.length - m) = (fuel + (l.length - m)) + 1 by omega] at hf ⊢
      have hlist : ∀ k, listed.getD k true = false → k < l.length ∧ listed.getD k false = false := fun k hk => by
        rcases Nat.lt_or_ge k listed.size with h | h
        · simp [Array.getD_eq_getD_getElem?, h] at hk ⊢
          exact ⟨by omega, hk⟩
        · simp [Array.getD_eq_getD_getElem?, Array.getElem?_eq_none h] at hk
      by_cases hcase : ∀ k, k < m → k ∉ fs → listed.getD k false = true
      · exact fin0 _ listed vals a w hsz hf hnm I hap hcase
      · refine ⟨?_, ?_⟩
        · intro hr
          -- the first that has not come up yet is ready
          exfalso
          have hex : ∃ k, k < l.length ∧ listed.getD k false = false := by
            by_cases hc : ∃ k, k < l.length ∧ listed.getD k false = false
            · exact hc
            · have hfe : listed.toList.filter (!·) = [] := by
                rw [List.filter_eq_nil_iff]
                intro b hb
                obtain ⟨k, hk, rfl⟩ := List.mem_iff_getElem.1 hb
                have hk' : k < listed.size := by simpa using hk
                have : ¬ listed.getD k false = false := fun h => hc ⟨k, by omega, h⟩
                simp [Array.getD_eq_getD_getElem?, hk'] at this
                simp [this]
              rw [hfe] at hf; simp at hf
          have hmin : ∀ m, (∃ k, k ≤ m ∧ k < l.length ∧ listed.getD k false = false) → ∃ k, k < l.length ∧ listed.getD k false = false ∧ ∀ j, j < k → listed.getD j false = true := by
            intro m
            induction m with
            | zero => rintro ⟨k, hk, h1, h2⟩; exact ⟨k, h1, h2, fun j hj => by omega⟩
            | succ m ihm =>
              rintro ⟨k, hk, h1, h2⟩
              by_cases hc : ∃ j, j ≤ m ∧ j < l.length ∧ listed.getD j false = false
              · exact ihm hc
              · refine ⟨k, h1, h2, fun j hj => ?_⟩
                cases hb : listed.getD j false with
                | true => rfl
                | false => exact absurd ⟨j, by omega, by omega, hb⟩ hc
          obtain ⟨k0, hk0, hk0'⟩ := hex
          obtain ⟨k, h1, h2, h3⟩ := hmin k0 ⟨k0, Nat.le_refl _, hk0, hk0'⟩
          have hin : k ∈ Region.ready .any l.toArray listed := by
            refine mem_ready.2 ⟨?_, l[k], by simp [h1], fun e he hb => ?_⟩
            · have : k < listed.size := by omega
              simp [Array.getD_eq_getD_getElem?, this] at h2 ⊢
              exact h2
            · have hon : e.on ∈ anyOn l k := by
                simp only [anyOn, List.getElem?_eq_getElem h1, List.mem_map, List.mem_filter]
                exact ⟨e, ⟨by simpa using he, hb⟩, rfl⟩
              exact h3 e.on (hon_lt k h1 _ hon)
          rw [hr] at hin; cases hin
        · intro i hi
          obtain ⟨h1, o, ho, hpre⟩ := mem_ready.1 hi
          obtain ⟨hil0, hun⟩ := hlist i h1
          have ho' : l[i]? = some o := by simpa using ho
          have hpre' : ∀ j ∈ anyOn l i, listed.getD j false = true := fun j hj => by
            simp only [anyOn, ho', List.mem_map, List.mem_filter] at hj
            obtain ⟨e, ⟨he, hb⟩, rfl⟩ := hj
            exact hpre e (by simpa using he) hb
          have hil : i < m := by
            rcases Nat.lt_or_ge i m with h | h
            · exact h
            · exfalso
              refine hcase fun k hk hkf => ?_
              rcases htail i hil0 with h2 | h2
              · simp [Nat.blt_eq] at h2; omega
              · rcases h2 k hk with h3 | h3
                · exact absurd h3 hkf
                · exact reach_all (p := fun k => listed.getD k false = true) I.cl 6 (anyOn l i) hpre' k h3
          obtain ⟨hp, hd⟩ := hB i hil
          have hpi : i < ps.length := by omega
          rw [List.getElem?_eq_getElem hpi] at hp
          generalize hpe : ps[i] = p at hp
          simp only [Bool.and_eq_true, List.all_eq_true, Bool.or_eq_true, List.mem_range, beq_iff_eq, bne_iff_ne, ne_eq, List.contains_iff_mem] at hp
          obtain ⟨hon, hsl⟩ := hp
          obtain ⟨b, hbs, hsub, hob⟩ := obsA_at (l.take m) ps bs 0 hobs i o p (by rw [List.getElem?_take, if_pos hil]; exact ho') (by rw [List.getElem?_eq_getElem hpi, hpe])
          rw [Nat.zero_add] at hob
          have hw0 : p.pure = false → w0.grownBy w none := fun _ => I.wd (by
            cases hb : listed.getD (l.length + 1) false with
            | false => rfl
            | true => have := I.lt _ hb; omega)
          have hT := told_at vals p.on b (hob w hw0) (fun j hj => I.vs j (hpre' j (hon j hj)) (by have := hon_lt i hil0 j (hon j hj); omega))
          generalize hF : (List.map (fun j => ((dstAt l j).getD 0, vals j)) p.on).reverse ++ b = F at hT
          have hdst : ∀ j, j < m → ∃ d, dstAt l j = some d ∧ d < n := fun j hj => by
            have := (hB j hj).2
            cases hd : dstAt l j with
            | none => rw [hd] at this; simp at this
            | some d => rw [hd] at this; simp only [Bool.and_eq_true] at this; exact ⟨d, rfl, by simpa [Nat.blt_eq] using this.1⟩
          have hHF : Has n df a (F ++ (List.range n).map fun t => (t, a.tmps.getD t undef)) := by
            refine ⟨I.nd, I.sz, fun t v hv => ?_⟩
            rw [lk_append] at hv
            cases hc : lk F t with
            | some u =>
              rw [hc] at hv; cases hv
              have hm := lk_mem hc
              rw [← hF] at hm
              rcases List.mem_append.1 hm with hm | hm
              · simp only [List.mem_reverse, List.mem_map] at hm
                obtain ⟨j, hj, he⟩ := hm
                cases he
                obtain ⟨d, hd', _⟩ := hdst j (hnm j (hpre' j (hon j hj)))
                rw [hd']
                exact I.new j d (hpre' j (hon j hj)) hd'
              · have hL := sub_at hsub hm
                have hts : t ∈ p.slots := by rw [← hbs]; exact List.mem_map.2 ⟨_, hm, rfl⟩
                refine I.old t v hL fun k hk hdk => ?_
                rcases hsl t hts k (hnm k hk) with (h | h) | h
                · subst h; rw [hun] at hk; cases hk
                · exact h hdk
                · have := I.cl k hk i h; rw [hun] at this; cases this
            | none =>
              rw [hc] at hv
              have hm := lk_mem hv
              simp only [List.mem_map, List.mem_range] at hm
              obtain ⟨t', ht', he⟩ := hm
              cases he
              have : t < a.tmps.size := by rw [I.sz]; exact ht'
              simp [Array.getD_eq_getD_getElem?, this]
          have hW := (hT ((List.range n).map fun t => (t, a.tmps.getD t undef))).out a hHF (fun _ _ _ _ => False)
          have fin' : ∀ a' w', wpListIn (wideR ro) 0 P l.toArray (finE n df (fun _ L' w' => ∃ u, L' = ((dstAt l i).getD 0, u) :: (F ++ (List.range n).map fun t => (t, a.tmps.getD t undef)) ∧ (if p.pure then w' = w else w.grownBy w' none) ∧ V i u w' ∧ (al i = true → ∀ g, vb u = some g → w.heap.size ≤ g ∧ g < w'.heap.size) ∧ (∀ j, cp i = some j → lk (F ++ (List.range n).map fun t => (t, a.tmps.getD t undef)) ((dstAt l j).getD 0) = some u)) (fun _ _ _ _ => False)) [] a' w' →
              wpAnyIn (wideR ro) 0 P .any l.toArray (finE n df N B) (fuel + (l.length - m)) (listed.setIfInBounds i true) a' w' := by
            intro a' w' hq
            obtain ⟨L', hL', hq⟩ := hq
            have hisz : i < listed.size := by omega
            have hset : ∀ k, (listed.setIfInBounds i true).getD k false = true → k = i ∨ listed.getD k false = true := fun k hk => by
              rw [getD_set _ _ _ hisz] at hk
              simp only [Bool.or_eq_true, decide_eq_true_eq] at hk
              exact hk.imp Eq.symm (fun h => h)
            have hset' : ∀ k, k = i ∨ listed.getD k false = true → (listed.setIfInBounds i true).getD k false = true := fun k hk => by
              rw [getD_set _ _ _ hisz]
              simp only [Bool.or_eq_true, decide_eq_true_eq]
              exact hk.imp Eq.symm (fun h => h)
            have hcount : ((listed.setIfInBounds i true).toList.filter (!·)).length = fuel + (l.length - m) := by
              have hg : listed.toList[i]? = some false := by
                simp [Array.getD_eq_getD_getElem?, hisz] at hun
                simp [hisz, hun]
              have := filter_set listed.toList i hg
              rw [Array.toList_setIfInBounds]
              omega
            have hm0' : ∀ k, (listed.setIfInBounds i true).getD k false = true → k < m := fun k hk => by
              rcases hset k hk with rfl | h
              · exact hil
              · exact hnm k h
            have hcl : ∀ k, (listed.setIfInBounds i true).getD k false = true → ∀ j ∈ anyOn l k, (listed.setIfInBounds i true).getD j false = true := fun k hk j hj => by
              rcases hset k hk with rfl | h
              · exact hset' j (.inr (hpre' j hj))
              · exact hset' j (.inr (I.cl k h j hj))
            have hlt : ∀ k, (listed.setIfInBounds i true).getD k false = true → k < l.length := fun k hk => by
              rcases hset k hk with rfl | h
              · exact hil0
              · exact I.lt k h
            have hsome : ∀ t, t < n → ∃ v, lk (F ++ (List.range n).map fun t => (t, a.tmps.getD t undef)) t = some v := fun t ht => by
              rw [lk_append]
              cases lk F t with
              | some u => exact ⟨u, rfl⟩
              | none => exact ⟨_, lk_full a n t ht⟩
            obtain ⟨u, rfl, hww, hVu, hfr, hcu⟩ := hq
            obtain ⟨d, hdd, hdn⟩ := hdst i hil
            rw [hdd] at hL' hd
            simp only [Option.getD_some] at hL'
            simp only [Bool.and_eq_true, List.all_eq_true, List.mem_range, Bool.or_eq_true, beq_iff_eq, bne_iff_ne, ne_eq] at hd
            have hsame' : ∀ t v, t ≠ d → a.tmps[t]? = some v → a'.tmps[t]? = some v := fun t v hne hv => by
              have ht : t < n := by have := (Array.getElem?_eq_some_iff.1 hv).1; rw [I.sz] at this; exact this
              obtain ⟨v', hv'⟩ := hsome t ht
              have h2 := hHF.at_ t v' hv'
              rw [hv] at h2; cases h2
              exact hL'.at_ t v (by rw [lk_ne (Ne.symm hne)]; exact hv')
            have hnew : a'.tmps[d]? = some u := hL'.at_ d u (lk_self _ _ _)
            have hgw : w.grownBy w' none := by
              by_cases hp' : p.pure = true
              · rw [if_pos hp'] at hww; subst hww; exact ext_refl _
              · rw [if_neg hp'] at hww; exact hww
            have hVk : ∀ k, listed.getD k false = true → k ≠ l.length + 1 → V k (vals k) w' := fun k h hne => hV k _ w w' (I.vs k h hne) hgw
            refine ih _ (fun k => if k = i then u else vals k) a' w' (by simpa using hsz) hcount hm0' ⟨hL'.nd, hL'.sz, fun t v ht hk => ?_, fun k t hk ht => ?_, fun h => ?_, fun h => trivial, fun k hk hne => ?_, hcl, hlt⟩ ⟨fun k hk ha g hg => ?_, fun j k hjk hj hk ha1 ha2 g hg => ?_, fun x y hx hc => ?_⟩
            · exact hsame' t v (fun e' => hk i (hset' i (.inl rfl)) (by rw [hdd, e'])) (I.old t v ht fun k h => hk k (hset' k (.inr h)))
            · by_cases ek : k = i
              · subst ek; rw [hdd] at ht; cases ht; simpa using hnew
              · rw [if_neg ek]
                rcases hset k hk with h | h
                · exact absurd h ek
                · refine hsame' t _ (fun e' => ?_) (I.new k t h ht)
                  rcases hd.2 k (hnm k h) with h' | h'
                  · exact ek h'
                  · exact h' (by rw [ht, e'])
            · refine ext_trans (I.wd ?_) hgw
              cases hb : listed.getD (l.length + 1) false with
              | false => rfl
              | true => have := I.lt _ hb; omega
            · by_cases ek : k = i
              · subst ek; simpa using hVu
              · rw [if_neg ek]
                rcases hset k hk with h | h
                · exact absurd h ek
                · exact hVk k h hne
            · by_cases ek : k = i
              · subst ek; rw [if_pos rfl] at hg; exact (hfr ha g hg).2
              · rw [if_neg ek] at hg
                exact Nat.lt_of_lt_of_le (hap.lt k ((hset k hk).resolve_left ek) ha g hg) hgw.size
            · by_cases ej : j = i
              · subst ej
                rw [if_pos rfl] at hg; rw [if_neg (Ne.symm hjk)]
                have h3 := (hfr ha1 g hg).1
                intro h4
                have := hap.lt k ((hset k hk).resolve_left (Ne.symm hjk)) ha2 g h4; omega
              · rw [if_neg ej] at hg
                have hj' := (hset j hj).resolve_left ej
                by_cases ek : k = i
                · subst ek
                  rw [if_pos rfl]
                  intro h4
                  have h3 := (hfr ha2 g h4).1
                  have := hap.lt j hj' ha1 g hg; omega
                · rw [if_neg ek]
                  exact hap.ap j k hjk hj' ((hset k hk).resolve_left ek) ha1 ha2 g hg
            · by_cases ex : x = i
              · subst ex
                have h1 := hcu y hc
                have hym : y ∈ anyOn l x := by
                  have := List.all_eq_true.1 hcp x (List.mem_range.2 hil)
                  rw [hc] at this
                  simpa using this
                have hyd := hpre' y hym
                obtain ⟨dy, hdy, _⟩ := hdst y (hnm y hyd)
                rw [hdy] at h1
                have h2 := hHF.at_ _ _ h1
                have h3 := I.new y dy hyd hdy
                simp only [Option.getD_some] at h2
                rw [h3] at h2
                have hyx : y ≠ x := fun e => by rw [e, hun] at hyd; cases hyd
                rw [if_pos rfl, if_neg hyx]
                exact (Option.some.inj h2).symm
              · have hx' := (hset x hx).resolve_left ex
                have h1 := hap.cp_ x y hx' hc
                have hym : y ∈ anyOn l x := by
                  have := List.all_eq_true.1 hcp x (List.mem_range.2 (hnm x hx'))
                  rw [hc] at this
                  simpa using this
                have hyd := I.cl x hx' y hym
                have hyi : y ≠ i := fun e => by rw [e, hun] at hyd; cases hyd
                rw [if_neg ex, if_neg hyi]; exact h1
          unfold wpOpIn
          rw [ho]
          simp only [wpListIn] at hW
          by_cases hwant : Region.wanted o (yielded l.toArray a.tmps) = true
          · rw [if_pos hwant] at hW
            simp only [hwant, if_true]
            exact (oper_wp_mono fin' (fun e a w hne h => by cases e <;> first | exact absurd rfl hne | (obtain ⟨_, _, _, h⟩ := h; exact h.elim)) hW)
          · rw [if_neg hwant] at hW
            simp only [hwant, if_false, Bool.false_eq_true]
            exact ⟨fun _ _ => trivial, fin' _ _ hW.2⟩
  have hsz0 : ((Array.replicate l.toArray.size false).toList.filter (!·)).length = m + (l.length - m) := by simp; omega
  have := key m (Array.replicate l.toArray.size false) (fun _ => undef) a { w0 with drawn := w0.drawn + 1 } (by simp) hsz0 (fun k h => by rw [getD_rep] at h; cases h) {
    nd := ha.nd, sz := ha.sz
    old := fun t v h _ => ha.at_ t v h
    new := fun k t h => by rw [getD_rep] at h; cases h
    wd := fun _ => ⟨rfl, rfl, rfl, Nat.le_refl _, fun _ _ _ => rfl⟩
    ws := fun h => trivial
    vs := fun k h => by rw [getD_rep] at h; cases h
    cl := fun k h => by rw [getD_rep] at h; cases h
    lt := fun k h => by rw [getD_rep] at h; cases h } (Ap.mk (fun k h => by rw [getD_rep] at h; cases h) (fun j k _ h => by rw [getD_rep] at h; cases h) (fun i j h => by rw [getD_rep] at h; cases h))
  rw [show m + (l.length - m) = l.toArray.size by simp; omega] at this
  exact this
end Go.Proofs.Ytaipfkmlgdmjbaa
set_option linter.unusedSimpArgs false
set_option linter.unusedVariables false
namespace Go.Proofs.Ytaipfkmlgdmjbaa
open Go.RowKit
def V_reverseL (s : List Int) (Q : List Int → Prop) : Prop :=
  (I64 (((s.length : Nat) : Int) - (1 : Int))) ∧ (∃ (I21 : List Int → Int → Int → Prop) (μ22 : List Int → Int → Int → Nat), I21 s (0 : Int) (((s.length : Nat) : Int) - (1 : Int)) ∧ ∀ (x18 : List Int) (z19 : Int) (z20 : Int), (I21 x18 z19 z20 → (((z19 < z20) → (∃ J25 : Prop, ((0 ≤ z20 ∧ z20 < (s.length : Nat)) ∧ ((0 ≤ z19 ∧ z19 < (s.length : Nat)) ∧ ((0 ≤ z19 ∧ z19 < (s.length : Nat)) ∧ ((0 ≤ z20 ∧ z20 < (s.length : Nat)) ∧ J25)))) ∧ (J25 → ((I64 (z19 + (1 : Int))) ∧ ((I64 (z20 - (1 : Int))) ∧ (I21 (si (si x18 z19 (gi x18 z20)) z20 (gi x18 z19)) (z19 + (1 : Int)) (z20 - (1 : Int)) ∧ μ22 (si (si x18 z19 (gi x18 z20)) z20 (gi x18 z19)) (z19 + (1 : Int)) (z20 - (1 : Int)) < μ22 x18 z19 z20)))))) ∧ (¬ (z19 < z20) → Q x18))))
theorem ok_reverseL {w : World} {Q : List Int → Prop} {s : List Int} {As : Option Addr} {ns ks : Nat} (hs : Own 0 w 3 1 As ns ks (is s)) (hv : V_reverseL s Q) :
    Calls Try.prog 40 #[.slice As ns ks] w fun e w' => ∃ v cs', e = .returned v ∧ w.grownBy w' (bl As) ∧ Own 0 w' 3 1 As ns ks cs' ∧ ∃ x : List Int, v = .tuple #[] ∧ cs' = is x ∧ Q x := by
  have hns := hs.rd.ilen
  subst hns
  refine calls_swapM ?_
  refine calls_of_W (vs := [.slice As s.length ks]) [] Try.func40 rfl rfl rfl rfl ?_
  have hS := St.startM hs
  unfold V_reverseL at hv
  refine W.seq ?_
  refine W.region ?_
  refine WL.move rfl rfl ?_
  refine WL.len Try.underlying22 rfl rfl ?_
  obtain ⟨o11, hv⟩ := hv
  refine WL.sub (r := (((s.length : Nat) : Int) - (1 : Int))) rfl rfl (wr o11) rfl ?_
  refine WL.assign rfl rfl ?_
  refine WL.assign rfl rfl ?_
  refine WL.done ?_
  refine W.block ?_
  obtain ⟨I21, μ22, hv, hk50⟩ := hv
  change St _ _ _ _ [.row 3 1 As s.length ks (is s)] at hS
  refine W.loop (σ := List Int × Int × Int) (fun q w1 => match q with | (x18, z19, z20) => I21 x18 z19 z20 ∧ St TT w (bl As) w1 [.row 3 1 As s.length ks (is x18)]) (fun q => match q with | (x18, z19, z20) => [(0, .slice As s.length ks), (2, .int .i64 z19), (3, .int .i64 z20)]) (fun q => match q with | (x18, z19, z20) => μ22 x18 z19 z20) (s, (0 : Int), (((s.length : Nat) : Int) - (1 : Int))) ⟨hv, hS⟩ ⟨rfl, rfl, rfl, trivial⟩ ?_
  rintro ⟨x18, z19, z20⟩ w23 ⟨hv, hS⟩
  have hv := hk50 x18 z19 z20 hv
  refine W.seq ?_
  refine W.seq ?_
  refine W.region ?_
  refine WL.move rfl rfl ?_
  refine WL.move rfl rfl ?_
  refine WL.lssD rfl rfl rfl ?_
  refine WL.done ?_
  refine W.cond2 rfl (fun c24 => ?_) (fun c24 => ?_)
  · have hv := hv.1 (of_decide_eq_true c24)
    refine W.skip ?_
    refine W.seq ?_
    obtain ⟨J25, hv, hk49⟩ := hv
    refine W.cutN (σ := Unit) (fun _ w1 => J25 ∧ St TT w (bl As) w1 [.row 3 1 As s.length ks (is (si (si x18 z19 (gi x18 z20)) z20 (gi x18 z19)))]) (fun _ => [(0, .slice As s.length ks), (2, .int .i64 z19), (3, .int .i64 z20), (9, .bool (decide (z19 < z20)))]) ?_ ?_
    · refine W.block ?_
      obtain ⟨o33, hv⟩ := hv
      obtain ⟨o38, hv⟩ := hv
      obtain ⟨o41, hv⟩ := hv
      have hS0 := hS
      refine W.drawXG 13 [2, 3] (fun _ => false) (fun _ => none) [⟨[], [0], true⟩, ⟨[], [2], true⟩, ⟨[], [0], true⟩, ⟨[], [3], true⟩, ⟨[], [0], true⟩, ⟨[], [3], true⟩, ⟨[4, 5], [], true⟩, ⟨[6], [], false⟩, ⟨[], [0], true⟩, ⟨[], [2], true⟩, ⟨[8, 9], [], true⟩, ⟨[10], [], false⟩, ⟨[0, 1], [], true⟩] [[(0, .slice As s.length ks)], [(2, .int .i64 z19)], [(0, .slice As s.length ks)], [(3, .int .i64 z20)], [(0, .slice As s.length ks)], [(3, .int .i64 z20)], [], [], [(0, .slice As s.length ks)], [(2, .int .i64 z19)], [], [], []] (fun iQ => [fun v _ => v = .slice As s.length ks, fun v _ => v = .int .i64 z19, fun v _ => v = .slice As s.length ks, fun v _ => v = .int .i64 z20, fun v _ => v = .slice As s.length ks, fun v _ => v = .int .i64 z20, fun v _ => v = .pointer (some ((adOf As).add z20.toNat)), fun v _ => v = .int .i64 (gi x18 z20), fun v _ => v = .slice As s.length ks, fun v _ => v = .int .i64 z19, fun v _ => v = .pointer (some ((adOf As).add z19.toNat)), fun v _ => v = .int .i64 (gi x18 z19), fun v _ => v = .pointer (some ((adOf As).add z19.toNat))].getD iQ (fun _ _ => True)) Try.mixed (by kernel_rfl) ?_ (by kernel_rfl) ?_ ?_
      · refine Vs_monoT _ ?_
        intro VQ hVQ vQ wQ1 wQ2 hQ1 hQ2
        simp only [List.mem_cons, List.not_mem_nil, or_false] at hVQ
        rcases hVQ with rfl | rfl | rfl | rfl | rfl | rfl | rfl | rfl | rfl | rfl | rfl | rfl | rfl
        · exact hQ1
        · exact hQ1
        · exact hQ1
        · exact hQ1
        · exact hQ1
        · exact hQ1
        · exact hQ1
        · exact hQ1
        · exact hQ1
        · exact hQ1
        · exact hQ1
        · exact hQ1
        · exact hQ1
      · refine ⟨⟨rfl, ⟨rfl, trivial⟩, ?_⟩, ⟨rfl, ⟨rfl, trivial⟩, ?_⟩, ⟨rfl, ⟨rfl, trivial⟩, ?_⟩, ⟨rfl, ⟨rfl, trivial⟩, ?_⟩, ⟨rfl, ⟨rfl, trivial⟩, ?_⟩, ⟨rfl, ⟨rfl, trivial⟩, ?_⟩, ⟨rfl, trivial, ?_⟩, ⟨rfl, trivial, ?_⟩, ⟨rfl, ⟨rfl, trivial⟩, ?_⟩, ⟨rfl, ⟨rfl, trivial⟩, ?_⟩, ⟨rfl, trivial, ?_⟩, ⟨rfl, trivial, ?_⟩, ⟨rfl, trivial, ?_⟩, trivial⟩
        · intro w26 hE
          intro RR
          refine WL.move rfl rfl ?_
          exact WL.done ⟨_, rfl, rfl, rfl, (fun h => absurd h (by decide)), (fun j h => by cases h)⟩
        · intro w27 hE
          intro RR
          refine WL.move rfl rfl ?_
          exact WL.done ⟨_, rfl, rfl, rfl, (fun h => absurd h (by decide)), (fun j h => by cases h)⟩
        · intro w28 hE
          intro RR
          refine WL.move rfl rfl ?_
          exact WL.done ⟨_, rfl, rfl, rfl, (fun h => absurd h (by decide)), (fun j h => by cases h)⟩
        · intro w29 hE
          intro RR
          refine WL.move rfl rfl ?_
          exact WL.done ⟨_, rfl, rfl, rfl, (fun h => absurd h (by decide)), (fun j h => by cases h)⟩
        · intro w30 hE
          intro RR
          refine WL.move rfl rfl ?_
          exact WL.done ⟨_, rfl, rfl, rfl, (fun h => absurd h (by decide)), (fun j h => by cases h)⟩
        · intro w31 hE
          intro RR
          refine WL.move rfl rfl ?_
          exact WL.done ⟨_, rfl, rfl, rfl, (fun h => absurd h (by decide)), (fun j h => by cases h)⟩
        · intro w32 hE
          rintro _ rfl
          rintro _ rfl
          intro RR
          refine SL.index Try.underlying22 Try.el3 (hS.rd (i := 0) rfl) rfl rfl o33 rfl ?_
          exact WL.done ⟨_, rfl, rfl, rfl, (fun h => absurd h (by decide)), (fun j h => by cases h)⟩
        · intro w34 hE
          have hE := hE rfl
          have hS := hS.grow hE
          rintro _ rfl
          intro RR
          refine WL.load Try.underlying3 rfl rfl (Rd.gi (hS.rd (i := 0) rfl) o33) rfl ?_
          exact WL.done ⟨_, rfl, ext_refl _, rfl, (fun h => absurd h (by decide)), (fun j h => by cases h)⟩
        · intro w35 hE
          intro RR
          refine WL.move rfl rfl ?_
          exact WL.done ⟨_, rfl, rfl, rfl, (fun h => absurd h (by decide)), (fun j h => by cases h)⟩
        · intro w36 hE
          intro RR
          refine WL.move rfl rfl ?_
          exact WL.done ⟨_, rfl, rfl, rfl, (fun h => absurd h (by decide)), (fun j h => by cases h)⟩
        · intro w37 hE
          rintro _ rfl
          rintro _ rfl
          intro RR
          refine SL.index Try.underlying22 Try.el3 (hS.rd (i := 0) rfl) rfl rfl o38 rfl ?_
          exact WL.done ⟨_, rfl, rfl, rfl, (fun h => absurd h (by decide)), (fun j h => by cases h)⟩
        · intro w39 hE
          have hE := hE rfl
          have hS := hS.grow hE
          rintro _ rfl
          intro RR
          refine WL.load Try.underlying3 rfl rfl (Rd.gi (hS.rd (i := 0) rfl) o38) rfl ?_
          exact WL.done ⟨_, rfl, ext_refl _, rfl, (fun h => absurd h (by decide)), (fun j h => by cases h)⟩
        · intro w40 hE
          rintro _ rfl
          rintro _ rfl
          intro RR
          refine SL.index Try.underlying22 Try.el3 (hS.rd (i := 0) rfl) rfl rfl o41 rfl ?_
          exact WL.done ⟨_, rfl, rfl, rfl, (fun h => absurd h (by decide)), (fun j h => by cases h)⟩
      · intro X hX
        have hX : X ∈ ([[], [3], [2], [2, 3]] : List (List Nat)) := hX
        simp only [List.mem_cons, List.not_mem_nil, or_false] at hX
        rcases hX with rfl | rfl | rfl | rfl
        · intro vals w42 hT hVs hAp hCp q_ hq_
          have hS := hS.grow hT
          obtain rfl : q_ = 3 := hq_.trans (by decide +kernel)
          have hv0 : vals 0 = _ := hVs 0 (by decide) (by decide)
          have hv1 : vals 1 = _ := hVs 1 (by decide) (by decide)
          have hv2 : vals 2 = _ := hVs 2 (by decide) (by decide)
          have hv3 : vals 3 = _ := hVs 3 (by decide) (by decide)
          have hv4 : vals 4 = _ := hVs 4 (by decide) (by decide)
          have hv5 : vals 5 = _ := hVs 5 (by decide) (by decide)
          have hv6 : vals 6 = _ := hVs 6 (by decide) (by decide)
          have hv7 : vals 7 = _ := hVs 7 (by decide) (by decide)
          have hv8 : vals 8 = _ := hVs 8 (by decide) (by decide)
          have hv9 : vals 9 = _ := hVs 9 (by decide) (by decide)
          have hv10 : vals 10 = _ := hVs 10 (by decide) (by decide)
          have hv11 : vals 11 = _ := hVs 11 (by decide) (by decide)
          have hv12 : vals 12 = _ := hVs 12 (by decide) (by decide)
          rw [show (List.filterMap (fun i => if List.contains ([] : List Nat) i = true then none else Option.map (fun t => (t, vals i)) (dstAt _ i)) (List.range _)) = [(14, .slice As s.length ks), (15, .int .i64 z19), (16, .slice As s.length ks), (17, .int .i64 z20), (18, .slice As s.length ks), (19, .int .i64 z20), (20, .pointer (some ((adOf As).add z20.toNat))), (21, .int .i64 (gi x18 z20)), (22, .slice As s.length ks), (23, .int .i64 z19), (24, .pointer (some ((adOf As).add z19.toNat))), (25, .int .i64 (gi x18 z19)), (26, .pointer (some ((adOf As).add z19.toNat)))] from by
            show [(14, vals 0), (15, vals 1), (16, vals 2), (17, vals 3), (18, vals 4), (19, vals 5), (20, vals 6), (21, vals 7), (22, vals 8), (23, vals 9), (24, vals 10), (25, vals 11), (26, vals 12)] = _
            rw [hv0, hv1, hv2, hv3, hv4, hv5, hv6, hv7, hv8, hv9, hv10, hv11, hv12]]
          refine WA.step [13] (by decide +kernel) rfl ?_
          intro iQ hQ
          simp only [List.mem_cons, List.not_mem_nil, or_false] at hQ
          obtain rfl := hQ
          refine ⟨_, rfl, ?_⟩
          refine SL.store (cs' := is (si x18 z19 (gi x18 z20))) 0 z19.toNat hS rfl Try.el3 rfl rfl rfl (is_lt (hS.rd (i := 0) rfl) o41) (is_set _ _ _) ?_
          intro w43 hS
          refine WL.done ?_
          refine WA.step [14] (by decide +kernel) rfl ?_
          intro iQ hQ
          simp only [List.mem_cons, List.not_mem_nil, or_false] at hQ
          obtain rfl := hQ
          refine ⟨_, rfl, ?_⟩
          obtain ⟨o44, hv⟩ := hv
          refine SL.index Try.underlying22 Try.el3 (hS.rd (i := 0) rfl) rfl rfl o44 rfl ?_
          refine WL.done ?_
          refine WA.step [15] (by decide +kernel) rfl ?_
          intro iQ hQ
          simp only [List.mem_cons, List.not_mem_nil, or_false] at hQ
          obtain rfl := hQ
          refine ⟨_, rfl, ?_⟩
          refine SL.store (cs' := is (si (si x18 z19 (gi x18 z20)) z20 (gi x18 z19))) 0 z20.toNat hS rfl Try.el3 rfl rfl rfl (is_lt (hS.rd (i := 0) rfl) o44) (is_set _ _ _) ?_
          intro w45 hS
          refine WL.done ?_
          refine WA.done (by decide +kernel) ?_
          change St _ _ _ _ [.row 3 1 As s.length ks (is (si (si x18 z19 (gi x18 z20)) z20 (gi x18 z19)))] at hS
          exact ⟨(), ⟨rfl, rfl, rfl, rfl, trivial⟩, rfl, hv, hS⟩
        · intro vals w42 hT hVs hAp hCp q_ hq_
          have hS := hS.grow hT
          obtain rfl : q_ = 4 := hq_.trans (by decide +kernel)
          have hv0 : vals 0 = _ := hVs 0 (by decide) (by decide)
          have hv1 : vals 1 = _ := hVs 1 (by decide) (by decide)
          have hv2 : vals 2 = _ := hVs 2 (by decide) (by decide)
          have hv4 : vals 4 = _ := hVs 4 (by decide) (by decide)
          have hv5 : vals 5 = _ := hVs 5 (by decide) (by decide)
          have hv6 : vals 6 = _ := hVs 6 (by decide) (by decide)
          have hv7 : vals 7 = _ := hVs 7 (by decide) (by decide)
          have hv8 : vals 8 = _ := hVs 8 (by decide) (by decide)
          have hv9 : vals 9 = _ := hVs 9 (by decide) (by decide)
          have hv10 : vals 10 = _ := hVs 10 (by decide) (by decide)
          have hv11 : vals 11 = _ := hVs 11 (by decide) (by decide)
          have hv12 : vals 12 = _ := hVs 12 (by decide) (by decide)
          rw [show (List.filterMap (fun i => if List.contains [3] i = true then none else Option.map (fun t => (t, vals i)) (dstAt _ i)) (List.range _)) = [(14, .slice As s.length ks), (15, .int .i64 z19), (16, .slice As s.length ks), (18, .slice As s.length ks), (19, .int .i64 z20), (20, .pointer (some ((adOf As).add z20.toNat))), (21, .int .i64 (gi x18 z20)), (22, .slice As s.length ks), (23, .int .i64 z19), (24, .pointer (some ((adOf As).add z19.toNat))), (25, .int .i64 (gi x18 z19)), (26, .pointer (some ((adOf As).add z19.toNat)))] from by
            show [(14, vals 0), (15, vals 1), (16, vals 2), (18, vals 4), (19, vals 5), (20, vals 6), (21, vals 7), (22, vals 8), (23, vals 9), (24, vals 10), (25, vals 11), (26, vals 12)] = _
            rw [hv0, hv1, hv2, hv4, hv5, hv6, hv7, hv8, hv9, hv10, hv11, hv12]]
          refine WA.step [3, 13] (by decide +kernel) rfl ?_
          intro iQ hQ
          simp only [List.mem_cons, List.not_mem_nil, or_false] at hQ
          rcases hQ with rfl | rfl
          · refine ⟨_, rfl, ?_⟩
            refine WL.move rfl rfl ?_
            refine WL.done ?_
            refine WA.step [13] (by decide +kernel) rfl ?_
            intro iQ hQ
            simp only [List.mem_cons, List.not_mem_nil, or_false] at hQ
            obtain rfl := hQ
            refine ⟨_, rfl, ?_⟩
            refine SL.store (cs' := is (si x18 z19 (gi x18 z20))) 0 z19.toNat hS rfl Try.el3 rfl rfl rfl (is_lt (hS.rd (i := 0) rfl) o41) (is_set _ _ _) ?_
            intro w43 hS
            refine WL.done ?_
            refine WA.step [14] (by decide +kernel) rfl ?_
            intro iQ hQ
            simp only [List.mem_cons, List.not_mem_nil, or_false] at hQ
            obtain rfl := hQ
            refine ⟨_, rfl, ?_⟩
            obtain ⟨o44, hv⟩ := hv
            refine SL.index Try.underlying22 Try.el3 (hS.rd (i := 0) rfl) rfl rfl o44 rfl ?_
            refine WL.done ?_
            refine WA.step [15] (by decide +kernel) rfl ?_
            intro iQ hQ
            simp only [List.mem_cons, List.not_mem_nil, or_false] at hQ
            obtain rfl := hQ
            refine ⟨_, rfl, ?_⟩
            refine SL.store (cs' := is (si (si x18 z19 (gi x18 z20)) z20 (gi x18 z19))) 0 z20.toNat hS rfl Try.el3 rfl rfl rfl (is_lt (hS.rd (i := 0) rfl) o44) (is_set _ _ _) ?_
            intro w45 hS
            refine WL.done ?_
            refine WA.done (by decide +kernel) ?_
            change St _ _ _ _ [.row 3 1 As s.length ks (is (si (si x18 z19 (gi x18 z20)) z20 (gi x18 z19)))] at hS
            exact ⟨(), ⟨rfl, rfl, rfl, rfl, trivial⟩, rfl, hv, hS⟩
          · refine ⟨_, rfl, ?_⟩
            refine SL.store (cs' := is (si x18 z19 (gi x18 z20))) 0 z19.toNat hS rfl Try.el3 rfl rfl rfl (is_lt (hS.rd (i := 0) rfl) o41) (is_set _ _ _) ?_
            intro w43 hS
            refine WL.done ?_
            refine WA.step [3] (by decide +kernel) rfl ?_
            intro iQ hQ
            simp only [List.mem_cons, List.not_mem_nil, or_false] at hQ
            obtain rfl := hQ
            refine ⟨_, rfl, ?_⟩
            refine WL.move rfl rfl ?_
            refine WL.done ?_
            refine WA.step [14] (by decide +kernel) rfl ?_
            intro iQ hQ
            simp only [List.mem_cons, List.not_mem_nil, or_false] at hQ
            obtain rfl := hQ
            refine ⟨_, rfl, ?_⟩
            obtain ⟨o44, hv⟩ := hv
            refine SL.index Try.underlying22 Try.el3 (hS.rd (i := 0) rfl) rfl rfl o44 rfl ?_
            refine WL.done ?_
            refine WA.step [15] (by decide +kernel) rfl ?_
            intro iQ hQ
            simp only [List.mem_cons, List.not_mem_nil, or_false] at hQ
            obtain rfl := hQ
            refine ⟨_, rfl, ?_⟩
            refine SL.store (cs' := is (si (si x18 z19 (gi x18 z20)) z20 (gi x18 z19))) 0 z20.toNat hS rfl Try.el3 rfl rfl rfl (is_lt (hS.rd (i := 0) rfl) o44) (is_set _ _ _) ?_
            intro w45 hS
            refine WL.done ?_
            refine WA.done (by decide +kernel) ?_
            change St _ _ _ _ [.row 3 1 As s.length ks (is (si (si x18 z19 (gi x18 z20)) z20 (gi x18 z19)))] at hS
            exact ⟨(), ⟨rfl, rfl, rfl, rfl, trivial⟩, rfl, hv, hS⟩
        · intro vals w42 hT hVs hAp hCp q_ hq_
          have hS := hS.grow hT
          obtain rfl : q_ = 4 := hq_.trans (by decide +kernel)
          have hv0 : vals 0 = _ := hVs 0 (by decide) (by decide)
          have hv1 : vals 1 = _ := hVs 1 (by decide) (by decide)
          have hv3 : vals 3 = _ := hVs 3 (by decide) (by decide)
          have hv4 : vals 4 = _ := hVs 4 (by decide) (by decide)
          have hv5 : vals 5 = _ := hVs 5 (by decide) (by decide)
          have hv6 : vals 6 = _ := hVs 6 (by decide) (by decide)
          have hv7 : vals 7 = _ := hVs 7 (by decide) (by decide)
          have hv8 : vals 8 = _ := hVs 8 (by decide) (by decide)
          have hv9 : vals 9 = _ := hVs 9 (by decide) (by decide)
          have hv10 : vals 10 = _ := hVs 10 (by decide) (by decide)
          have hv11 : vals 11 = _ := hVs 11 (by decide) (by decide)
          have hv12 : vals 12 = _ := hVs 12 (by decide) (by decide)
          rw [show (List.filterMap (fun i => if List.contains [2] i = true then none else Option.map (fun t => (t, vals i)) (dstAt _ i)) (List.range _)) = [(14, .slice As s.length ks), (15, .int .i64 z19), (17, .int .i64 z20), (18, .slice As s.length ks), (19, .int .i64 z20), (20, .pointer (some ((adOf As).add z20.toNat))), (21, .int .i64 (gi x18 z20)), (22, .slice As s.length ks), (23, .int .i64 z19), (24, .pointer (some ((adOf As).add z19.toNat))), (25, .int .i64 (gi x18 z19)), (26, .pointer (some ((adOf As).add z19.toNat)))] from by
            show [(14, vals 0), (15, vals 1), (17, vals 3), (18, vals 4), (19, vals 5), (20, vals 6), (21, vals 7), (22, vals 8), (23, vals 9), (24, vals 10), (25, vals 11), (26, vals 12)] = _
            rw [hv0, hv1, hv3, hv4, hv5, hv6, hv7, hv8, hv9, hv10, hv11, hv12]]
          refine WA.step [2, 13] (by decide +kernel) rfl ?_
          intro iQ hQ
          simp only [List.mem_cons, List.not_mem_nil, or_false] at hQ
          rcases hQ with rfl | rfl
          · refine ⟨_, rfl, ?_⟩
            refine WL.move rfl rfl ?_
            refine WL.done ?_
            refine WA.step [13] (by decide +kernel) rfl ?_
            intro iQ hQ
            simp only [List.mem_cons, List.not_mem_nil, or_false] at hQ
            obtain rfl := hQ
            refine ⟨_, rfl, ?_⟩
            refine SL.store (cs' := is (si x18 z19 (gi x18 z20))) 0 z19.toNat hS rfl Try.el3 rfl rfl rfl (is_lt (hS.rd (i := 0) rfl) o41) (is_set _ _ _) ?_
            intro w43 hS
            refine WL.done ?_
            refine WA.step [14] (by decide +kernel) rfl ?_
            intro iQ hQ
            simp only [List.mem_cons, List.not_mem_nil, or_false] at hQ
            obtain rfl := hQ
            refine ⟨_, rfl, ?_⟩
            obtain ⟨o44, hv⟩ := hv
            refine SL.index Try.underlying22 Try.el3 (hS.rd (i := 0) rfl) rfl rfl o44 rfl ?_
            refine WL.done ?_
            refine WA.step [15] (by decide +kernel) rfl ?_
            intro iQ hQ
            simp only [List.mem_cons, List.not_mem_nil, or_false] at hQ
            obtain rfl := hQ
            refine ⟨_, rfl, ?_⟩
            refine SL.store (cs' := is (si (si x18 z19 (gi x18 z20)) z20 (gi x18 z19))) 0 z20.toNat hS rfl Try.el3 rfl rfl rfl (is_lt (hS.rd (i := 0) rfl) o44) (is_set _ _ _) ?_
            intro w45 hS
            refine WL.done ?_
            refine WA.done (by decide +kernel) ?_
            change St _ _ _ _ [.row 3 1 As s.length ks (is (si (si x18 z19 (gi x18 z20)) z20 (gi x18 z19)))] at hS
            exact ⟨(), ⟨rfl, rfl, rfl, rfl, trivial⟩, rfl, hv, hS⟩
          · refine ⟨_, rfl, ?_⟩
            refine SL.store (cs' := is (si x18 z19 (gi x18 z20))) 0 z19.toNat hS rfl Try.el3 rfl rfl rfl (is_lt (hS.rd (i := 0) rfl) o41) (is_set _ _ _) ?_
            intro w43 hS
            refine WL.done ?_
            refine WA.step [2] (by decide +kernel) rfl ?_
            intro iQ hQ
            simp only [List.mem_cons, List.not_mem_nil, or_false] at hQ
            obtain rfl := hQ
            refine ⟨_, rfl, ?_⟩
            refine WL.move rfl rfl ?_
            refine WL.done ?_
            refine WA.step [14] (by decide +kernel) rfl ?_
            intro iQ hQ
            simp only [List.mem_cons, List.not_mem_nil, or_false] at hQ
            obtain rfl := hQ
            refine ⟨_, rfl, ?_⟩
            obtain ⟨o44, hv⟩ := hv
            refine SL.index Try.underlying22 Try.el3 (hS.rd (i := 0) rfl) rfl rfl o44 rfl ?_
            refine WL.done ?_
            refine WA.step [15] (by decide +kernel) rfl ?_
            intro iQ hQ
            simp only [List.mem_cons, List.not_mem_nil, or_false] at hQ
            obtain rfl := hQ
            refine ⟨_, rfl, ?_⟩
            refine SL.store (cs' := is (si (si x18 z19 (gi x18 z20)) z20 (gi x18 z19))) 0 z20.toNat hS rfl Try.el3 rfl rfl rfl (is_lt (hS.rd (i := 0) rfl) o44) (is_set _ _ _) ?_
            intro w45 hS
            refine WL.done ?_
            refine WA.done (by decide +kernel) ?_
            change St _ _ _ _ [.row 3 1 As s.length ks (is (si (si x18 z19 (gi x18 z20)) z20 (gi x18 z19)))] at hS
            exact ⟨(), ⟨rfl, rfl, rfl, rfl, trivial⟩, rfl, hv, hS⟩
        · intro vals w42 hT hVs hAp hCp q_ hq_
          have hS := hS.grow hT
          obtain rfl : q_ = 5 := hq_.trans (by decide +kernel)
          have hv0 : vals 0 = _ := hVs 0 (by decide) (by decide)
          have hv1 : vals 1 = _ := hVs 1 (by decide) (by decide)
          have hv4 : vals 4 = _ := hVs 4 (by decide) (by decide)
          have hv5 : vals 5 = _ := hVs 5 (by decide) (by decide)
          have hv6 : vals 6 = _ := hVs 6 (by decide) (by decide)
          have hv7 : vals 7 = _ := hVs 7 (by decide) (by decide)
          have hv8 : vals 8 = _ := hVs 8 (by decide) (by decide)
          have hv9 : vals 9 = _ := hVs 9 (by decide) (by decide)
          have hv10 : vals 10 = _ := hVs 10 (by decide) (by decide)
          have hv11 : vals 11 = _ := hVs 11 (by decide) (by decide)
          have hv12 : vals 12 = _ := hVs 12 (by decide) (by decide)
          rw [show (List.filterMap (fun i => if List.contains [2, 3] i = true then none else Option.map (fun t => (t, vals i)) (dstAt _ i)) (List.range _)) = [(14, .slice As s.length ks), (15, .int .i64 z19), (18, .slice As s.length ks), (19, .int .i64 z20), (20, .pointer (some ((adOf As).add z20.toNat))), (21, .int .i64 (gi x18 z20)), (22, .slice As s.length ks), (23, .int .i64 z19), (24, .pointer (some ((adOf As).add z19.toNat))), (25, .int .i64 (gi x18 z19)), (26, .pointer (some ((adOf As).add z19.toNat)))] from by
            show [(14, vals 0), (15, vals 1), (18, vals 4), (19, vals 5), (20, vals 6), (21, vals 7), (22, vals 8), (23, vals 9), (24, vals 10), (25, vals 11), (26, vals 12)] = _
            rw [hv0, hv1, hv4, hv5, hv6, hv7, hv8, hv9, hv10, hv11, hv12]]
          refine WA.step [2, 3, 13] (by decide +kernel) rfl ?_
          intro iQ hQ
          simp only [List.mem_cons, List.not_mem_nil, or_false] at hQ
          rcases hQ with rfl | rfl | rfl
          · refine ⟨_, rfl, ?_⟩
            refine WL.move rfl rfl ?_
            refine WL.done ?_
            refine WA.step [3, 13] (by decide +kernel) rfl ?_
            intro iQ hQ
            simp only [List.mem_cons, List.not_mem_nil, or_false] at hQ
            rcases hQ with rfl | rfl
            · refine ⟨_, rfl, ?_⟩
              refine WL.move rfl rfl ?_
              refine WL.done ?_
              refine WA.step [13] (by decide +kernel) rfl ?_
              intro iQ hQ
              simp only [List.mem_cons, List.not_mem_nil, or_false] at hQ
              obtain rfl := hQ
              refine ⟨_, rfl, ?_⟩
              refine SL.store (cs' := is (si x18 z19 (gi x18 z20))) 0 z19.toNat hS rfl Try.el3 rfl rfl rfl (is_lt (hS.rd (i := 0) rfl) o41) (is_set _ _ _) ?_
              intro w43 hS
              refine WL.done ?_
              refine WA.step [14] (by decide +kernel) rfl ?_
              intro iQ hQ
              simp only [List.mem_cons, List.not_mem_nil, or_false] at hQ
              obtain rfl := hQ
              refine ⟨_, rfl, ?_⟩
              obtain ⟨o44, hv⟩ := hv
              refine SL.index Try.underlying22 Try.el3 (hS.rd (i := 0) rfl) rfl rfl o44 rfl ?_
              refine WL.done ?_
              refine WA.step [15] (by decide +kernel) rfl ?_
              intro iQ hQ
              simp only [List.mem_cons, List.not_mem_nil, or_false] at hQ
              obtain rfl := hQ
              refine ⟨_, rfl, ?_⟩
              refine SL.store (cs' := is (si (si x18 z19 (gi x18 z20)) z20 (gi x18 z19))) 0 z20.toNat hS rfl Try.el3 rfl rfl rfl (is_lt (hS.rd (i := 0) rfl) o44) (is_set _ _ _) ?_
              intro w45 hS
              refine WL.done ?_
              refine WA.done (by decide +kernel) ?_
              change St _ _ _ _ [.row 3 1 As s.length ks (is (si (si x18 z19 (gi x18 z20)) z20 (gi x18 z19)))] at hS
              exact ⟨(), ⟨rfl, rfl, rfl, rfl, trivial⟩, rfl, hv, hS⟩
            · refine ⟨_, rfl, ?_⟩
              refine SL.store (cs' := is (si x18 z19 (gi x18 z20))) 0 z19.toNat hS rfl Try.el3 rfl rfl rfl (is_lt (hS.rd (i := 0) rfl) o41) (is_set _ _ _) ?_
              intro w43 hS
              refine WL.done ?_
              refine WA.step [3] (by decide +kernel) rfl ?_
              intro iQ hQ
              simp only [List.mem_cons, List.not_mem_nil, or_false] at hQ
              obtain rfl := hQ
              refine ⟨_, rfl, ?_⟩
              refine WL.move rfl rfl ?_
              refine WL.done ?_
              refine WA.step [14] (by decide +kernel) rfl ?_
              intro iQ hQ
              simp only [List.mem_cons, List.not_mem_nil, or_false] at hQ
              obtain rfl := hQ
              refine ⟨_, rfl, ?_⟩
              obtain ⟨o44, hv⟩ := hv
              refine SL.index Try.underlying22 Try.el3 (hS.rd (i := 0) rfl) rfl rfl o44 rfl ?_
              refine WL.done ?_
              refine WA.step [15] (by decide +kernel) rfl ?_
              intro iQ hQ
              simp only [List.mem_cons, List.not_mem_nil, or_false] at hQ
              obtain rfl := hQ
              refine ⟨_, rfl, ?_⟩
              refine SL.store (cs' := is (si (si x18 z19 (gi x18 z20)) z20 (gi x18 z19))) 0 z20.toNat hS rfl Try.el3 rfl rfl rfl (is_lt (hS.rd (i := 0) rfl) o44) (is_set _ _ _) ?_
              intro w45 hS
              refine WL.done ?_
              refine WA.done (by decide +kernel) ?_
              change St _ _ _ _ [.row 3 1 As s.length ks (is (si (si x18 z19 (gi x18 z20)) z20 (gi x18 z19)))] at hS
              exact ⟨(), ⟨rfl, rfl, rfl, rfl, trivial⟩, rfl, hv, hS⟩
          · refine ⟨_, rfl, ?_⟩
            refine WL.move rfl rfl ?_
            refine WL.done ?_
            refine WA.step [2, 13] (by decide +kernel) rfl ?_
            intro iQ hQ
            simp only [List.mem_cons, List.not_mem_nil, or_false] at hQ
            rcases hQ with rfl | rfl
            · refine ⟨_, rfl, ?_⟩
              refine WL.move rfl rfl ?_
              refine WL.done ?_
              refine WA.step [13] (by decide +kernel) rfl ?_
              intro iQ hQ
              simp only [List.mem_cons, List.not_mem_nil, or_false] at hQ
              obtain rfl := hQ
              refine ⟨_, rfl, ?_⟩
              refine SL.store (cs' := is (si x18 z19 (gi x18 z20))) 0 z19.toNat hS rfl Try.el3 rfl rfl rfl (is_lt (hS.rd (i := 0) rfl) o41) (is_set _ _ _) ?_
              intro w43 hS
              refine WL.done ?_
              refine WA.step [14] (by decide +kernel) rfl ?_
              intro iQ hQ
              simp only [List.mem_cons, List.not_mem_nil, or_false] at hQ
              obtain rfl := hQ
              refine ⟨_, rfl, ?_⟩
              obtain ⟨o44, hv⟩ := hv
              refine SL.index Try.underlying22 Try.el3 (hS.rd (i := 0) rfl) rfl rfl o44 rfl ?_
              refine WL.done ?_
              refine WA.step [15] (by decide +kernel) rfl ?_
              intro iQ hQ
              simp only [List.mem_cons, List.not_mem_nil, or_false] at hQ
              obtain rfl := hQ
              refine ⟨_, rfl, ?_⟩
              refine SL.store (cs' := is (si (si x18 z19 (gi x18 z20)) z20 (gi x18 z19))) 0 z20.toNat hS rfl Try.el3 rfl rfl rfl (is_lt (hS.rd (i := 0) rfl) o44) (is_set _ _ _) ?_
              intro w45 hS
              refine WL.done ?_
              refine WA.done (by decide +kernel) ?_
              change St _ _ _ _ [.row 3 1 As s.length ks (is (si (si x18 z19 (gi x18 z20)) z20 (gi x18 z19)))] at hS
              exact ⟨(), ⟨rfl, rfl, rfl, rfl, trivial⟩, rfl, hv, hS⟩
            · refine ⟨_, rfl, ?_⟩
              refine SL.store (cs' := is (si x18 z19 (gi x18 z20))) 0 z19.toNat hS rfl Try.el3 rfl rfl rfl (is_lt (hS.rd (i := 0) rfl) o41) (is_set _ _ _) ?_
              intro w43 hS
              refine WL.done ?_
              refine WA.step [2] (by decide +kernel) rfl ?_
              intro iQ hQ
              simp only [List.mem_cons, List.not_mem_nil, or_false] at hQ
              obtain rfl := hQ
              refine ⟨_, rfl, ?_⟩
              refine WL.move rfl rfl ?_
              refine WL.done ?_
              refine WA.step [14] (by decide +kernel) rfl ?_
              intro iQ hQ
              simp only [List.mem_cons, List.not_mem_nil, or_false] at hQ
              obtain rfl := hQ
              refine ⟨_, rfl, ?_⟩
              obtain ⟨o44, hv⟩ := hv
              refine SL.index Try.underlying22 Try.el3 (hS.rd (i := 0) rfl) rfl rfl o44 rfl ?_
              refine WL.done ?_
              refine WA.step [15] (by decide +kernel) rfl ?_
              intro iQ hQ
              simp only [List.mem_cons, List.not_mem_nil, or_false] at hQ
              obtain rfl := hQ
              refine ⟨_, rfl, ?_⟩
              refine SL.store (cs' := is (si (si x18 z19 (gi x18 z20)) z20 (gi x18 z19))) 0 z20.toNat hS rfl Try.el3 rfl rfl rfl (is_lt (hS.rd (i := 0) rfl) o44) (is_set _ _ _) ?_
              intro w45 hS
              refine WL.done ?_
              refine WA.done (by decide +kernel) ?_
              change St _ _ _ _ [.row 3 1 As s.length ks (is (si (si x18 z19 (gi x18 z20)) z20 (gi x18 z19)))] at hS
              exact ⟨(), ⟨rfl, rfl, rfl, rfl, trivial⟩, rfl, hv, hS⟩
          · refine ⟨_, rfl, ?_⟩
            refine SL.store (cs' := is (si x18 z19 (gi x18 z20))) 0 z19.toNat hS rfl Try.el3 rfl rfl rfl (is_lt (hS.rd (i := 0) rfl) o41) (is_set _ _ _) ?_
            intro w43 hS
            refine WL.done ?_
            refine WA.step [2, 3] (by decide +kernel) rfl ?_
            intro iQ hQ
            simp only [List.mem_cons, List.not_mem_nil, or_false] at hQ
            rcases hQ with rfl | rfl
            · refine ⟨_, rfl, ?_⟩
              refine WL.move rfl rfl ?_
              refine WL.done ?_
              refine WA.step [3] (by decide +kernel) rfl ?_
              intro iQ hQ
              simp only [List.mem_cons, List.not_mem_nil, or_false] at hQ
              obtain rfl := hQ
              refine ⟨_, rfl, ?_⟩
              refine WL.move rfl rfl ?_
              refine WL.done ?_
              refine WA.step [14] (by decide +kernel) rfl ?_
              intro iQ hQ
              simp only [List.mem_cons, List.not_mem_nil, or_false] at hQ
              obtain rfl := hQ
              refine ⟨_, rfl, ?_⟩
              obtain ⟨o44, hv⟩ := hv
              refine SL.index Try.underlying22 Try.el3 (hS.rd (i := 0) rfl) rfl rfl o44 rfl ?_
              refine WL.done ?_
              refine WA.step [15] (by decide +kernel) rfl ?_
              intro iQ hQ
              simp only [List.mem_cons, List.not_mem_nil, or_false] at hQ
              obtain rfl := hQ
              refine ⟨_, rfl, ?_⟩
              refine SL.store (cs' := is (si (si x18 z19 (gi x18 z20)) z20 (gi x18 z19))) 0 z20.toNat hS rfl Try.el3 rfl rfl rfl (is_lt (hS.rd (i := 0) rfl) o44) (is_set _ _ _) ?_
              intro w45 hS
              refine WL.done ?_
              refine WA.done (by decide +kernel) ?_
              change St _ _ _ _ [.row 3 1 As s.length ks (is (si (si x18 z19 (gi x18 z20)) z20 (gi x18 z19)))] at hS
              exact ⟨(), ⟨rfl, rfl, rfl, rfl, trivial⟩, rfl, hv, hS⟩
            · refine ⟨_, rfl, ?_⟩
              refine WL.move rfl rfl ?_
              refine WL.done ?_
              refine WA.step [2] (by decide +kernel) rfl ?_
              intro iQ hQ
              simp only [List.mem_cons, List.not_mem_nil, or_false] at hQ
              obtain rfl := hQ
              refine ⟨_, rfl, ?_⟩
              refine WL.move rfl rfl ?_
              refine WL.done ?_
              refine WA.step [14] (by decide +kernel) rfl ?_
              intro iQ hQ
              simp only [List.mem_cons, List.not_mem_nil, or_false] at hQ
              obtain rfl := hQ
              refine ⟨_, rfl, ?_⟩
              obtain ⟨o44, hv⟩ := hv
              refine SL.index Try.underlying22 Try.el3 (hS.rd (i := 0) rfl) rfl rfl o44 rfl ?_
              refine WL.done ?_
              refine WA.step [15] (by decide +kernel) rfl ?_
              intro iQ hQ
              simp only [List.mem_cons, List.not_mem_nil, or_false] at hQ
              obtain rfl := hQ
              refine ⟨_, rfl, ?_⟩
              refine SL.store (cs' := is (si (si x18 z19 (gi x18 z20)) z20 (gi x18 z19))) 0 z20.toNat hS rfl Try.el3 rfl rfl rfl (is_lt (hS.rd (i := 0) rfl) o44) (is_set _ _ _) ?_
              intro w45 hS
              refine WL.done ?_
              refine WA.done (by decide +kernel) ?_
              change St _ _ _ _ [.row 3 1 As s.length ks (is (si (si x18 z19 (gi x18 z20)) z20 (gi x18 z19)))] at hS
              exact ⟨(), ⟨rfl, rfl, rfl, rfl, trivial⟩, rfl, hv, hS⟩
    · rintro _ w46 ⟨hv, hS⟩
      have hv := hk49  hv
      refine W.region ?_
      refine WL.move rfl rfl ?_
      obtain ⟨o47, hv⟩ := hv
      refine WL.add (r := (z19 + (1 : Int))) rfl rfl (wr o47) rfl ?_
      refine WL.move rfl rfl ?_
      obtain ⟨o48, hv⟩ := hv
      refine WL.sub (r := (z20 - (1 : Int))) rfl rfl (wr o48) rfl ?_
      refine WL.assign rfl rfl ?_
      refine WL.assign rfl rfl ?_
      refine WL.done ?_
      change St _ _ _ _ [.row 3 1 As s.length ks (is (si (si x18 z19 (gi x18 z20)) z20 (gi x18 z19)))] at hS
      exact ⟨(si (si x18 z19 (gi x18 z20)) z20 (gi x18 z19), (z19 + (1 : Int)), (z20 - (1 : Int))), ⟨rfl, rfl, rfl, trivial⟩, hv.2, rfl, hv.1, hS⟩
  · have hv := hv.2 (of_decide_eq_false c24)
    refine W.exit ?_
    refine ⟨_, rfl, Fin.nil ?_⟩
    exact ⟨_, hS.ext, hS.own (i := 0) rfl, x18, rfl, rfl, hv⟩

def V_isNaN (x : Int) (Q : Bool → Prop) : Prop :=
  Q (decide (x ≠ x))
theorem ok_isNaN {w : World} {Q : Bool → Prop} {x : Int}  (hv : V_isNaN x Q) :
    Calls Try.prog 82 #[.int .i64 x] w fun e w' => ∃ v Qr, e = .returned v ∧ w.grownBy w' none ∧ Rows w.heap.size none w' Qr ∧ News w.heap.size Qr ∧ ∃ (r0 : Bool), v = .bool r0 ∧ Qr = [] ∧ Q r0 := by
  refine calls_swap ?_
  refine calls_of_W (vs := [.int .i64 x]) [2] Try.func82 rfl rfl rfl rfl ?_
  have hS := St.start w
  unfold V_isNaN at hv
  refine W.seq ?_
  refine W.region ?_
  refine WL.assign rfl rfl ?_
  refine WL.done ?_
  refine W.seq ?_
  refine W.region ?_
  refine WL.move rfl rfl ?_
  refine WL.move rfl rfl ?_
  refine WL.neqD rfl rfl rfl ?_
  refine WL.assign rfl rfl ?_
  refine WL.done ?_
  refine W.ret ?_
  refine ⟨_, rfl, Fin.nil ?_⟩
  exact ⟨_, hS.ext, (hS.pick [] rfl).rows, News.of (hS.pick [] rfl).rows rfl, ⟨(decide (x ≠ x)), rfl, rfl, hv⟩⟩

def V_cmp (x : Int) (y : Int) (Q : Int → Prop) : Prop :=
  V_isNaN x (fun r12 => V_isNaN y (fun r14 => ((r12 = true) → (((r14 = true) → (Q (0 : Int))) ∧ (r14 = false → (Q (-1 : Int))))) ∧ (r12 = false → (((r14 = true) → (Q (1 : Int))) ∧ (r14 = false → (((x < y) → (Q (-1 : Int))) ∧ (¬ (x < y) → (((y < x) → (Q (1 : Int))) ∧ (¬ (y < x) → (Q (0 : Int)))))))))))
theorem ok_cmp {w : World} {Q : Int → Prop} {x : Int} {y : Int}  (hv : V_cmp x y Q) :
    Calls Try.prog 39 #[.int .i64 x, .int .i64 y] w fun e w' => ∃ v Qr, e = .returned v ∧ w.grownBy w' none ∧ Rows w.heap.size none w' Qr ∧ News w.heap.size Qr ∧ ∃ (r0 : Int), v = .int .i64 r0 ∧ Qr = [] ∧ Q r0 := by
  refine calls_swap ?_
  refine calls_of_W (vs := [.int .i64 x, .int .i64 y]) [4] Try.func39 rfl rfl rfl rfl ?_
  have hS := St.start w
  unfold V_cmp at hv
  refine W.seq ?_
  refine W.region ?_
  refine WL.assign rfl rfl ?_
  refine WL.done ?_
  refine W.seq ?_
  refine W.region ?_
  refine WL.move rfl rfl ?_
  refine SL.call hS (ok_isNaN  hv) Try.func82 rfl Try.nm82 rfl rfl ?_
  rintro _ _ w11 ⟨r12, rfl, rfl, hv⟩ hGw11 hS
  change St _ _ _ _ [] at hS
  refine WL.assign rfl rfl ?_
  refine WL.done ?_
  refine W.seq ?_
  refine W.region ?_
  refine WL.move rfl rfl ?_
  refine SL.call hS (ok_isNaN  hv) Try.func82 rfl Try.nm82 rfl rfl ?_
  rintro _ _ w13 ⟨r14, rfl, rfl, hv⟩ hGw13 hS
  change St _ _ _ _ [] at hS
  refine WL.assign rfl rfl ?_
  refine WL.done ?_
  refine W.seq ?_
  refine W.seq ?_
  refine W.region ?_
  refine WL.move rfl rfl ?_
  refine WL.done ?_
  refine W.cond2 rfl (fun c15 => ?_) (fun c15 => ?_)
  · have hv := hv.1 (c15)
    refine W.seq ?_
    refine W.seq ?_
    refine W.region ?_
    refine WL.move rfl rfl ?_
    refine WL.done ?_
    refine W.cond2 rfl (fun c16 => ?_) (fun c16 => ?_)
    · have hv := hv.1 (c16)
      refine W.seq ?_
      refine W.region ?_
      refine WL.assign rfl rfl ?_
      refine WL.done ?_
      refine W.ret ?_
      refine ⟨_, rfl, Fin.nil ?_⟩
      exact ⟨_, hS.ext, (hS.pick [] rfl).rows, News.of (hS.pick [] rfl).rows rfl, ⟨(0 : Int), rfl, rfl, hv⟩⟩
    · have hv := hv.2 (c16)
      refine W.skip ?_
      refine W.seq ?_
      refine W.region ?_
      refine WL.assign rfl rfl ?_
      refine WL.done ?_
      refine W.ret ?_
      refine ⟨_, rfl, Fin.nil ?_⟩
      exact ⟨_, hS.ext, (hS.pick [] rfl).rows, News.of (hS.pick [] rfl).rows rfl, ⟨(-1 : Int), rfl, rfl, hv⟩⟩
  · have hv := hv.2 (c15)
    refine W.skip ?_
    refine W.seq ?_
    refine W.seq ?_
    refine W.region ?_
    refine WL.move rfl rfl ?_
    refine WL.done ?_
    refine W.cond2 rfl (fun c17 => ?_) (fun c17 => ?_)
    · have hv := hv.1 (c17)
      refine W.seq ?_
      refine W.region ?_
      refine WL.assign rfl rfl ?_
      refine WL.done ?_
      refine W.ret ?_
      refine ⟨_, rfl, Fin.nil ?_⟩
      exact ⟨_, hS.ext, (hS.pick [] rfl).rows, News.of (hS.pick [] rfl).rows rfl, ⟨(1 : Int), rfl, rfl, hv⟩⟩
    · have hv := hv.2 (c17)
      refine W.skip ?_
      refine W.seq ?_
      refine W.seq ?_
      refine W.region ?_
      refine WL.move rfl rfl ?_
      refine WL.move rfl rfl ?_
      refine WL.lssD rfl rfl rfl ?_
      refine WL.done ?_
      refine W.cond2 rfl (fun c18 => ?_) (fun c18 => ?_)
      · have hv := hv.1 (of_decide_eq_true c18)
        refine W.seq ?_
        refine W.region ?_
        refine WL.assign rfl rfl ?_
        refine WL.done ?_
        refine W.ret ?_
        refine ⟨_, rfl, Fin.nil ?_⟩
        exact ⟨_, hS.ext, (hS.pick [] rfl).rows, News.of (hS.pick [] rfl).rows rfl, ⟨(-1 : Int), rfl, rfl, hv⟩⟩
      · have hv := hv.2 (of_decide_eq_false c18)
        refine W.skip ?_
        refine W.seq ?_
        refine W.seq ?_
        refine W.region ?_
        refine WL.move rfl rfl ?_
        refine WL.move rfl rfl ?_
        refine WL.gtrD rfl rfl rfl ?_
        refine WL.done ?_
        refine W.cond2 rfl (fun c19 => ?_) (fun c19 => ?_)
        · have hv := hv.1 (of_decide_eq_true c19)
          refine W.seq ?_
          refine W.region ?_
          refine WL.assign rfl rfl ?_
          refine WL.done ?_
          refine W.ret ?_
          refine ⟨_, rfl, Fin.nil ?_⟩
          exact ⟨_, hS.ext, (hS.pick [] rfl).rows, News.of (hS.pick [] rfl).rows rfl, ⟨(1 : Int), rfl, rfl, hv⟩⟩
        · have hv := hv.2 (of_decide_eq_false c19)
          refine W.skip ?_
          refine W.seq ?_
          refine W.region ?_
          refine WL.assign rfl rfl ?_
          refine WL.done ?_
          refine W.ret ?_
          refine ⟨_, rfl, Fin.nil ?_⟩
          exact ⟨_, hS.ext, (hS.pick [] rfl).rows, News.of (hS.pick [] rfl).rows rfl, ⟨(0 : Int), rfl, rfl, hv⟩⟩

def V_compare (l : List Int) (o : List Int) (Q : Int → Prop) : Prop :=
  ∃ (I14 : Int → Prop) (μ15 : Int → Nat), I14 (0 : Int) ∧ ∀ (z13 : Int), (I14 z13 → (((z13 < ((l.length : Nat) : Int)) → ((0 ≤ z13 ∧ z13 < (l.length : Nat)) ∧ (((((o.length : Nat) : Int) ≤ z13) → (Q (1 : Int))) ∧ (¬ (((o.length : Nat) : Int) ≤ z13) → ((0 ≤ z13 ∧ z13 < (o.length : Nat)) ∧ (V_cmp (gi l z13) (gi o z13) (fun r22 => ((r22 ≠ (0 : Int)) → Q r22) ∧ (¬ (r22 ≠ (0 : Int)) → ((I64 (z13 + (1 : Int))) ∧ (I14 (z13 + (1 : Int)) ∧ μ15 (z13 + (1 : Int)) < μ15 z13)))))))))) ∧ (¬ (z13 < ((l.length : Nat) : Int)) → (((((l.length : Nat) : Int) < ((o.length : Nat) : Int)) → (Q (-1 : Int))) ∧ (¬ (((l.length : Nat) : Int) < ((o.length : Nat) : Int)) → (Q (0 : Int)))))))
theorem ok_compare {w : World} {Q : Int → Prop} {l : List Int} {o : List Int} {Bl : Nat} {Al : Option Addr} {nl kl : Nat} (hl : Rd Bl w 1 Al nl kl (is l)) {Bo : Nat} {Ao : Option Addr} {no ko : Nat} (ho : Rd Bo w 1 Ao no ko (is o)) (hv : V_compare l o Q) :
    Calls Try.prog 41 #[.slice Al nl kl, .slice Ao no ko] w fun e w' => ∃ v Qr, e = .returned v ∧ w.grownBy w' none ∧ Rows w.heap.size none w' Qr ∧ News w.heap.size Qr ∧ ∃ (r0 : Int), v = .int .i64 r0 ∧ Qr = [] ∧ Q r0 := by
  have hnl := hl.ilen
  subst hnl
  have hno := ho.ilen
  subst hno
  refine calls_swap ?_
  refine calls_of_W (vs := [.slice Al l.length kl, .slice Ao o.length ko]) [4] Try.func41 rfl rfl rfl rfl ?_
  have hS := St.start w
  unfold V_compare at hv
  refine W.seq ?_
  refine W.region ?_
  refine WL.assign rfl rfl ?_
  refine WL.done ?_
  refine W.seq ?_
  refine W.seq ?_
  refine W.region ?_
  refine WL.move rfl rfl ?_
  refine WL.len Try.underlying22 rfl rfl ?_
  refine WL.move rfl rfl ?_
  refine WL.done ?_
  refine W.block ?_
  obtain ⟨I14, μ15, hv, hk26⟩ := hv
  change St _ _ _ _ [] at hS
  refine W.loop (σ := Int) (fun z13 w1 => I14 z13 ∧ St TT w none w1 []) (fun z13 => [(0, .slice Al l.length kl), (1, .slice Ao o.length ko), (4, .int .i64 (0 : Int)), (9, .slice Al l.length kl), (10, .int .i64 ((l.length : Nat) : Int)), (11, .int .i64 z13)]) (fun z13 => μ15 z13) (0 : Int) ⟨hv, hS⟩ ⟨rfl, rfl, rfl, rfl, rfl, rfl, trivial⟩ ?_
  rintro z13 w16 ⟨hv, hS⟩
  have hv := hk26 z13 hv
  refine W.seq ?_
  refine W.region ?_
  refine WL.lssD rfl rfl rfl ?_
  refine WL.done ?_
  refine W.seq ?_
  refine W.cond2 rfl (fun c17 => ?_) (fun c17 => ?_)
  · have hv := hv.1 (of_decide_eq_true c17)
    refine W.skip ?_
    refine W.seq ?_
    refine W.block ?_
    refine W.seq ?_
    refine W.region ?_
    refine WL.move rfl rfl ?_
    obtain ⟨o18, hv⟩ := hv
    refine SL.index Try.underlying22 Try.el3 (hS.ro hl) rfl rfl o18 rfl ?_
    refine WL.load Try.underlying3 rfl rfl (Rd.gi (hS.ro hl) o18) rfl ?_
    refine WL.assign rfl rfl ?_
    refine WL.assign rfl rfl ?_
    refine WL.done ?_
    refine W.seq ?_
    refine W.seq ?_
    refine W.region ?_
    refine WL.move rfl rfl ?_
    refine WL.move rfl rfl ?_
    refine WL.len Try.underlying22 rfl rfl ?_
    refine WL.geqD rfl rfl rfl ?_
    refine WL.done ?_
    refine W.cond2 rfl (fun c19 => ?_) (fun c19 => ?_)
    · have hv := hv.1 (of_decide_eq_true c19)
      refine W.seq ?_
      refine W.region ?_
      refine WL.assign rfl rfl ?_
      refine WL.done ?_
      refine W.ret ?_
      refine ⟨_, rfl, Fin.nil ?_⟩
      exact ⟨_, hS.ext, (hS.pick [] rfl).rows, News.of (hS.pick [] rfl).rows rfl, ⟨(1 : Int), rfl, rfl, hv⟩⟩
    · have hv := hv.2 (of_decide_eq_false c19)
      refine W.skip ?_
      refine W.seq ?_
      refine W.region ?_
      refine WL.move rfl rfl ?_
      refine WL.move rfl rfl ?_
      obtain ⟨o20, hv⟩ := hv
      refine SL.index Try.underlying22 Try.el3 (hS.ro ho) rfl rfl o20 rfl ?_
      refine WL.load Try.underlying3 rfl rfl (Rd.gi (hS.ro ho) o20) rfl ?_
      refine WL.assign rfl rfl ?_
      refine WL.done ?_
      refine W.seq ?_
      refine W.region ?_
      refine WL.move rfl rfl ?_
      refine WL.move rfl rfl ?_
      refine SL.call hS (ok_cmp  hv) Try.func39 rfl Try.nm39 rfl rfl ?_
      rintro _ _ w21 ⟨r22, rfl, rfl, hv⟩ hGw21 hS
      change St _ _ _ _ [] at hS
      refine WL.assign rfl rfl ?_
      refine WL.done ?_
      refine W.seq ?_
      refine W.region ?_
      refine WL.move rfl rfl ?_
      refine WL.neqD rfl rfl rfl ?_
      refine WL.done ?_
      refine W.cond2 rfl (fun c23 => ?_) (fun c23 => ?_)
      · have hv := hv.1 (of_decide_eq_true c23)
        refine W.seq ?_
        refine W.region ?_
        refine WL.move rfl rfl ?_
        refine WL.assign rfl rfl ?_
        refine WL.done ?_
        refine W.ret ?_
        refine ⟨_, rfl, Fin.nil ?_⟩
        exact ⟨_, hS.ext, (hS.pick [] rfl).rows, News.of (hS.pick [] rfl).rows rfl, ⟨r22, rfl, rfl, hv⟩⟩
      · have hv := hv.2 (of_decide_eq_false c23)
        refine W.skip ?_
        refine W.region ?_
        obtain ⟨o24, hv⟩ := hv
        refine WL.add (r := (z13 + (1 : Int))) rfl rfl (wr o24) rfl ?_
        refine WL.move rfl rfl ?_
        refine WL.done ?_
        change St _ _ _ _ [] at hS
        exact ⟨(z13 + (1 : Int)), ⟨rfl, rfl, rfl, rfl, rfl, rfl, trivial⟩, hv.2, rfl, hv.1, hS⟩
  · have hv := hv.2 (of_decide_eq_false c17)
    refine W.exit ?_
    refine W.seq ?_
    refine W.seq ?_
    refine W.region ?_
    refine WL.move rfl rfl ?_
    refine WL.len Try.underlying22 rfl rfl ?_
    refine WL.move rfl rfl ?_
    refine WL.len Try.underlying22 rfl rfl ?_
    refine WL.lssD rfl rfl rfl ?_
    refine WL.done ?_
    refine W.cond2 rfl (fun c25 => ?_) (fun c25 => ?_)
    · have hv := hv.1 (of_decide_eq_true c25)
      refine W.seq ?_
      refine W.region ?_
      refine WL.assign rfl rfl ?_
      refine WL.done ?_
      refine W.ret ?_
      refine ⟨_, rfl, Fin.nil ?_⟩
      exact ⟨_, hS.ext, (hS.pick [] rfl).rows, News.of (hS.pick [] rfl).rows rfl, ⟨(-1 : Int), rfl, rfl, hv⟩⟩
    · have hv := hv.2 (of_decide_eq_false c25)
      refine W.skip ?_
      refine W.seq ?_
      refine W.region ?_
      refine WL.assign rfl rfl ?_
      refine WL.done ?_
      refine W.ret ?_
      refine ⟨_, rfl, Fin.nil ?_⟩
      exact ⟨_, hS.ext, (hS.pick [] rfl).rows, News.of (hS.pick [] rfl).rows rfl, ⟨(0 : Int), rfl, rfl, hv⟩⟩

def V_fcompare (Fg : GFv) (p : List Int) (t : List Int) (Q : Int → Prop) : Prop :=
  V_canon Fg p (fun x12 => V_canon Fg t (fun x17 => ((((x12.length : Nat) : Int) ≠ ((x17.length : Nat) : Int)) → (V_cmp ((x12.length : Nat) : Int) ((x17.length : Nat) : Int) (fun r23 => Q r23))) ∧ (¬ (((x12.length : Nat) : Int) ≠ ((x17.length : Nat) : Int)) → (V_reverseL x12 (fun x25 => V_reverseL x17 (fun x27 => V_compare x25 x27 (fun r29 => Q r29)))))))
theorem ok_fcompare {w : World} {Q : Int → Prop} {Fg : GFv} {p : List Int} {t : List Int} {ag : Addr} {Bg : Nat} (hgg : GFR Bg w ag Fg) {Bp : Nat} {Ap : Option Addr} {np kp : Nat} (hp : Rd Bp w 1 Ap np kp (is p)) {Bt : Nat} {At : Option Addr} {nt kt : Nat} (ht : Rd Bt w 1 At nt kt (is t)) (hv : V_fcompare Fg p t Q) :
    Calls Try.prog 12 #[.pointer (some ag), .slice Ap np kp, .slice At nt kt] w fun e w' => ∃ v Qr, e = .returned v ∧ w.grownBy w' none ∧ Rows w.heap.size none w' Qr ∧ News w.heap.size Qr ∧ ∃ (r0 : Int), v = .int .i64 r0 ∧ Qr = [] ∧ Q r0 := by
  have hgg_ := hgg
  obtain ⟨Ag_mod, kg_mod, Ag_exp, kg_exp, Ag_log, kg_log, Ag_above, kg_above, hg_c, hg_mod, hg_exp, hg_log, hg_above⟩ := hgg_
  have hnp := hp.ilen
  subst hnp
  have hnt := ht.ilen
  subst hnt
  refine calls_swap ?_
  refine calls_of_W (vs := [.pointer (some ag), .slice Ap p.length kp, .slice At t.length kt]) [6] Try.func12 rfl rfl rfl rfl ?_
  have hS := St.start w
  unfold V_fcompare at hv
  refine W.seq ?_
  refine W.region ?_
  refine WL.assign rfl rfl ?_
  refine WL.done ?_
  refine W.seq ?_
  refine W.region ?_
  refine WL.move rfl rfl ?_
  refine WL.move rfl rfl ?_
  refine SL.call hS (ok_canon (GFR.ext (GFR.norm hgg) hS.ext) (hS.ro hp) hv) Try.func30 rfl Try.nm30 rfl rfl ?_
  rintro _ _ w11 ⟨x12, A13, k14, rfl, rfl, hv⟩ hGw11 hS
  change St _ _ _ _ [.row 3 1 A13 x12.length k14 (is x12)] at hS
  refine WL.move rfl rfl ?_
  refine WL.move rfl rfl ?_
  refine SL.call hS (ok_canon (GFR.ext (GFR.norm hgg) hS.ext) (hS.ro ht) hv) Try.func30 rfl Try.nm30 rfl rfl ?_
  rintro _ _ w16 ⟨x17, A18, k19, rfl, rfl, hv⟩ hGw16 hS
  change St _ _ _ _ [.row 3 1 A18 x17.length k19 (is x17), .row 3 1 A13 x12.length k14 (is x12)] at hS
  refine WL.assign rfl rfl ?_
  refine WL.assign rfl rfl ?_
  refine WL.done ?_
  refine W.seq ?_
  refine W.seq ?_
  refine W.region ?_
  refine WL.move rfl rfl ?_
  refine WL.len Try.underlying22 rfl rfl ?_
  refine WL.move rfl rfl ?_
  refine WL.len Try.underlying22 rfl rfl ?_
  refine WL.neqD rfl rfl rfl ?_
  refine WL.done ?_
  refine W.cond2 rfl (fun c21 => ?_) (fun c21 => ?_)
  · have hv := hv.1 (of_decide_eq_true c21)
    refine W.seq ?_
    refine W.region ?_
    refine WL.move rfl rfl ?_
    refine WL.len Try.underlying22 rfl rfl ?_
    refine WL.move rfl rfl ?_
    refine WL.len Try.underlying22 rfl rfl ?_
    refine SL.call hS (ok_cmp  hv) Try.func39 rfl Try.nm39 rfl rfl ?_
    rintro _ _ w22 ⟨r23, rfl, rfl, hv⟩ hGw22 hS
    change St _ _ _ _ [.row 3 1 A18 x17.length k19 (is x17), .row 3 1 A13 x12.length k14 (is x12)] at hS
    refine WL.assign rfl rfl ?_
    refine WL.done ?_
    refine W.ret ?_
    refine ⟨_, rfl, Fin.nil ?_⟩
    exact ⟨_, hS.ext, (hS.pick [] rfl).rows, News.of (hS.pick [] rfl).rows rfl, ⟨r23, rfl, rfl, hv⟩⟩
  · have hv := hv.2 (of_decide_eq_false c21)
    refine W.skip ?_
    refine W.seq ?_
    refine W.region ?_
    refine WL.move rfl rfl ?_
    refine SL.callm 1 hS rfl (ok_reverseL (hS.own (i := 1) rfl) hv) Try.func40 rfl Try.nm40 rfl rfl ?_
    rintro _ _ w24 ⟨x25, rfl, rfl, hv⟩ hS
    change St _ _ _ _ [.row 3 1 A18 x17.length k19 (is x17), .row 3 1 A13 x12.length k14 (is x25)] at hS
    refine WL.done ?_
    refine W.seq ?_
    refine W.region ?_
    refine WL.move rfl rfl ?_
    refine SL.callm 0 hS rfl (ok_reverseL (hS.own (i := 0) rfl) hv) Try.func40 rfl Try.nm40 rfl rfl ?_
    rintro _ _ w26 ⟨x27, rfl, rfl, hv⟩ hS
    change St _ _ _ _ [.row 3 1 A18 x17.length k19 (is x27), .row 3 1 A13 x12.length k14 (is x25)] at hS
    refine WL.done ?_
    refine W.seq ?_
    refine W.region ?_
    refine WL.move rfl rfl ?_
    refine WL.move rfl rfl ?_
    refine SL.call hS (ok_compare (hS.rd (i := 1) rfl) (hS.rd (i := 0) rfl) hv) Try.func41 rfl Try.nm41 rfl rfl ?_
    rintro _ _ w28 ⟨r29, rfl, rfl, hv⟩ hGw28 hS
    change St _ _ _ _ [.row 3 1 A18 x17.length k19 (is x27), .row 3 1 A13 x12.length k14 (is x25)] at hS
    refine WL.assign rfl rfl ?_
    refine WL.done ?_
    refine W.ret ?_
    refine ⟨_, rfl, Fin.nil ?_⟩
    exact ⟨_, hS.ext, (hS.pick [] rfl).rows, News.of (hS.pick [] rfl).rows rfl, ⟨r29, rfl, rfl, hv⟩⟩

def V_rcompare (Pf : Int) (Mf : Int) (mf : List Int) (p : List Int) (t : List Int) (Q : Int → Prop) : Prop :=
  V_rcanon Pf Mf mf p (fun x14 => V_rcanon Pf Mf mf t (fun x19 => ((((x14.length : Nat) : Int) < ((x19.length : Nat) : Int)) → (Q (-1 : Int))) ∧ (¬ (((x14.length : Nat) : Int) < ((x19.length : Nat) : Int)) → (((((x19.length : Nat) : Int) < ((x14.length : Nat) : Int)) → (Q (1 : Int))) ∧ (¬ (((x19.length : Nat) : Int) < ((x14.length : Nat) : Int)) → ((I64 (((x14.length : Nat) : Int) - (1 : Int))) ∧ (∃ (I29 : Int → Prop) (μ30 : Int → Nat), I29 (((x14.length : Nat) : Int) - (1 : Int)) ∧ ∀ (z28 : Int), (I29 z28 → ((((0 : Int) ≤ z28) → ((0 ≤ z28 ∧ z28 < (x14.length : Nat)) ∧ ((0 ≤ z28 ∧ z28 < (x19.length : Nat)) ∧ ((((gi x14 z28) < (gi x19 z28)) → (Q (-1 : Int))) ∧ (¬ ((gi x14 z28) < (gi x19 z28)) → ((0 ≤ z28 ∧ z28 < (x14.length : Nat)) ∧ ((0 ≤ z28 ∧ z28 < (x19.length : Nat)) ∧ ((((gi x19 z28) < (gi x14 z28)) → (Q (1 : Int))) ∧ (¬ ((gi x19 z28) < (gi x14 z28)) → ((I64 (z28 - (1 : Int))) ∧ (I29 (z28 - (1 : Int)) ∧ μ30 (z28 - (1 : Int)) < μ30 z28))))))))))) ∧ (¬ ((0 : Int) ≤ z28) → (Q (0 : Int))))))))))))
theorem ok_rcompare {w : World} {Q : Int → Prop} {Pf : Int} {Mf : Int} {mf : List Int} {p : List Int} {t : List Int} {Bf : Nat} {Af : Option Addr} {nf kf : Nat} (hf : Rd Bf w 1 Af nf kf (is mf)) {Bp : Nat} {Ap : Option Addr} {np kp : Nat} (hp : Rd Bp w 1 Ap np kp (is p)) {Bt : Nat} {At : Option Addr} {nt kt : Nat} (ht : Rd Bt w 1 At nt kt (is t)) (hv : V_rcompare Pf Mf mf p t Q) :
    Calls Try.prog 13 #[.agg #[.int .i64 Pf, .int .i64 Mf, .slice Af nf kf], .slice Ap np kp, .slice At nt kt] w fun e w' => ∃ v Qr, e = .returned v ∧ w.grownBy w' none ∧ Rows w.heap.size none w' Qr ∧ News w.heap.size Qr ∧ ∃ (r0 : Int), v = .int .i64 r0 ∧ Qr = [] ∧ Q r0 := by
  have hnf := hf.ilen
  subst hnf
  have hnp := hp.ilen
  subst hnp
  have hnt := ht.ilen
  subst hnt
  refine calls_swap ?_
  refine calls_of_W (vs := [.agg #[.int .i64 Pf, .int .i64 Mf, .slice Af mf.length kf], .slice Ap p.length kp, .slice At t.length kt]) [6] Try.func13 rfl rfl rfl rfl ?_
  have hS := St.start w
  unfold V_rcompare at hv
  refine W.seq ?_
  refine W.region ?_
  refine SL.box (z := 3) (cs := [.int .i64 Pf, .int .i64 Mf, .slice Af mf.length kf]) hS rfl rfl rfl rfl ?_
  intro g11 w12 hS
  refine WL.assign rfl rfl ?_
  refine WL.done ?_
  refine W.seq ?_
  refine W.region ?_
  refine WL.loadV (cs := [.int .i64 Pf, .int .i64 Mf, .slice Af mf.length kf]) Try.el24 Try.agg24 rfl rfl (Own.vcells (hS.own (i := 0) rfl)) rfl ?_
  refine WL.move rfl rfl ?_
  refine SL.call hS (ok_rcanon (hS.ro hf) (hS.ro hp) hv) Try.func33 rfl Try.nm33 rfl rfl ?_
  rintro _ _ w13 ⟨x14, A15, k16, rfl, rfl, hv⟩ hGw13 hS
  change St _ _ _ _ [.row 3 1 A15 x14.length k16 (is x14), .row 24 3 (some ⟨g11, 0, none⟩) 1 1 [.int .i64 Pf, .int .i64 Mf, .slice Af mf.length kf]] at hS
  refine WL.assign rfl rfl ?_
  refine WL.done ?_
  refine W.seq ?_
  refine W.region ?_
  refine WL.loadV (cs := [.int .i64 Pf, .int .i64 Mf, .slice Af mf.length kf]) Try.el24 Try.agg24 rfl rfl (Own.vcells (hS.own (i := 1) rfl)) rfl ?_
  refine WL.move rfl rfl ?_
  refine SL.call hS (ok_rcanon (hS.ro hf) (hS.ro ht) hv) Try.func33 rfl Try.nm33 rfl rfl ?_
  rintro _ _ w18 ⟨x19, A20, k21, rfl, rfl, hv⟩ hGw18 hS
  change St _ _ _ _ [.row 3 1 A20 x19.length k21 (is x19), .row 3 1 A15 x14.length k16 (is x14), .row 24 3 (some ⟨g11, 0, none⟩) 1 1 [.int .i64 Pf, .int .i64 Mf, .slice Af mf.length kf]] at hS
  refine WL.assign rfl rfl ?_
  refine WL.done ?_
  refine W.seq ?_
  refine W.seq ?_
  refine W.region ?_
  refine WL.move rfl rfl ?_
  refine WL.len Try.underlying22 rfl rfl ?_
  refine WL.move rfl rfl ?_
  refine WL.len Try.underlying22 rfl rfl ?_
  refine WL.lssD rfl rfl rfl ?_
  refine WL.done ?_
  refine W.cond2 rfl (fun c23 => ?_) (fun c23 => ?_)
  · have hv := hv.1 (of_decide_eq_true c23)
    refine W.seq ?_
    refine W.region ?_
    refine WL.assign rfl rfl ?_
    refine WL.done ?_
    refine W.ret ?_
    refine ⟨_, rfl, Fin.nil ?_⟩
    exact ⟨_, hS.ext, (hS.pick [] rfl).rows, News.of (hS.pick [] rfl).rows rfl, ⟨(-1 : Int), rfl, rfl, hv⟩⟩
  · have hv := hv.2 (of_decide_eq_false c23)
    refine W.skip ?_
    refine W.seq ?_
    refine W.seq ?_
    refine W.region ?_
    refine WL.move rfl rfl ?_
    refine WL.len Try.underlying22 rfl rfl ?_
    refine WL.move rfl rfl ?_
    refine WL.len Try.underlying22 rfl rfl ?_
    refine WL.gtrD rfl rfl rfl ?_
    refine WL.done ?_
    refine W.cond2 rfl (fun c24 => ?_) (fun c24 => ?_)
    · have hv := hv.1 (of_decide_eq_true c24)
      refine W.seq ?_
      refine W.region ?_
      refine WL.assign rfl rfl ?_
      refine WL.done ?_
      refine W.ret ?_
      refine ⟨_, rfl, Fin.nil ?_⟩
      exact ⟨_, hS.ext, (hS.pick [] rfl).rows, News.of (hS.pick [] rfl).rows rfl, ⟨(1 : Int), rfl, rfl, hv⟩⟩
    · have hv := hv.2 (of_decide_eq_false c24)
      refine W.skip ?_
      refine W.seq ?_
      refine W.seq ?_
      refine W.region ?_
      refine WL.move rfl rfl ?_
      refine WL.len Try.underlying22 rfl rfl ?_
      obtain ⟨o25, hv⟩ := hv
      refine WL.sub (r := (((x14.length : Nat) : Int) - (1 : Int))) rfl rfl (wr o25) rfl ?_
      refine WL.assign rfl rfl ?_
      refine WL.done ?_
      refine W.block ?_
      obtain ⟨I29, μ30, hv, hk60⟩ := hv
      change St _ _ _ _ [.row 3 1 A20 x19.length k21 (is x19), .row 3 1 A15 x14.length k16 (is x14), .row 24 3 (some ⟨g11, 0, none⟩) 1 1 [.int .i64 Pf, .int .i64 Mf, .slice Af mf.length kf]] at hS
      refine W.loop (σ := Int) (fun z28 w1 => I29 z28 ∧ St TT w none w1 [.row 3 1 A20 x19.length k21 (is x19), .row 3 1 A15 x14.length k16 (is x14), .row 24 3 (some ⟨g11, 0, none⟩) 1 1 [.int .i64 Pf, .int .i64 Mf, .slice Af mf.length kf]]) (fun z28 => [(1, .slice A15 x14.length k16), (2, .slice A20 x19.length k21), (6, .int .i64 (0 : Int)), (7, .int .i64 z28)]) (fun z28 => μ30 z28) (((x14.length : Nat) : Int) - (1 : Int)) ⟨hv, hS⟩ ⟨rfl, rfl, rfl, rfl, trivial⟩ ?_
      rintro z28 w31 ⟨hv, hS⟩
      have hv := hk60 z28 hv
      refine W.seq ?_
      refine W.seq ?_
      refine W.region ?_
      refine WL.move rfl rfl ?_
      refine WL.geqD rfl rfl rfl ?_
      refine WL.done ?_
      refine W.cond2 rfl (fun c32 => ?_) (fun c32 => ?_)
      · have hv := hv.1 (of_decide_eq_true c32)
        refine W.skip ?_
        refine W.seq ?_
        refine W.block ?_
        refine W.seq ?_
        refine W.seq ?_
        obtain ⟨o36, hv⟩ := hv
        obtain ⟨o41, hv⟩ := hv
        have hS0 := hS
        refine W.drawX 9 (fun _ => false) (fun _ => none) [⟨[], [1], true⟩, ⟨[], [7], true⟩, ⟨[0, 1], [], true⟩, ⟨[2], [], false⟩, ⟨[], [2], true⟩, ⟨[], [7], true⟩, ⟨[4, 5], [], true⟩, ⟨[6], [], false⟩, ⟨[3, 7], [], true⟩] [[(1, .slice A15 x14.length k16)], [(7, .int .i64 z28)], [], [], [(2, .slice A20 x19.length k21)], [(7, .int .i64 z28)], [], [], []] (fun iQ => [fun v _ => v = .slice A15 x14.length k16, fun v _ => v = .int .i64 z28, fun v _ => v = .pointer (some ((adOf A15).add z28.toNat)), fun v _ => v = .int .i64 (gi x14 z28), fun v _ => v = .slice A20 x19.length k21, fun v _ => v = .int .i64 z28, fun v _ => v = .pointer (some ((adOf A20).add z28.toNat)), fun v _ => v = .int .i64 (gi x19 z28), fun v _ => v = .bool (decide ((gi x14 z28) < (gi x19 z28)))].getD iQ (fun _ _ => True)) Try.mixed (by kernel_rfl) ?_ (by kernel_rfl) ?_ ?_
        · refine Vs_monoT _ ?_
          intro VQ hVQ vQ wQ1 wQ2 hQ1 hQ2
          simp only [List.mem_cons, List.not_mem_nil, or_false] at hVQ
          rcases hVQ with rfl | rfl | rfl | rfl | rfl | rfl | rfl | rfl | rfl
          · exact hQ1
          · exact hQ1
          · exact hQ1
          · exact hQ1
          · exact hQ1
          · exact hQ1
          · exact hQ1
          · exact hQ1
          · exact hQ1
        · refine ⟨⟨rfl, ⟨rfl, trivial⟩, ?_⟩, ⟨rfl, ⟨rfl, trivial⟩, ?_⟩, ⟨rfl, trivial, ?_⟩, ⟨rfl, trivial, ?_⟩, ⟨rfl, ⟨rfl, trivial⟩, ?_⟩, ⟨rfl, ⟨rfl, trivial⟩, ?_⟩, ⟨rfl, trivial, ?_⟩, ⟨rfl, trivial, ?_⟩, ⟨rfl, trivial, ?_⟩, trivial⟩
          · intro w33 hE
            intro RR
            refine WL.move rfl rfl ?_
            exact WL.done ⟨_, rfl, rfl, rfl, (fun h => absurd h (by decide)), (fun j h => by cases h)⟩
          · intro w34 hE
            intro RR
            refine WL.move rfl rfl ?_
            exact WL.done ⟨_, rfl, rfl, rfl, (fun h => absurd h (by decide)), (fun j h => by cases h)⟩
          · intro w35 hE
            rintro _ rfl
            rintro _ rfl
            intro RR
            refine SL.index Try.underlying22 Try.el3 (hS.rd (i := 1) rfl) rfl rfl o36 rfl ?_
            exact WL.done ⟨_, rfl, rfl, rfl, (fun h => absurd h (by decide)), (fun j h => by cases h)⟩
          · intro w37 hE
            have hE := hE rfl
            have hS := hS.grow hE
            rintro _ rfl
            intro RR
            refine WL.load Try.underlying3 rfl rfl (Rd.gi (hS.rd (i := 1) rfl) o36) rfl ?_
            exact WL.done ⟨_, rfl, ext_refl _, rfl, (fun h => absurd h (by decide)), (fun j h => by cases h)⟩
          · intro w38 hE
            intro RR
            refine WL.move rfl rfl ?_
            exact WL.done ⟨_, rfl, rfl, rfl, (fun h => absurd h (by decide)), (fun j h => by cases h)⟩
          · intro w39 hE
            intro RR
            refine WL.move rfl rfl ?_
            exact WL.done ⟨_, rfl, rfl, rfl, (fun h => absurd h (by decide)), (fun j h => by cases h)⟩
          · intro w40 hE
            rintro _ rfl
            rintro _ rfl
            intro RR
            refine SL.index Try.underlying22 Try.el3 (hS.rd (i := 0) rfl) rfl rfl o41 rfl ?_
            exact WL.done ⟨_, rfl, rfl, rfl, (fun h => absurd h (by decide)), (fun j h => by cases h)⟩
          · intro w42 hE
            have hE := hE rfl
            have hS := hS.grow hE
            rintro _ rfl
            intro RR
            refine WL.load Try.underlying3 rfl rfl (Rd.gi (hS.rd (i := 0) rfl) o41) rfl ?_
            exact WL.done ⟨_, rfl, ext_refl _, rfl, (fun h => absurd h (by decide)), (fun j h => by cases h)⟩
          · intro w43 hE
            rintro _ rfl
            rintro _ rfl
            intro RR
            refine WL.lssD rfl rfl rfl ?_
            exact WL.done ⟨_, rfl, rfl, rfl, (fun h => absurd h (by decide)), (fun j h => by cases h)⟩
        · intro vals w44 hT hVs hAp hCp
          have hS := hS.grow hT
          have hv0 : vals 0 = _ := hVs 0 (by decide)
          have hv1 : vals 1 = _ := hVs 1 (by decide)
          have hv2 : vals 2 = _ := hVs 2 (by decide)
          have hv3 : vals 3 = _ := hVs 3 (by decide)
          have hv4 : vals 4 = _ := hVs 4 (by decide)
          have hv5 : vals 5 = _ := hVs 5 (by decide)
          have hv6 : vals 6 = _ := hVs 6 (by decide)
          have hv7 : vals 7 = _ := hVs 7 (by decide)
          have hv8 : vals 8 = _ := hVs 8 (by decide)
          rw [show (List.filterMap (fun i => Option.map (fun t => (t, vals i)) (dstAt _ i)) (List.range _)) = [(31, .slice A15 x14.length k16), (32, .int .i64 z28), (33, .pointer (some ((adOf A15).add z28.toNat))), (34, .int .i64 (gi x14 z28)), (35, .slice A20 x19.length k21), (36, .int .i64 z28), (37, .pointer (some ((adOf A20).add z28.toNat))), (38, .int .i64 (gi x19 z28)), (39, .bool (decide ((gi x14 z28) < (gi x19 z28))))] from by
            show [(31, vals 0), (32, vals 1), (33, vals 2), (34, vals 3), (35, vals 4), (36, vals 5), (37, vals 6), (38, vals 7), (39, vals 8)] = _
            rw [hv0, hv1, hv2, hv3, hv4, hv5, hv6, hv7, hv8]]
          refine WA.done (by decide +kernel) ?_
          refine W.cond2 rfl (fun c45 => ?_) (fun c45 => ?_)
          · have hv := hv.1 (of_decide_eq_true c45)
            refine W.seq ?_
            refine W.region ?_
            refine WL.assign rfl rfl ?_
            refine WL.done ?_
            refine W.ret ?_
            refine ⟨_, rfl, Fin.nil ?_⟩
            exact ⟨_, hS.ext, (hS.pick [] rfl).rows, News.of (hS.pick [] rfl).rows rfl, ⟨(-1 : Int), rfl, rfl, hv⟩⟩
          · have hv := hv.2 (of_decide_eq_false c45)
            refine W.skip ?_
            refine W.seq ?_
            obtain ⟨o49, hv⟩ := hv
            obtain ⟨o54, hv⟩ := hv
            have hS0 := hS
            refine W.drawX 9 (fun _ => false) (fun _ => none) [⟨[], [1], true⟩, ⟨[], [7], true⟩, ⟨[0, 1], [], true⟩, ⟨[2], [], false⟩, ⟨[], [2], true⟩, ⟨[], [7], true⟩, ⟨[4, 5], [], true⟩, ⟨[6], [], false⟩, ⟨[3, 7], [], true⟩] [[(1, .slice A15 x14.length k16)], [(7, .int .i64 z28)], [], [], [(2, .slice A20 x19.length k21)], [(7, .int .i64 z28)], [], [], []] (fun iQ => [fun v _ => v = .slice A15 x14.length k16, fun v _ => v = .int .i64 z28, fun v _ => v = .pointer (some ((adOf A15).add z28.toNat)), fun v _ => v = .int .i64 (gi x14 z28), fun v _ => v = .slice A20 x19.length k21, fun v _ => v = .int .i64 z28, fun v _ => v = .pointer (some ((adOf A20).add z28.toNat)), fun v _ => v = .int .i64 (gi x19 z28), fun v _ => v = .bool (decide ((gi x19 z28) < (gi x14 z28)))].getD iQ (fun _ _ => True)) Try.mixed (by kernel_rfl) ?_ (by kernel_rfl) ?_ ?_
            · refine Vs_monoT _ ?_
              intro VQ hVQ vQ wQ1 wQ2 hQ1 hQ2
              simp only [List.mem_cons, List.not_mem_nil, or_false] at hVQ
              rcases hVQ with rfl | rfl | rfl | rfl | rfl | rfl | rfl | rfl | rfl
              · exact hQ1
              · exact hQ1
              · exact hQ1
              · exact hQ1
              · exact hQ1
              · exact hQ1
              · exact hQ1
              · exact hQ1
              · exact hQ1
            · refine ⟨⟨rfl, ⟨rfl, trivial⟩, ?_⟩, ⟨rfl, ⟨rfl, trivial⟩, ?_⟩, ⟨rfl, trivial, ?_⟩, ⟨rfl, trivial, ?_⟩, ⟨rfl, ⟨rfl, trivial⟩, ?_⟩, ⟨rfl, ⟨rfl, trivial⟩, ?_⟩, ⟨rfl, trivial, ?_⟩, ⟨rfl, trivial, ?_⟩, ⟨rfl, trivial, ?_⟩, trivial⟩
              · intro w46 hE
                intro RR
                refine WL.move rfl rfl ?_
                exact WL.done ⟨_, rfl, rfl, rfl, (fun h => absurd h (by decide)), (fun j h => by cases h)⟩
              · intro w47 hE
                intro RR
                refine WL.move rfl rfl ?_
                exact WL.done ⟨_, rfl, rfl, rfl, (fun h => absurd h (by decide)), (fun j h => by cases h)⟩
              · intro w48 hE
                rintro _ rfl
                rintro _ rfl
                intro RR
                refine SL.index Try.underlying22 Try.el3 (hS.rd (i := 1) rfl) rfl rfl o49 rfl ?_
                exact WL.done ⟨_, rfl, rfl, rfl, (fun h => absurd h (by decide)), (fun j h => by cases h)⟩
              · intro w50 hE
                have hE := hE rfl
                have hS := hS.grow hE
                rintro _ rfl
                intro RR
                refine WL.load Try.underlying3 rfl rfl (Rd.gi (hS.rd (i := 1) rfl) o49) rfl ?_
                exact WL.done ⟨_, rfl, ext_refl _, rfl, (fun h => absurd h (by decide)), (fun j h => by cases h)⟩
              · intro w51 hE
                intro RR
                refine WL.move rfl rfl ?_
                exact WL.done ⟨_, rfl, rfl, rfl, (fun h => absurd h (by decide)), (fun j h => by cases h)⟩
              · intro w52 hE
                intro RR
                refine WL.move rfl rfl ?_
                exact WL.done ⟨_, rfl, rfl, rfl, (fun h => absurd h (by decide)), (fun j h => by cases h)⟩
              · intro w53 hE
                rintro _ rfl
                rintro _ rfl
                intro RR
                refine SL.index Try.underlying22 Try.el3 (hS.rd (i := 0) rfl) rfl rfl o54 rfl ?_
                exact WL.done ⟨_, rfl, rfl, rfl, (fun h => absurd h (by decide)), (fun j h => by cases h)⟩
              · intro w55 hE
                have hE := hE rfl
                have hS := hS.grow hE
                rintro _ rfl
                intro RR
                refine WL.load Try.underlying3 rfl rfl (Rd.gi (hS.rd (i := 0) rfl) o54) rfl ?_
                exact WL.done ⟨_, rfl, ext_refl _, rfl, (fun h => absurd h (by decide)), (fun j h => by cases h)⟩
              · intro w56 hE
                rintro _ rfl
                rintro _ rfl
                intro RR
                refine WL.gtrD rfl rfl rfl ?_
                exact WL.done ⟨_, rfl, rfl, rfl, (fun h => absurd h (by decide)), (fun j h => by cases h)⟩
            · intro vals w57 hT hVs hAp hCp
              have hS := hS.grow hT
              have hv0 : vals 0 = _ := hVs 0 (by decide)
              have hv1 : vals 1 = _ := hVs 1 (by decide)
              have hv2 : vals 2 = _ := hVs 2 (by decide)
              have hv3 : vals 3 = _ := hVs 3 (by decide)
              have hv4 : vals 4 = _ := hVs 4 (by decide)
              have hv5 : vals 5 = _ := hVs 5 (by decide)
              have hv6 : vals 6 = _ := hVs 6 (by decide)
              have hv7 : vals 7 = _ := hVs 7 (by decide)
              have hv8 : vals 8 = _ := hVs 8 (by decide)
              rw [show (List.filterMap (fun i => Option.map (fun t => (t, vals i)) (dstAt _ i)) (List.range _)) = [(40, .slice A15 x14.length k16), (41, .int .i64 z28), (42, .pointer (some ((adOf A15).add z28.toNat))), (43, .int .i64 (gi x14 z28)), (44, .slice A20 x19.length k21), (45, .int .i64 z28), (46, .pointer (some ((adOf A20).add z28.toNat))), (47, .int .i64 (gi x19 z28)), (48, .bool (decide ((gi x19 z28) < (gi x14 z28))))] from by
                show [(40, vals 0), (41, vals 1), (42, vals 2), (43, vals 3), (44, vals 4), (45, vals 5), (46, vals 6), (47, vals 7), (48, vals 8)] = _
                rw [hv0, hv1, hv2, hv3, hv4, hv5, hv6, hv7, hv8]]
              refine WA.done (by decide +kernel) ?_
              refine W.cond2 rfl (fun c58 => ?_) (fun c58 => ?_)
              · have hv := hv.1 (of_decide_eq_true c58)
                refine W.seq ?_
                refine W.region ?_
                refine WL.assign rfl rfl ?_
                refine WL.done ?_
                refine W.ret ?_
                refine ⟨_, rfl, Fin.nil ?_⟩
                exact ⟨_, hS.ext, (hS.pick [] rfl).rows, News.of (hS.pick [] rfl).rows rfl, ⟨(1 : Int), rfl, rfl, hv⟩⟩
              · have hv := hv.2 (of_decide_eq_false c58)
                refine W.skip ?_
                refine W.region ?_
                refine WL.move rfl rfl ?_
                obtain ⟨o59, hv⟩ := hv
                refine WL.sub (r := (z28 - (1 : Int))) rfl rfl (wr o59) rfl ?_
                refine WL.assign rfl rfl ?_
                refine WL.done ?_
                change St _ _ _ _ [.row 3 1 A20 x19.length k21 (is x19), .row 3 1 A15 x14.length k16 (is x14), .row 24 3 (some ⟨g11, 0, none⟩) 1 1 [.int .i64 Pf, .int .i64 Mf, .slice Af mf.length kf]] at hS
                exact ⟨(z28 - (1 : Int)), ⟨rfl, rfl, rfl, rfl, trivial⟩, hv.2, rfl, hv.1, hS⟩
      · have hv := hv.2 (of_decide_eq_false c32)
        refine W.exit ?_
        refine W.seq ?_
        refine W.region ?_
        refine WL.assign rfl rfl ?_
        refine WL.done ?_
        refine W.ret ?_
        refine ⟨_, rfl, Fin.nil ?_⟩
        exact ⟨_, hS.ext, (hS.pick [] rfl).rows, News.of (hS.pick [] rfl).rows rfl, ⟨(0 : Int), rfl, rfl, hv⟩⟩

def V_open (Pf : Int) (Mf : Int) (mf : List Int) (Q : Option GFv × Bool → Prop) : Prop :=
  V_New Pf Mf mf (fun q => match q with | (none, r15) => V_rCheck Pf Mf mf (fun r23 => ((r23 ≠ (0 : Int)) → (Q (none, (decide (r15 ≠ (0 : Int)))))) ∧ (¬ (r23 ≠ (0 : Int)) → (((r15 ≠ (0 : Int)) → (Q (none, false))) ∧ (¬ (r15 ≠ (0 : Int)) → (Q (none, false)))))) | (some F16, r15) => V_rCheck Pf Mf mf (fun r27 => ((r27 ≠ (0 : Int)) → (Q (none, (decide (r15 ≠ (0 : Int)))))) ∧ (¬ (r27 ≠ (0 : Int)) → (((r15 ≠ (0 : Int)) → (Q (none, false))) ∧ (¬ (r15 ≠ (0 : Int)) → (Q (some F16, true)))))))
theorem ok_open {w : World} {Q : Option GFv × Bool → Prop} {Pf : Int} {Mf : Int} {mf : List Int} {Bf : Nat} {Af : Option Addr} {nf kf : Nat} (hf : Rd Bf w 1 Af nf kf (is mf)) (hv : V_open Pf Mf mf Q) :
    Calls Try.prog 7 #[.agg #[.int .i64 Pf, .int .i64 Mf, .slice Af nf kf]] w fun e w' => ∃ v Qr, e = .returned v ∧ w.grownBy w' none ∧ Rows w.heap.size none w' Qr ∧ News w.heap.size Qr ∧ ∃ (o : Option GFv) (b2 : Bool), Q (o, b2) ∧ match o with | none => v = .tuple #[.pointer none, .bool true, .bool b2] ∧ Qr = [] | some F => ∃ (ad : Addr) (lo hi : Nat), v = .tuple #[.pointer (some ad), .bool false, .bool true] ∧ Qr = [.ch lo hi (fun wz => GFX lo hi wz ad F)] := by
  have hnf := hf.ilen
  subst hnf
  refine calls_swap ?_
  refine calls_of_W (vs := [.agg #[.int .i64 Pf, .int .i64 Mf, .slice Af mf.length kf]]) [2, 3, 4] Try.func7 rfl rfl rfl rfl ?_
  have hS := St.start w
  unfold V_open at hv
  refine W.seq ?_
  refine W.region ?_
  refine SL.box (z := 3) (cs := [.int .i64 Pf, .int .i64 Mf, .slice Af mf.length kf]) hS rfl rfl rfl rfl ?_
  intro g11 w12 hS
  refine WL.assign rfl rfl ?_
  refine WL.assign rfl rfl ?_
  refine WL.assign rfl rfl ?_
  refine WL.done ?_
  refine W.seq ?_
  refine W.region ?_
  refine WL.loadV (cs := [.int .i64 Pf, .int .i64 Mf, .slice Af mf.length kf]) Try.el24 Try.agg24 rfl rfl (Own.vcells (hS.own (i := 0) rfl)) rfl ?_
  refine SL.call hS (ok_New (hS.ro hf) hv) Try.func25 rfl Try.nm25 rfl rfl ?_
  rintro _ _ w14 ⟨o, r15, hv, hK⟩ hGw14 hS
  cases o with
  | none =>
    obtain ⟨rfl, rfl⟩ := hK
    change St _ _ _ _ [.row 24 3 (some ⟨g11, 0, none⟩) 1 1 [.int .i64 Pf, .int .i64 Mf, .slice Af mf.length kf]] at hS
    refine WL.move rfl rfl ?_
    refine WL.extract rfl rfl rfl ?_
    refine WL.extract rfl rfl rfl ?_
    refine WL.assign rfl rfl ?_
    refine WL.assign rfl rfl ?_
    refine WL.done ?_
    refine W.seq ?_
    refine W.seq ?_
    refine W.region ?_
    refine WL.loadV (cs := [.int .i64 Pf, .int .i64 Mf, .slice Af mf.length kf]) Try.el24 Try.agg24 rfl rfl (Own.vcells (hS.own (i := 0) rfl)) rfl ?_
    refine SL.call hS (ok_rCheck (hS.ro hf) hv) Try.func26 rfl Try.nm26 rfl rfl ?_
    rintro _ _ w22 ⟨r23, rfl, rfl, hv⟩ hGw22 hS
    change St _ _ _ _ [.row 24 3 (some ⟨g11, 0, none⟩) 1 1 [.int .i64 Pf, .int .i64 Mf, .slice Af mf.length kf]] at hS
    refine WL.neqD rfl rfl rfl ?_
    refine WL.done ?_
    refine W.cond2 rfl (fun c24 => ?_) (fun c24 => ?_)
    · have hv := hv.1 (of_decide_eq_true c24)
      refine W.seq ?_
      refine W.region ?_
      refine WL.move rfl rfl ?_
      refine WL.neqD rfl rfl rfl ?_
      refine WL.assign rfl rfl ?_
      refine WL.assign rfl rfl ?_
      refine WL.assign rfl rfl ?_
      refine WL.done ?_
      refine W.ret ?_
      refine ⟨_, rfl, Fin.nil ?_⟩
      exact ⟨_, hS.ext, (hS.pick [] rfl).rows, News.of (hS.pick [] rfl).rows rfl, ⟨none, (decide (r15 ≠ (0 : Int))), hv, rfl, rfl⟩⟩
    · have hv := hv.2 (of_decide_eq_false c24)
      refine W.skip ?_
      refine W.seq ?_
      refine W.seq ?_
      refine W.region ?_
      refine WL.move rfl rfl ?_
      refine WL.neqD rfl rfl rfl ?_
      refine WL.move rfl rfl ?_
      by_cases g25 : r15 ≠ (0 : Int)
      · have hv := hv.1 g25
        rw [decide_eq_true g25]
        refine WL.pass rfl rfl rfl ?_
        refine WL.pass rfl rfl rfl ?_
        refine WL.pick rfl rfl rfl ?_
        refine WL.done ?_
        refine W.condT rfl ?_
        refine W.seq ?_
        refine W.region ?_
        refine WL.assign rfl rfl ?_
        refine WL.assign rfl rfl ?_
        refine WL.assign rfl rfl ?_
        refine WL.done ?_
        refine W.ret ?_
        refine ⟨_, rfl, Fin.nil ?_⟩
        exact ⟨_, hS.ext, (hS.pick [] rfl).rows, News.of (hS.pick [] rfl).rows rfl, ⟨none, false, hv, rfl, rfl⟩⟩
      · have hv := hv.2 g25
        rw [decide_eq_false g25]
        refine WL.take rfl ?_
        refine WL.move rfl rfl ?_
        refine WL.take rfl ?_
        refine WL.eqlPn Try.underlying28 rfl rfl rfl rfl ?_
        refine WL.pick rfl rfl rfl ?_
        refine WL.done ?_
        refine W.condT rfl ?_
        refine W.seq ?_
        refine W.region ?_
        refine WL.assign rfl rfl ?_
        refine WL.assign rfl rfl ?_
        refine WL.assign rfl rfl ?_
        refine WL.done ?_
        refine W.ret ?_
        refine ⟨_, rfl, Fin.nil ?_⟩
        exact ⟨_, hS.ext, (hS.pick [] rfl).rows, News.of (hS.pick [] rfl).rows rfl, ⟨none, false, hv, rfl, rfl⟩⟩
  | some F16 =>
    obtain ⟨ad17, lo18, hi19, rfl, rfl⟩ := hK
    change St _ _ _ _ [.ch lo18 hi19 (fun wz => GFX lo18 hi19 wz ad17 F16), .row 24 3 (some ⟨g11, 0, none⟩) 1 1 [.int .i64 Pf, .int .i64 Mf, .slice Af mf.length kf]] at hS
    refine WL.move rfl rfl ?_
    refine WL.extract rfl rfl rfl ?_
    refine WL.extract rfl rfl rfl ?_
    refine WL.assign rfl rfl ?_
    refine WL.assign rfl rfl ?_
    refine WL.done ?_
    refine W.seq ?_
    refine W.seq ?_
    refine W.region ?_
    refine WL.loadV (cs := [.int .i64 Pf, .int .i64 Mf, .slice Af mf.length kf]) Try.el24 Try.agg24 rfl rfl (Own.vcells (hS.own (i := 1) rfl)) rfl ?_
    refine SL.call hS (ok_rCheck (hS.ro hf) hv) Try.func26 rfl Try.nm26 rfl rfl ?_
    rintro _ _ w26 ⟨r27, rfl, rfl, hv⟩ hGw26 hS
    change St _ _ _ _ [.ch lo18 hi19 (fun wz => GFX lo18 hi19 wz ad17 F16), .row 24 3 (some ⟨g11, 0, none⟩) 1 1 [.int .i64 Pf, .int .i64 Mf, .slice Af mf.length kf]] at hS
    refine WL.neqD rfl rfl rfl ?_
    refine WL.done ?_
    refine W.cond2 rfl (fun c28 => ?_) (fun c28 => ?_)
    · have hv := hv.1 (of_decide_eq_true c28)
      refine W.seq ?_
      refine W.region ?_
      refine WL.move rfl rfl ?_
      refine WL.neqD rfl rfl rfl ?_
      refine WL.assign rfl rfl ?_
      refine WL.assign rfl rfl ?_
      refine WL.assign rfl rfl ?_
      refine WL.done ?_
      refine W.ret ?_
      refine ⟨_, rfl, Fin.nil ?_⟩
      exact ⟨_, hS.ext, (hS.pick [] rfl).rows, News.of (hS.pick [] rfl).rows rfl, ⟨none, (decide (r15 ≠ (0 : Int))), hv, rfl, rfl⟩⟩
    · have hv := hv.2 (of_decide_eq_false c28)
      refine W.skip ?_
      refine W.seq ?_
      refine W.seq ?_
      refine W.region ?_
      refine WL.move rfl rfl ?_
      refine WL.neqD rfl rfl rfl ?_
      refine WL.move rfl rfl ?_
      by_cases g29 : r15 ≠ (0 : Int)
      · have hv := hv.1 g29
        rw [decide_eq_true g29]
        refine WL.pass rfl rfl rfl ?_
        refine WL.pass rfl rfl rfl ?_
        refine WL.pick rfl rfl rfl ?_
        refine WL.done ?_
        refine W.condT rfl ?_
        refine W.seq ?_
        refine W.region ?_
        refine WL.assign rfl rfl ?_
        refine WL.assign rfl rfl ?_
        refine WL.assign rfl rfl ?_
        refine WL.done ?_
        refine W.ret ?_
        refine ⟨_, rfl, Fin.nil ?_⟩
        exact ⟨_, hS.ext, (hS.pick [] rfl).rows, News.of (hS.pick [] rfl).rows rfl, ⟨none, false, hv, rfl, rfl⟩⟩
      · have hv := hv.2 g29
        rw [decide_eq_false g29]
        refine WL.take rfl ?_
        refine WL.move rfl rfl ?_
        refine WL.take rfl ?_
        refine WL.eqlPn Try.underlying28 rfl rfl rfl rfl ?_
        refine WL.pick rfl rfl rfl ?_
        refine WL.done ?_
        refine W.condF rfl ?_
        refine W.skip ?_
        refine W.seq ?_
        refine W.region ?_
        refine WL.move rfl rfl ?_
        refine WL.assign rfl rfl ?_
        refine WL.assign rfl rfl ?_
        refine WL.assign rfl rfl ?_
        refine WL.done ?_
        refine W.ret ?_
        refine ⟨_, rfl, Fin.nil ?_⟩
        exact ⟨_, hS.ext, (hS.pick [0] rfl).rows, News.of (hS.pick [0] rfl).rows rfl, ⟨some F16, true, hv, _, _, _, rfl, rfl⟩⟩
end Go.Proofs.Ytaipfkmlgdmjbaa
set_option linter.unusedSimpArgs false
set_option linter.unusedVariables false
namespace Go.Proofs.Ytaipfkmlgdmjbaa
open Go.RowKit
def V_FactorOrder (Pf : Int) (Mf : Int) (mf : List Int) (p : List Int) (t : List Int) (Q : Bool → Prop) : Prop :=
  V_open Pf Mf mf (fun q => match q with | (none, r15) => Q r15 | (some F16, _) => V_fcompare F16 p t (fun r23 => V_rcompare Pf Mf mf p t (fun r25 => ((r23 = r25) → (V_fcompare F16 t p (fun r28 => (I64 (-r23)) ∧ (((r28 = (-r23)) → (V_fcompare F16 ([(1 : Int)] : List Int) ([(0 : Int), (1 : Int)] : List Int) (fun r38 => Q (decide (r38 = (-1 : Int)))))) ∧ (¬ (r28 = (-r23)) → Q false))))) ∧ (¬ (r23 = r25) → Q false))))
theorem ok_FactorOrder {w : World} {Q : Bool → Prop} {Pf : Int} {Mf : Int} {mf : List Int} {p : List Int} {t : List Int} {Bf : Nat} {Af : Option Addr} {nf kf : Nat} (hf : Rd Bf w 1 Af nf kf (is mf)) {Bp : Nat} {Ap : Option Addr} {np kp : Nat} (hp : Rd Bp w 1 Ap np kp (is p)) {Bt : Nat} {At : Option Addr} {nt kt : Nat} (ht : Rd Bt w 1 At nt kt (is t)) (hv : V_FactorOrder Pf Mf mf p t Q) :
    Calls Try.prog 4 #[.agg #[.int .i64 Pf, .int .i64 Mf, .slice Af nf kf], .slice Ap np kp, .slice At nt kt] w fun e w' => ∃ v Qr, e = .returned v ∧ w.grownBy w' none ∧ Rows w.heap.size none w' Qr ∧ News w.heap.size Qr ∧ ∃ (r0 : Bool), v = .bool r0 ∧ Qr = [] ∧ Q r0 := by
  have hnf := hf.ilen
  subst hnf
  have hnp := hp.ilen
  subst hnp
  have hnt := ht.ilen
  subst hnt
  refine calls_swap ?_
  refine calls_of_W (vs := [.agg #[.int .i64 Pf, .int .i64 Mf, .slice Af mf.length kf], .slice Ap p.length kp, .slice At t.length kt]) [6] Try.func4 rfl rfl rfl rfl ?_
  have hS := St.start w
  unfold V_FactorOrder at hv
  refine W.seq ?_
  refine W.region ?_
  refine SL.box (z := 3) (cs := [.int .i64 Pf, .int .i64 Mf, .slice Af mf.length kf]) hS rfl rfl rfl rfl ?_
  intro g11 w12 hS
  refine WL.assign rfl rfl ?_
  refine WL.done ?_
  refine W.seq ?_
  refine W.region ?_
  refine WL.loadV (cs := [.int .i64 Pf, .int .i64 Mf, .slice Af mf.length kf]) Try.el24 Try.agg24 rfl rfl (Own.vcells (hS.own (i := 0) rfl)) rfl ?_
  refine SL.call hS (ok_open (hS.ro hf) hv) Try.func7 rfl Try.nm7 rfl rfl ?_
  rintro _ _ w14 ⟨o, r15, hv, hK⟩ hGw14 hS
  cases o with
  | none =>
    obtain ⟨rfl, rfl⟩ := hK
    change St _ _ _ _ [.row 24 3 (some ⟨g11, 0, none⟩) 1 1 [.int .i64 Pf, .int .i64 Mf, .slice Af mf.length kf]] at hS
    refine WL.move rfl rfl ?_
    refine WL.extract rfl rfl rfl ?_
    refine WL.extract rfl rfl rfl ?_
    refine WL.extract rfl rfl rfl ?_
    refine WL.assign rfl rfl ?_
    refine WL.assign rfl rfl ?_
    refine WL.assign rfl rfl ?_
    refine WL.done ?_
    refine W.seq ?_
    refine W.seq ?_
    refine W.region ?_
    refine WL.move rfl rfl ?_
    refine WL.done ?_
    refine W.condT rfl ?_
    refine W.seq ?_
    refine W.region ?_
    refine WL.move rfl rfl ?_
    refine WL.assign rfl rfl ?_
    refine WL.done ?_
    refine W.ret ?_
    refine ⟨_, rfl, Fin.nil ?_⟩
    exact ⟨_, hS.ext, (hS.pick [] rfl).rows, News.of (hS.pick [] rfl).rows rfl, ⟨r15, rfl, rfl, hv⟩⟩
  | some F16 =>
    obtain ⟨ad17, lo18, hi19, rfl, rfl⟩ := hK
    change St _ _ _ _ [.ch lo18 hi19 (fun wz => GFX lo18 hi19 wz ad17 F16), .row 24 3 (some ⟨g11, 0, none⟩) 1 1 [.int .i64 Pf, .int .i64 Mf, .slice Af mf.length kf]] at hS
    refine WL.move rfl rfl ?_
    refine WL.extract rfl rfl rfl ?_
    refine WL.extract rfl rfl rfl ?_
    refine WL.extract rfl rfl rfl ?_
    refine WL.assign rfl rfl ?_
    refine WL.assign rfl rfl ?_
    refine WL.assign rfl rfl ?_
    refine WL.done ?_
    refine W.seq ?_
    refine W.seq ?_
    refine W.region ?_
    refine WL.move rfl rfl ?_
    refine WL.done ?_
    refine W.condF rfl ?_
    refine W.skip ?_
    refine W.seq ?_
    refine W.region ?_
    refine WL.move rfl rfl ?_
    refine WL.move rfl rfl ?_
    refine WL.move rfl rfl ?_
    refine SL.call hS (ok_fcompare (GFX.gfr (hS.chunk (i := 0) rfl)) (hS.ro hp) (hS.ro ht) hv) Try.func12 rfl Try.nm12 rfl rfl ?_
    rintro _ _ w22 ⟨r23, rfl, rfl, hv⟩ hGw22 hS
    change St _ _ _ _ [.ch lo18 hi19 (fun wz => GFX lo18 hi19 wz ad17 F16), .row 24 3 (some ⟨g11, 0, none⟩) 1 1 [.int .i64 Pf, .int .i64 Mf, .slice Af mf.length kf]] at hS
    refine WL.assign rfl rfl ?_
    refine WL.done ?_
    refine W.seq ?_
    refine W.region ?_
    refine WL.move rfl rfl ?_
    refine WL.loadV (cs := [.int .i64 Pf, .int .i64 Mf, .slice Af mf.length kf]) Try.el24 Try.agg24 rfl rfl (Own.vcells (hS.own (i := 1) rfl)) rfl ?_
    refine WL.move rfl rfl ?_
    refine WL.move rfl rfl ?_
    refine SL.call hS (ok_rcompare (hS.ro hf) (hS.ro hp) (hS.ro ht) hv) Try.func13 rfl Try.nm13 rfl rfl ?_
    rintro _ _ w24 ⟨r25, rfl, rfl, hv⟩ hGw24 hS
    change St _ _ _ _ [.ch lo18 hi19 (fun wz => GFX lo18 hi19 wz ad17 F16), .row 24 3 (some ⟨g11, 0, none⟩) 1 1 [.int .i64 Pf, .int .i64 Mf, .slice Af mf.length kf]] at hS
    refine WL.eqlD rfl rfl rfl ?_
    refine WL.move rfl rfl ?_
    by_cases g26 : r23 = r25
    · have hv := hv.1 g26
      rw [decide_eq_true g26]
      refine WL.take rfl ?_
      refine WL.move rfl rfl ?_
      refine WL.take rfl ?_
      refine WL.move rfl rfl ?_
      refine WL.take rfl ?_
      refine WL.move rfl rfl ?_
      refine WL.take rfl ?_
      refine SL.call hS (ok_fcompare (GFX.gfr (hS.chunk (i := 0) rfl)) (hS.ro ht) (hS.ro hp) hv) Try.func12 rfl Try.nm12 rfl rfl ?_
      rintro _ _ w27 ⟨r28, rfl, rfl, hv⟩ hGw27 hS
      change St _ _ _ _ [.ch lo18 hi19 (fun wz => GFX lo18 hi19 wz ad17 F16), .row 24 3 (some ⟨g11, 0, none⟩) 1 1 [.int .i64 Pf, .int .i64 Mf, .slice Af mf.length kf]] at hS
      refine WL.take rfl ?_
      refine WL.move rfl rfl ?_
      refine WL.take rfl ?_
      obtain ⟨o29, hv⟩ := hv
      refine WL.neg (r := (-r23)) rfl (wrn o29) rfl ?_
      refine WL.take rfl ?_
      refine WL.eqlD rfl rfl rfl ?_
      refine WL.pick rfl rfl rfl ?_
      refine WL.move rfl rfl ?_
      by_cases g30 : r28 = (-r23)
      · have hv := hv.1 g30
        rw [decide_eq_true g30]
        refine WL.take rfl ?_
        refine WL.move rfl rfl ?_
        refine WL.take rfl ?_
        refine SL.lit1 (vs := is ([(1 : Int)] : List Int)) hS Try.underlying22 Try.el3 rfl rfl rfl rfl (is_one _) rfl ?_
        intro A31 w32 hS
        refine WL.take rfl ?_
        refine SL.lit1 (vs := is ([(0 : Int), (1 : Int)] : List Int)) hS Try.underlying22 Try.el3 rfl rfl rfl rfl (is_one _) rfl ?_
        intro A34 w35 hS
        refine WL.take rfl ?_
        refine SL.call hS (ok_fcompare (GFX.gfr (hS.chunk (i := 2) rfl)) (hS.rd (i := 1) rfl) (hS.rd (i := 0) rfl) hv) Try.func12 rfl Try.nm12 rfl rfl ?_
        rintro _ _ w37 ⟨r38, rfl, rfl, hv⟩ hGw37 hS
        change St _ _ _ _ [.row 3 1 A34 2 2 (is ([(0 : Int), (1 : Int)] : List Int)), .row 3 1 A31 1 1 (is ([(1 : Int)] : List Int)), .ch lo18 hi19 (fun wz => GFX lo18 hi19 wz ad17 F16), .row 24 3 (some ⟨g11, 0, none⟩) 1 1 [.int .i64 Pf, .int .i64 Mf, .slice Af mf.length kf]] at hS
        refine WL.take rfl ?_
        refine WL.eqlD rfl rfl rfl ?_
        refine WL.pick rfl rfl rfl ?_
        refine WL.assign rfl rfl ?_
        refine WL.done ?_
        refine W.ret ?_
        refine ⟨_, rfl, Fin.nil ?_⟩
        exact ⟨_, hS.ext, (hS.pick [] rfl).rows, News.of (hS.pick [] rfl).rows rfl, ⟨(decide (r38 = (-1 : Int))), rfl, rfl, hv⟩⟩
      · have hv := hv.2 g30
        rw [decide_eq_false g30]
        refine WL.pass rfl rfl rfl ?_
        refine WL.pass rfl rfl rfl ?_
        refine WL.pass rfl rfl rfl ?_
        refine WL.pass rfl rfl rfl ?_
        refine WL.pass rfl rfl rfl ?_
        refine WL.pick rfl rfl rfl ?_
        refine WL.assign rfl rfl ?_
        refine WL.done ?_
        refine W.ret ?_
        refine ⟨_, rfl, Fin.nil ?_⟩
        exact ⟨_, hS.ext, (hS.pick [] rfl).rows, News.of (hS.pick [] rfl).rows rfl, ⟨false, rfl, rfl, hv⟩⟩
    · have hv := hv.2 g26
      rw [decide_eq_false g26]
      refine WL.pass rfl rfl rfl ?_
      refine WL.pass rfl rfl rfl ?_
      refine WL.pass rfl rfl rfl ?_
      refine WL.pass rfl rfl rfl ?_
      refine WL.pass rfl rfl rfl ?_
      refine WL.pass rfl rfl rfl ?_
      refine WL.pass rfl rfl rfl ?_
      refine WL.pick rfl rfl rfl ?_
      refine WL.move rfl rfl ?_
      refine WL.pass rfl rfl rfl ?_
      refine WL.pass rfl rfl rfl ?_
      refine WL.pass rfl rfl rfl ?_
      refine WL.pass rfl rfl rfl ?_
      refine WL.pass rfl rfl rfl ?_
      refine WL.pick rfl rfl rfl ?_
      refine WL.assign rfl rfl ?_
      refine WL.done ?_
      refine W.ret ?_
      refine ⟨_, rfl, Fin.nil ?_⟩
      exact ⟨_, hS.ext, (hS.pick [] rfl).rows, News.of (hS.pick [] rfl).rows rfl, ⟨false, rfl, rfl, hv⟩⟩
end Go.Proofs.Ytaipfkmlgdmjbaa
set_option linter.unusedVariables false
set_option linter.unusedSimpArgs false
namespace Go.Proofs.Ytaipfkmlgdmjbaa
open Ks
/-! ### the field's operations -/
section
variable {k : Ks} {F : GFv} {P M : Int} {mf : List Int}
theorem el0 {x : Int} : k.el x = 0 ↔ inE (k.p ^ k.m) x = 0 := ⟨fun h => congrArg Subtype.val h, fun h => Subtype.ext h⟩
theorem w_rIn {x : Int} {Q : Int → Prop} (hF : FV P M mf k.p k.m k.v) (h : Q (k.co (k.el x))) : V_rIn P M mf x Q := v_rIn hF h
/-! ### lists that a loop fills -/
def Fill (val : Nat → Int) (n : Nat) (x : List Int) (z : Int) : Prop := ∃ j : Nat, z = j ∧ j ≤ n ∧ x.length = n ∧ ∀ i, i < j → vo x i = val i
theorem Fill.start (val : Nat → Int) (n : Nat) : Fill val n (List.replicate n (0 : Int)) 0 := ⟨0, rfl, Nat.zero_le _, List.length_replicate, fun i hi => by omega⟩
theorem Fill.step {val : Nat → Int} {n j : Nat} {x : List Int} (h : Fill val n x j) (hj : j < n) {u : Int} (hu : u = val j) : Fill val n (si x j u) ((j : Int) + 1) := by
  obtain ⟨i, e, h1, h2, h3⟩ := h
  obtain rfl : j = i := by omega
  refine ⟨j + 1, by push_cast; rfl, hj, by rw [si_nat, List.length_set, h2], fun i hi => ?_⟩
  rw [si_nat, vo_set]
  by_cases e2 : j = i
  · subst e2; rw [if_pos ⟨rfl, by omega⟩, hu]
  · rw [if_neg (fun h => e2 h.1)]; exact h3 i (by omega)
theorem fill_pol {x : List Int} {n : Nat} {f : Pl k.E} (hl : x.length = n) (hv : ∀ i, i < n → vo x i = k.co (f i)) (hs : Su f n) : k.Ell x ∧ k.pol x = f := by
  refine ⟨fun i hi => by rw [hv i (by omega)]; exact co_lt _, Pl.ext fun i => ?_⟩
  show k.el (vo x i) = f i
  by_cases hi : i < n
  · rw [hv i hi, el_co]
  · rw [vo_hi (by omega), hs i (by omega), el_zero]
/-! ### the program's polynomials -/
theorem w_coef {p : List Int} {i : Nat} {Q : Int → Prop} (K : GFk F k.p k.m k.v k.g) (h : Q (k.co (k.pol p i))) : V_coef F p i Q := by
  refine ⟨fun hi => ⟨⟨by omega, by omega⟩, v_Is K ⟨fun hb => ⟨⟨by omega, by omega⟩, ?_⟩, fun hb => ?_⟩⟩, fun hi => ?_⟩
  · rw [gi_nat] at hb ⊢
    have hb := of_decide_eq_true hb
    rwa [show k.co (k.pol p i) = vo p i from co_el hb] at h
  · rw [gi_nat] at hb
    have hb := of_decide_eq_false hb
    have : k.pol p i = 0 := by
      show k.el (vo p i) = 0
      exact el0.2 (by unfold inE; rw [if_neg hb])
    rw [this] at h; exact h
  · rw [pol_su p i (by omega)] at h; exact h
theorem w_deg {p : List Int} {Q : Int → Prop} (K : GFk F k.p k.m k.v k.g) (h : ∀ r, DegI (k.pol p) r → r < p.length → Q r) : V_deg F p Q := by
  show ∃ I J, _
  refine ⟨fun i z => Su (k.pol p) (p.length - i), fun r => DegI (k.pol p) r ∧ r < p.length, pol_su p, ?_, fun z hz => ?_, fun r hr => h r hr.1 hr.2⟩
  · intro i hi z hI
    refine w_coef K ⟨fun hne => ⟨.inr ⟨_, rfl, ?_, ?_⟩, by omega⟩, fun he => ?_⟩
    · exact fun e => hne (co_eq0.2 e)
    · rw [show p.length - 1 - i + 1 = p.length - i by omega]; exact hI
    · intro j hj
      by_cases e : j = p.length - 1 - i
      · rw [e]; exact co_eq0.1 (by simpa using he)
      · exact hI j (by omega)
  · refine h (-1) (.inl ⟨rfl, ?_⟩) (by omega)
    have hz : Su (k.pol p) (p.length - p.length) := hz
    rw [Nat.sub_self] at hz; exact hz.eq0
theorem w_canon {p : List Int} {Q : List Int → Prop} (K : GFk F k.p k.m k.v k.g) (hp : p.length ≤ 17592186044416) (h : Q (k.L (k.pol p))) : V_canon F p Q := by
  refine w_deg K fun r hr hlt => ?_
  have hr0 : -1 ≤ r := by rcases hr with ⟨h1, _⟩ | ⟨d, h1, _⟩ <;> omega
  obtain ⟨n, hn⟩ : ∃ n : Nat, r + 1 = n := ⟨(r + 1).toNat, by omega⟩
  rw [hn, Int.toNat_natCast]
  have hsu : Su (k.pol p) n := by
    rcases hr with ⟨h1, h2⟩ | ⟨d, h1, h2⟩
    · rw [h2]; exact Su.zero n
    · have := h2.2; rwa [show d + 1 = n by omega] at this
  refine ⟨small (by omega) (by omega), ⟨by omega, by omega, by omega⟩, Fill (fun i => k.co (k.pol p i)) n, fun x z => (n - z).toNat, Fill.start _ n, ?_⟩
  rintro x _ ⟨j, rfl, hj, hl, hv⟩
  dsimp only
  refine ⟨fun hz => w_coef K ⟨⟨by omega, by omega⟩, small (by omega) (by omega), Fill.step ⟨j, rfl, hj, hl, hv⟩ (by omega) rfl, by omega⟩, fun hz => ?_⟩
  obtain ⟨he, hpol⟩ := fill_pol hl (fun i hi => hv i (by omega)) hsu
  have : x = k.L (k.pol p) := L_eq ⟨he, fun h0 => ?_, hpol⟩
  · rw [this]; exact h
  · rw [hl] at h0 ⊢
    rw [hv (n - 1) (by omega)]
    rcases hr with ⟨h1, h2⟩ | ⟨d, h1, h2⟩
    · omega
    · rw [show n - 1 = d by omega]; exact fun e => h2.1 (co_eq0.1 e)
end
end Go.Proofs.Ytaipfkmlgdmjbaa
set_option linter.unusedVariables false
set_option linter.unusedSimpArgs false
namespace Go.Proofs.Ytaipfkmlgdmjbaa
open Ks
/-! ### products, quotients, greatest common divisors -/
section
variable {k : Ks} {F : GFv} {P M : Int} {mf : List Int}
theorem top_ne {x : List Int} {n : Nat} (hn : x.length = n) (h : k.pol x (n - 1) ≠ 0) : 0 < x.length → vo x (x.length - 1) ≠ 0 := fun _ e => h (by
  show k.el (vo x (n - 1)) = 0
  rw [hn] at e; rw [e, el_zero])
variable (k) in
def lpm (fs : List (List Int)) : Nat → Pl k.E
  | 0 => 1
  | n + 1 => lpm fs n * k.pol (gl fs n)
end
end Go.Proofs.Ytaipfkmlgdmjbaa
set_option linter.unusedVariables false
set_option linter.unusedSimpArgs false
namespace Go.Proofs.Ytaipfkmlgdmjbaa
open Ks
/-! ### greatest common divisors, values, derivatives, roots -/
section
variable {k : Ks} {F : GFv} {P M : Int} {mf : List Int}
/-- what cofactor answers -/
structure Cof (f h d u : Pl k.E) : Prop where
  fu : Fs u
  ex : ∃ v, Fs v ∧ d = u * f + v * h
  z0 : h = 0 → f = 0 → u = 0
  z1 : h = 0 → f ≠ 0 → ∃ c, c ≠ 0 ∧ u = ct c
  dg : ∀ b e, Dg h b → Dg d e → Su u (b - e)
variable (k) in
def rvs (f : Pl k.E) (n : Nat) : Pl k.E := fun i => if i ≤ n then f (n - i) else 0
variable (k) in
open Classical in
/-- the roots among the elements below n -/
noncomputable def rts (f : Pl k.E) : Nat → List Int
  | 0 => []
  | n + 1 => if vl_ f (k.el (n : Int)) = 0 then rts f n ++ [(n : Int)] else rts f n
end
end Go.Proofs.Ytaipfkmlgdmjbaa
set_option linter.unusedVariables false
set_option linter.unusedSimpArgs false
namespace Go.Proofs.Ytaipfkmlgdmjbaa
open Ks
/-! ### derivatives, interpolation -/
section
variable {k : Ks} {F : GFv} {P M : Int} {mf : List Int}
/-! ### the reference's polynomials -/
theorem w_rcanon {p : List Int} {Q : List Int → Prop} (hF : FV P M mf k.p k.m k.v) (hp : p.length ≤ 17592186044416) (h : Q (k.L (k.pol p))) : V_rcanon P M mf p Q := by
  refine ⟨fun z i => ∃ n j : Nat, z = n ∧ i = j ∧ j ≤ p.length ∧ n ≤ j ∧ (∀ t, n ≤ t → t < j → k.pol p t = 0) ∧ (0 < n → k.pol p (n - 1) ≠ 0), fun z i => (p.length - i).toNat, ⟨0, 0, rfl, rfl, Nat.zero_le _, Nat.le_refl _, fun t _ h => by omega, fun h => by omega⟩, ?_⟩
  rintro _ _ ⟨n, j, rfl, rfl, hj, hnj, hz, hn0⟩
  dsimp only
  refine ⟨fun hlt => ⟨fun z _ => ∃ n' : Nat, z = n' ∧ n' ≤ j + 1 ∧ (∀ t, n' ≤ t → t < j + 1 → k.pol p t = 0) ∧ (0 < n' → k.pol p (n' - 1) ≠ 0), ⟨⟨by omega, by omega⟩, _, w_rIn hF rfl, fun hne => ⟨small (by omega) (by omega), j + 1, by push_cast; rfl, Nat.le_refl _, fun t _ _ => by omega, fun _ => ?_⟩, fun he => ⟨n, rfl, by omega, fun t h1 h2 => ?_, hn0⟩⟩, ?_⟩, fun hge => ?_⟩
  · rw [Nat.add_sub_cancel]; exact fun e => hne (co_eq0.2 e)
  · by_cases e : t = j
    · have he2 : k.co (k.el (gi p (j : Int))) = 0 := by simpa using he
      rw [e]; exact co_eq0.1 he2
    · exact hz t h1 (by omega)
  · rintro _ b ⟨n', rfl, h1, h2, h3⟩
    exact ⟨small (by omega) (by omega), ⟨n', j + 1, rfl, by push_cast; rfl, by omega, h1, h2, h3⟩, by omega⟩
  · have hjp : j = p.length := by omega
    subst hjp
    have hsu : Su (k.pol p) n := fun i hi => by
      by_cases h1 : i < p.length
      · exact hz i hi h1
      · exact pol_su p i (by omega)
    rw [Int.toNat_natCast]
    refine ⟨⟨by omega, by omega, by omega⟩, Fill (fun i => k.co (k.pol p i)) n, fun x z => (n - z).toNat, Fill.start _ n, ?_⟩
    rintro x _ ⟨j, rfl, hj2, hl, hv⟩
    dsimp only
    refine ⟨fun hlt => ⟨⟨by omega, by omega⟩, _, w_rIn hF rfl, ⟨by omega, by omega⟩, small (by omega) (by omega), Fill.step ⟨j, rfl, hj2, hl, hv⟩ (by omega) rfl, by omega⟩, fun hge2 => ?_⟩
    obtain ⟨he, hpol⟩ := fill_pol hl (fun i hi => hv i (by omega)) hsu
    have : x = k.L (k.pol p) := L_eq ⟨he, fun h0 => ?_, hpol⟩
    · rw [this]; exact h
    · refine top_ne (k := k) hl ?_ h0
      rw [hpol]; exact hn0 (by omega)
end
end Go.Proofs.Ytaipfkmlgdmjbaa
set_option linter.unusedVariables false
set_option linter.unusedSimpArgs false
namespace Go.Proofs.Ytaipfkmlgdmjbaa
open Ks
/-! ### the reference's quotients, values; what the laws ask first -/
section
variable {k : Ks} {F : GFv} {P M : Int} {mf : List Int}
end
theorem FV.same {P M : Int} {mf : List Int} {p m v p' m' v' : Nat} (F : FV P M mf p m v) (F' : FV P M mf p' m' v') : p = p' ∧ m = m' ∧ v = v' := by
  have h1 := F.eP; have h2 := F'.eP; have h3 := F.eM; have h4 := F'.eM
  have e1 : p = p' := by omega
  have e2 : m = m' := by omega
  subst e1; subst e2
  refine ⟨rfl, rfl, ?_⟩
  have hp := F.p2
  rw [← nm_dv (p := p) (m := m) (by omega) F.vlt, ← nm_dv (p := p) (m := m) (by omega) F'.vlt, ← F.vo, ← F'.vo]
end Go.Proofs.Ytaipfkmlgdmjbaa
set_option linter.unusedVariables false
set_option linter.unusedSimpArgs false
namespace Go.Proofs.Ytaipfkmlgdmjbaa
open Ks
section
variable {k : Ks} {F : GFv} {P M : Int} {mf : List Int}
theorem w_open {Q : Option GFv × Bool → Prop} (h0 : ¬ Valid P M mf → Q (none, true)) (h1 : ∀ (F : GFv) (k : Ks), GFk F k.p k.m k.v k.g → FV P M mf k.p k.m k.v → Q (some F, true)) : V_open P M mf Q := by
  refine v_New (fun hV => v_rCheck ⟨fun _ => h0 hV, fun hn => absurd (ck_no hV) (by intro e; rw [e] at hn; exact hn (by decide))⟩) fun F p m v g K eP eM em => ?_
  have hF : FV P M mf p m v := by have := K.fv; rwa [eP, eM, em] at this
  refine v_rCheck ⟨fun hn => ?_, fun hn => ⟨fun h => absurd rfl h, fun _ => h1 F ⟨p, m, v, g, hF.p2, hF.m0, hF.q, hF.ring, K.G⟩ K hF⟩⟩
  exact absurd (ck_ok ⟨_, _, _, hF⟩) hn
theorem vo_rev {l : List Int} {i : Nat} (h : i < l.length) : vo l.reverse i = vo l (l.length - 1 - i) := by
  unfold vo
  rw [List.getD_eq_getElem?_getD, List.getD_eq_getElem?_getD, List.getElem?_reverse h]
theorem w_reverseL {s : List Int} {Q : List Int → Prop} (hl : s.length ≤ 17592186044416) (h : Q s.reverse) : V_reverseL s Q := by
  refine ⟨small (by omega) (by omega), fun x z y => ∃ i : Nat, z = i ∧ y = (s.length : Int) - 1 - i ∧ 2 * i ≤ s.length + 1 ∧ x.length = s.length ∧ ∀ j, j < s.length → vo x j = if j < i ∨ s.length ≤ j + i then vo s (s.length - 1 - j) else vo s j, fun x z y => (y - z + 1).toNat, ⟨0, rfl, by omega, by omega, rfl, fun j hj => by rw [if_neg (by omega)]⟩, ?_⟩
  rintro x _ _ ⟨i, rfl, rfl, hi, hx, hv⟩
  dsimp only
  refine ⟨fun hz => ⟨True, ⟨⟨by omega, by omega⟩, ⟨by omega, by omega⟩, ⟨by omega, by omega⟩, ⟨by omega, by omega⟩, trivial⟩, fun _ => ⟨small (by omega) (by omega), small (by omega) (by omega), ⟨i + 1, by push_cast; rfl, by omega, by omega, ?_, fun j hj => ?_⟩, by omega⟩⟩, fun hz => ?_⟩
  · simp [si, hx]
  · obtain ⟨u, hu⟩ : ∃ u : Nat, (s.length : Int) - 1 - i = u := ⟨s.length - 1 - i, by omega⟩
    rw [hu, si_nat, si_nat, gi_nat, gi_nat, vo_set, vo_set, List.length_set]
    have e1 := hv i (by omega)
    have e2 := hv u (by omega)
    rw [if_neg (by omega)] at e1 e2
    by_cases h1 : u = j
    · rw [if_pos ⟨h1, by omega⟩, if_pos (by omega), e1]; congr 1; omega
    · rw [if_neg (by omega)]
      by_cases h2 : i = j
      · rw [if_pos ⟨h2, by omega⟩, if_pos (by omega), e2]; congr 1; omega
      · rw [if_neg (by omega), hv j hj]
        by_cases h3 : j < i ∨ s.length ≤ j + i
        · rw [if_pos h3, if_pos (by omega)]
        · rw [if_neg h3, if_neg (by omega)]
  · have : x = s.reverse := vo_ext (by rw [hx, List.length_reverse]) fun j hj => by
      rw [vo_rev (by omega), hv j (by omega)]
      by_cases h3 : j < i ∨ s.length ≤ j + i
      · rw [if_pos h3]
      · rw [if_neg h3]; congr 1; omega
    rw [this]; exact h
/-- The order of lists of one length, from the highest place down. -/
def cR (a b : List Int) : Nat → Int
  | 0 => 0
  | n + 1 => if vo a n < vo b n then -1 else if vo b n < vo a n then 1 else cR a b n
def fc (a b : List Int) : Int := if a.length < b.length then -1 else if b.length < a.length then 1 else cR a b a.length
theorem cR_neg (a b : List Int) : ∀ n, cR b a n = -(cR a b n)
  | 0 => rfl
  | n + 1 => by
    unfold cR
    rw [cR_neg a b n]
    by_cases h1 : vo a n < vo b n
    · rw [if_pos h1, if_neg (by omega), if_pos h1]; rfl
    · rw [if_neg h1]
      by_cases h2 : vo b n < vo a n
      · rw [if_pos h2, if_neg h1, if_pos h2]
      · rw [if_neg h2, if_neg h1, if_neg h2]
theorem fc_neg (a b : List Int) : fc b a = -(fc a b) := by
  unfold fc
  by_cases h1 : a.length < b.length
  · rw [if_neg (by omega), if_pos h1, if_pos h1]; rfl
  · rw [if_neg h1]
    by_cases h2 : b.length < a.length
    · rw [if_pos h2, if_neg h1, if_pos h2]
    · rw [if_neg h2, if_neg h1, if_neg h2, show b.length = a.length by omega]; exact cR_neg a b _
theorem cR_i64 (a b : List Int) : ∀ n, -1 ≤ cR a b n ∧ cR a b n ≤ 1
  | 0 => by unfold cR; omega
  | n + 1 => by
    have := cR_i64 a b n
    unfold cR
    split
    · omega
    · split <;> omega
theorem fc_i64 (a b : List Int) : -1 ≤ fc a b ∧ fc a b ≤ 1 := by
  have := cR_i64 a b a.length
  unfold fc
  split
  · omega
  · split <;> omega
theorem w_cmp {x y : Int} {Q : Int → Prop} (h : Q (if x < y then -1 else if y < x then 1 else 0)) : V_cmp x y Q := by
  have e : decide (x ≠ x) = false := by simp
  unfold V_cmp V_isNaN
  rw [e, show decide (y ≠ y) = false by simp]
  refine ⟨fun h => absurd h (by decide), fun _ => ⟨fun h => absurd h (by decide), fun _ => ⟨fun h1 => ?_, fun h1 => ⟨fun h2 => ?_, fun h2 => ?_⟩⟩⟩⟩
  · rwa [if_pos h1] at h
  · rwa [if_neg h1, if_pos h2] at h
  · rwa [if_neg h1, if_neg h2] at h
theorem w_compare {a b : List Int} {Q : Int → Prop} (hl : a.length ≤ 17592186044416) (he : a.length = b.length) (h : Q (cR a b a.length)) : V_compare a.reverse b.reverse Q := by
  have la : a.reverse.length = a.length := List.length_reverse
  have lb : b.reverse.length = b.length := List.length_reverse
  refine ⟨fun z => ∃ i : Nat, z = i ∧ i ≤ a.length ∧ cR a b a.length = cR a b (a.length - i), fun z => (a.length - z).toNat, ⟨0, rfl, Nat.zero_le _, rfl⟩, ?_⟩
  rintro _ ⟨i, rfl, hi, hc⟩
  refine ⟨fun hz => ⟨⟨by omega, by omega⟩, fun h1 => by omega, fun _ => ⟨⟨by omega, by omega⟩, w_cmp ?_⟩⟩, fun hz => ⟨fun h1 => by omega, fun _ => ?_⟩⟩
  · have hi2 : i < a.length := by omega
    rw [gi_nat, gi_nat, vo_rev hi2, vo_rev (by omega), ← he]
    obtain ⟨t, ht⟩ : ∃ t, a.length - i = t + 1 := ⟨a.length - i - 1, by omega⟩
    rw [show a.length - 1 - i = t by omega]
    rw [ht, cR] at hc
    by_cases h1 : vo a t < vo b t
    · rw [if_pos h1] at hc ⊢
      rw [hc] at h
      exact ⟨fun _ => h, fun h => absurd (by decide) h⟩
    · rw [if_neg h1] at hc ⊢
      by_cases h2 : vo b t < vo a t
      · rw [if_pos h2] at hc ⊢
        rw [hc] at h
        exact ⟨fun _ => h, fun h => absurd (by decide) h⟩
      · rw [if_neg h2] at hc ⊢
        exact ⟨fun h => absurd rfl h, fun _ => ⟨small (by omega) (by omega), ⟨i + 1, by push_cast; rfl, by omega, by rw [hc, show a.length - (i + 1) = t by omega]⟩, by show ((a.length : Int) - ((i : Int) + 1)).toNat < ((a.length : Int) - (i : Int)).toNat; omega⟩⟩
  · rw [show a.length - i = 0 by omega] at hc
    rw [hc] at h; exact h
theorem w_fcompare {p t : List Int} {Q : Int → Prop} (K : GFk F k.p k.m k.v k.g) (hp : p.length ≤ 17592186044416) (ht : t.length ≤ 17592186044416) (h : Q (fc (k.L (k.pol p)) (k.L (k.pol t)))) : V_fcompare F p t Q := by
  have h1 := L_len (pol_su (k := k) p)
  have h2 := L_len (pol_su (k := k) t)
  refine w_canon K hp (w_canon K ht ⟨fun hne => w_cmp ?_, fun he => w_reverseL (by omega) (w_reverseL (by omega) (w_compare (by omega) (by omega) ?_))⟩)
  · unfold fc at h
    by_cases h3 : (k.L (k.pol p)).length < (k.L (k.pol t)).length
    · rw [if_pos h3] at h; rw [if_pos (by omega)]; exact h
    · rw [if_neg h3, if_pos (by omega)] at h; rw [if_neg (by omega), if_pos (by omega)]; exact h
  · unfold fc at h
    rw [if_neg (by omega), if_neg (by omega)] at h; exact h
theorem w_rcompare {p t : List Int} {Q : Int → Prop} (hF : FV P M mf k.p k.m k.v) (hp : p.length ≤ 17592186044416) (ht : t.length ≤ 17592186044416) (h : Q (fc (k.L (k.pol p)) (k.L (k.pol t)))) : V_rcompare P M mf p t Q := by
  have h1 := L_len (pol_su (k := k) p)
  have h2 := L_len (pol_su (k := k) t)
  refine w_rcanon hF hp (w_rcanon hF ht ?_)
  generalize k.L (k.pol p) = a at h h1
  generalize k.L (k.pol t) = b at h h2
  unfold fc at h
  refine ⟨fun h3 => ?_, fun h3 => ⟨fun h4 => ?_, fun h4 => ⟨small (by omega) (by omega), ?_⟩⟩⟩
  · rwa [if_pos (by omega)] at h
  · rwa [if_neg (by omega), if_pos (by omega)] at h
  · rw [if_neg (by omega), if_neg (by omega)] at h
    refine ⟨fun z => ∃ n : Nat, z = (n : Int) - 1 ∧ n ≤ a.length ∧ cR a b a.length = cR a b n, fun z => (z + 1).toNat, ⟨a.length, rfl, Nat.le_refl _, rfl⟩, ?_⟩
    rintro _ ⟨n, rfl, hn, hc⟩
    refine ⟨fun hz => ?_, fun hz => ?_⟩
    · obtain ⟨j, rfl⟩ : ∃ j, n = j + 1 := ⟨n - 1, by omega⟩
      have ej : ((j + 1 : Nat) : Int) - 1 = (j : Int) := by omega
      simp only [ej]
      rw [cR] at hc
      refine ⟨⟨by omega, by omega⟩, ⟨by omega, by omega⟩, fun h5 => ?_, fun h5 => ⟨⟨by omega, by omega⟩, ⟨by omega, by omega⟩, fun h6 => ?_, fun h6 => ⟨small (by omega) (by omega), ⟨j, rfl, by omega, ?_⟩, by omega⟩⟩⟩
      · rw [if_pos (show vo a j < vo b j from h5)] at hc; rw [hc] at h; exact h
      · rw [if_neg (show ¬ vo a j < vo b j from h5), if_pos (show vo b j < vo a j from h6)] at hc; rw [hc] at h; exact h
      · rw [if_neg (show ¬ vo a j < vo b j from h5), if_neg (show ¬ vo b j < vo a j from h6)] at hc; exact hc
    · rw [show n = 0 by omega] at hc
      rw [hc] at h; exact h
theorem law_FactorOrder (p t : List Int) (hp : p.length ≤ 17592186044416) (ht : t.length ≤ 17592186044416) : V_FactorOrder P M mf p t (fun b => b = true) := by
  refine w_open (fun _ => rfl) fun F k K hF => ?_
  have hb := fc_i64 (k.L (k.pol p)) (k.L (k.pol t))
  refine w_fcompare K hp ht (w_rcompare hF hp ht ⟨fun _ => w_fcompare K ht hp ⟨small (by omega) (by omega), fun _ => w_fcompare K (by decide) (by decide) (decide_eq_true ?_), fun h => absurd (fc_neg _ _) h⟩, fun h => absurd rfl h⟩)
  have hd : Dg (k.pol [0, 1]) 1 := ⟨fun e => by
    have e1 : k.pol [0, 1] 1 = 1 := el_one
    rw [e1] at e
    have := congrArg k.co e
    rw [co_one, co_zero] at this
    exact absurd this (by decide), pol_su _⟩
  have l1 := L_len (pol_su (k := k) [1])
  have l2 := L_dg hd
  unfold fc
  rw [if_pos]
  simp at l1
  omega
end
end Go.Proofs.Ytaipfkmlgdmjbaa
