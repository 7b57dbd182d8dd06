/- Contracts of functions of the program, and what they lean on: Draw3, W30, Args2. -/
import Derived.Test.YthfpcebcfjlkmacG11
import Derived.Deep.Strs
import Derived.Deep.SlicePairs
import Derived.SizedLaws
set_option linter.unusedSimpArgs false
set_option linter.unusedVariables false
namespace Go.Proofs.Ythfpcebcfjlkmac
open Go.RowKit
/-- The same, where one operation ahead of m may come late. -/
def tailF (n : Nat) (l : List Oper) (ps : List Plan) (m f : Nat) : Bool :=
  ps.length == m && Nat.ble m l.length && (List.range l.length).all (fun i => (anyOn l i).all (fun j => Nat.blt j i)) &&
    (List.range l.length).all (fun i => Nat.blt i m || (List.range m).all (fun j => j == f || (reach l 6 (anyOn l i)).contains j)) && (List.range m).all fun i =>
    (match ps[i]? with
     | none => false
     | some p => p.on.all (fun j => (anyOn l i).contains j) && p.slots.all (fun t => (List.range m).all fun k => k == i || dstAt l k != some t || (anyOn l k).contains i)) &&
    (match dstAt l i with
     | none => false
     | some d => Nat.blt d n && (List.range m).all fun k => k == i || dstAt l k != some d)
theorem cnt_le : ∀ (x : List Bool) (m : Nat), (∀ j, j < m → x[j]? = some true) → (x.filter (!·)).length ≤ x.length - m := by
  intro x m
  induction m generalizing x with
  | zero => intro _; exact List.length_filter_le _ _
  | succ m ih =>
    intro h
    cases x with
    | nil => simp
    | cons b x =>
      have hb := h 0 (by omega)
      simp at hb
      subst hb
      have := ih x (fun j hj => by have := h (j + 1) (by omega); simpa using this)
      simpa using this
theorem W.drawF {P : Program} {n id : Nat} {l : List Oper} {N : Post} {B : BPost} {L : Fr} {w0 : World} (m f : Nat) (ps : List Plan) (bs : List Fr) (V : Nat → Value → World → Prop)
    (hm : P.follows .mixedOrders = true) (hB : tailF n l ps m f = true)
    (hV : ∀ j v w1 w2, V j v w1 → w1.grownBy w2 none → V j v w2)
    (hobs : obs P n l V (fun _ => True) w0 L (l.length + 1) 0 (l.take m) ps bs)
    (hN : ∀ (vals : Nat → Value) w', w0.grownBy w' none → (∀ i, i < m → V i (vals i) w') →
      WA P n l N (l.length - m) (List.replicate m true ++ List.replicate (l.length - m) false) ((((List.range m).filterMap fun i => (dstAt l i).map fun t => (t, vals i))) ++ L) w')
    (hN2 : ∀ (vals : Nat → Value) w', w0.grownBy w' none → (∀ i, i < m → i ≠ f → V i (vals i) w') → ∀ q, q = (((List.range l.length).map fun k => Nat.blt k m && !(Nat.beq k f)).filter (!·)).length →
      WA P n l N q ((List.range l.length).map fun k => Nat.blt k m && !(Nat.beq k f)) ((((List.range m).filterMap fun i => if i = f then none else (dstAt l i).map fun t => (t, vals i))) ++ L) w') : W P n (.region id l.toArray true) N B L w0 := by
  simp only [tailF, Bool.and_eq_true, Bool.or_eq_true, List.all_eq_true, List.mem_range, beq_iff_eq, List.contains_iff_mem] at hB
  obtain ⟨⟨⟨⟨hlen, hlm0⟩, hlt0⟩, htail⟩, hB⟩ := hB
  have hlm : m ≤ l.length := by simpa [Nat.ble_eq] using hlm0
  refine ⟨fun a ha => wp_region_any hm ?_⟩
  have hon_lt : ∀ k, k < l.length → ∀ j ∈ anyOn l k, j < k := fun k hk j hj => by simpa [Nat.blt_eq] using hlt0 k hk j hj
  have key : ∀ (fuel : Nat) (listed : Array Bool) (vals : Nat → Value) (a : Act) (w : World), listed.size = l.length → (listed.toList.filter (!·)).length = fuel + (l.length - m) → (∀ k, listed.getD k false = true → k < m) →
      DInv n l ps V (fun _ => True) w0 L (l.length + 1) (fun k => listed.getD k false) vals a w → wpAny P .any l.toArray (fin n N B) (fuel + (l.length - m)) listed a w := by
    intro fuel
    induction fuel with
    | zero =>
      intro listed vals a w hsz hf hnm I
      have hall : ∀ k, k < m → listed.getD k false = true := fun k hk => by
        cases hb : listed.getD k false with
        | true => rfl
        | false =>
          exfalso
          have hcnt : ∀ (x : List Bool) (m : Nat), m ≤ x.length → (∀ j, m ≤ j → j < x.length → x[j]? = some false) → (x.length - m) + ((x.take m).filter (!·)).length = (x.filter (!·)).length := by
            intro x m hmx hfalse
            have h1 : x = x.take m ++ x.drop m := (List.take_append_drop m x).symm
            have h2 : (x.drop m).filter (!·) = x.drop m := by
              rw [List.filter_eq_self]
              intro b hb
              obtain ⟨j, hj, rfl⟩ := List.mem_iff_getElem.1 hb
              have := hfalse (m + j) (by omega) (by simp at hj; omega)
              rw [List.getElem_drop]
              rw [List.getElem?_eq_getElem (by simp at hj; omega)] at this
              simpa using this
            conv => rhs; rw [h1]
            rw [List.filter_append, List.length_append, h2, List.length_drop]
            omega
          have hx := hcnt listed.toList m (by simp; omega) (fun j h1 h2 => by
            have hj : j < listed.size := by simpa using h2
            cases hbj : listed.getD j false with
            | true => have := hnm j hbj; omega
            | false =>
              simp [Array.getD_eq_getD_getElem?, hj] at hbj
              simp [hj, hbj])
          have hsz2 : listed.toList.length = l.length := by simpa using hsz
          have hzero : ((listed.toList.take m).filter (!·)).length = 0 := by omega
          have hz := filter_zero hzero k (by simp; omega)
          rw [List.getElem?_take, if_pos hk] at hz
          have hk2 : k < listed.size := by omega
          simp [Array.getD_eq_getD_getElem?, hk2] at hb
          simp [hk2, hb] at hz
      have hlist : listed = (List.replicate m true ++ List.replicate (l.length - m) false).toArray := by
        apply Array.ext
        · simp [hsz]; omega
        · intro k h1 h2
          have hk : k < l.length := by omega
          rcases Nat.lt_or_ge k m with h | h
          · have := hall k h
            simp [Array.getD_eq_getD_getElem?, h1] at this
            simp [this, List.getElem_append, h]
          · have hb : listed.getD k false = false := by
              cases hb : listed.getD k false with
              | false => rfl
              | true => have := hnm k hb; omega
            simp [Array.getD_eq_getD_getElem?, h1] at hb
            simp [hb, List.getElem_append, show ¬ k < m by omega]
      have hw := I.wd (by simp [Array.getD_eq_getD_getElem?, show ¬ l.length + 1 < listed.size by omega])
      have hvs : ∀ j, j < m → V j (vals j) w := fun j hj => I.vs j (hall j hj) (by omega)
      have hW := hN vals w hw hvs
      have hHas : Has n a ((((List.range m).filterMap fun i => (dstAt l i).map fun t => (t, vals i))) ++ L) := by
        refine ⟨I.nd, I.sz, fun t v hv => ?_⟩
        rw [lk_append] at hv
        cases hc : lk ((List.range m).filterMap fun i => (dstAt l i).map fun t => (t, vals i)) t with
        | some u =>
          rw [hc] at hv
          cases hv
          have := lk_mem hc
          simp only [List.mem_filterMap, List.mem_range, Option.map_eq_some_iff] at this
          obtain ⟨k, hk, t', ht', he⟩ := this
          cases he
          exact I.new k t (hall k hk) ht'
        | none =>
          rw [hc] at hv
          refine I.old t v hv fun k hk hd => ?_
          have hm2 : (t, vals k) ∈ (List.range m).filterMap fun i => (dstAt l i).map fun t => (t, vals i) := by
            simp only [List.mem_filterMap, List.mem_range, Option.map_eq_some_iff]
            exact ⟨k, hnm k hk, t, hd, rfl⟩
          obtain ⟨u, hu⟩ := lk_of_mem hm2
          rw [hc] at hu; cases hu
      rw [hlist, Nat.zero_add]
      exact hW.out a hHas B
    | succ fuel ih =>
      intro listed vals a w hsz hf hnm I
      rw [show fuel + 1 + (l.length - m) = (fuel + (l.length - m)) + 1 by omega] at hf ⊢
      have hlist : ∀ k, listed.getD k true = false → k < l.length ∧ listed.getD k false = false := fun k hk => by
        rcases Nat.lt_or_ge k listed.size with h | h
        · simp [Array.getD_eq_getD_getElem?, h] at hk ⊢
          exact ⟨by omega, hk⟩
        · simp [Array.getD_eq_getD_getElem?, Array.getElem?_eq_none h] at hk
      by_cases hcase : ∀ k, k < m → k ≠ f → listed.getD k false = true
      · by_cases hfl : f < m ∧ listed.getD f false = false
        · have hX : listed = ((List.range l.length).map fun k => Nat.blt k m && !(Nat.beq k f)).toArray := by
            apply Array.ext
            · simp [hsz]
            · intro k h1 h2
              have hk : k < l.length := by omega
              have hv : listed.getD k false = listed[k] := by simp [Array.getD_eq_getD_getElem?, h1]
              rw [← hv]
              simp only [List.getElem_toArray, List.getElem_map, List.getElem_range]
              by_cases hkf : k = f
              · subst hkf; rw [hfl.2]; simp [beq_self]
              · rcases Nat.lt_or_ge k m with h | h
                · rw [hcase k h hkf, beq_ne hkf]; simp [Nat.blt_eq, h]
                · have hb : listed.getD k false = false := by
                    cases hb : listed.getD k false with
                    | false => rfl
                    | true => have := hnm k hb; omega
                  rw [hb, beq_ne hkf]
                  have : Nat.blt k m = false := by
                    cases hc : Nat.blt k m with
                    | false => rfl
                    | true => rw [Nat.blt_eq] at hc; omega
                  rw [this]; rfl
          have hw := I.wd (by simp [Array.getD_eq_getD_getElem?, show ¬ l.length + 1 < listed.size by omega])
          have hvs : ∀ j, j < m → j ≠ f → V j (vals j) w := fun j hj hne => I.vs j (hcase j hj hne) (by omega)
          have hW := hN2 vals w hw hvs (fuel + 1 + (l.length - m)) (by rw [← @List.toList_toArray _ ((List.range l.length).map fun k => Nat.blt k m && !(Nat.beq k f)), ← hX]; omega)
          have hHas : Has n a ((((List.range m).filterMap fun i => if i = f then none else (dstAt l i).map fun t => (t, vals i))) ++ L) := by
            refine ⟨I.nd, I.sz, fun t v hv => ?_⟩
            rw [lk_append] at hv
            cases hc : lk ((List.range m).filterMap fun i => if i = f then none else (dstAt l i).map fun t => (t, vals i)) t with
            | some u =>
              rw [hc] at hv
              cases hv
              have := lk_mem hc
              simp only [List.mem_filterMap, List.mem_range] at this
              obtain ⟨k, hk, he⟩ := this
              by_cases hkf : k = f
              · rw [if_pos hkf] at he; cases he
              · rw [if_neg hkf] at he
                simp only [Option.map_eq_some_iff] at he
                obtain ⟨t', ht', he⟩ := he
                cases he
                exact I.new k t (hcase k hk hkf) ht'
            | none =>
              rw [hc] at hv
              refine I.old t v hv fun k hk hd => ?_
              have hkf : k ≠ f := fun e => by subst e; rw [hfl.2] at hk; cases hk
              have hm2 : (t, vals k) ∈ (List.range m).filterMap fun i => if i = f then none else (dstAt l i).map fun t => (t, vals i) := by
                simp only [List.mem_filterMap, List.mem_range]
                exact ⟨k, hnm k hk, by rw [if_neg hkf]; simp [hd]⟩
              obtain ⟨u, hu⟩ := lk_of_mem hm2
              rw [hc] at hu; cases hu
          rw [hX, show fuel + (l.length - m) + 1 = fuel + 1 + (l.length - m) by omega]
          exact hW.out a hHas B
        · exfalso
          have hall : ∀ k, k < m → listed.getD k false = true := fun k hk => by
            by_cases hkf : k = f
            · subst hkf
              cases hb : listed.getD k false with
              | true => rfl
              | false => exact absurd ⟨hk, hb⟩ hfl
            · exact hcase k hk hkf
          have := cnt_le listed.toList m (fun j hj => by
            have h3 := hall j hj
            have hj2 : j < listed.size := by omega
            simp [Array.getD_eq_getD_getElem?, hj2] at h3
            simp [hj2, h3])
          have hsz2 : listed.toList.length = l.length := by simpa using hsz
          omega
      · refine ⟨?_, ?_⟩
        · intro hr
          -- the first that has not come up yet is ready
          exfalso
          have hex : ∃ k, k < l.length ∧ listed.getD k false = false := by
            by_cases hc : ∃ k, k < l.length ∧ listed.getD k false = false
            · exact hc
            · have hfe : listed.toList.filter (!·) = [] := by
                rw [List.filter_eq_nil_iff]
                intro b hb
                obtain ⟨k, hk, rfl⟩ := List.mem_iff_getElem.1 hb
                have hk' : k < listed.size := by simpa using hk
                have : ¬ listed.getD k false = false := fun h => hc ⟨k, by omega, h⟩
                simp [Array.getD_eq_getD_getElem?, hk'] at this
                simp [this]
              rw [hfe] at hf; simp at hf
          have hmin : ∀ m, (∃ k, k ≤ m ∧ k < l.length ∧ listed.getD k false = false) → ∃ k, k < l.length ∧ listed.getD k false = false ∧ ∀ j, j < k → listed.getD j false = true := by
            intro m
            induction m with
            | zero => rintro ⟨k, hk, h1, h2⟩; exact ⟨k, h1, h2, fun j hj => by omega⟩
            | succ m ihm =>
              rintro ⟨k, hk, h1, h2⟩
              by_cases hc : ∃ j, j ≤ m ∧ j < l.length ∧ listed.getD j false = false
              · exact ihm hc
              · refine ⟨k, h1, h2, fun j hj => ?_⟩
                cases hb : listed.getD j false with
                | true => rfl
                | false => exact absurd ⟨j, by omega, by omega, hb⟩ hc
          obtain ⟨k0, hk0, hk0'⟩ := hex
          obtain ⟨k, h1, h2, h3⟩ := hmin k0 ⟨k0, Nat.le_refl _, hk0, hk0'⟩
          have hin : k ∈ Region.ready .any l.toArray listed := by
            refine mem_ready.2 ⟨?_, l[k], by simp [h1], fun e he hb => ?_⟩
            · have : k < listed.size := by omega
              simp [Array.getD_eq_getD_getElem?, this] at h2 ⊢
              exact h2
            · have hon : e.on ∈ anyOn l k := by
                simp only [anyOn, List.getElem?_eq_getElem h1, List.mem_map, List.mem_filter]
                exact ⟨e, ⟨by simpa using he, hb⟩, rfl⟩
              exact h3 e.on (hon_lt k h1 _ hon)
          rw [hr] at hin; cases hin
        · intro i hi
          obtain ⟨h1, o, ho, hpre⟩ := mem_ready.1 hi
          obtain ⟨hil0, hun⟩ := hlist i h1
          have ho' : l[i]? = some o := by simpa using ho
          have hpre' : ∀ j ∈ anyOn l i, listed.getD j false = true := fun j hj => by
            simp only [anyOn, ho', List.mem_map, List.mem_filter] at hj
            obtain ⟨e, ⟨he, hb⟩, rfl⟩ := hj
            exact hpre e (by simpa using he) hb
          have hil : i < m := by
            rcases Nat.lt_or_ge i m with h | h
            · exact h
            · exfalso
              refine hcase fun k hk hkf => ?_
              rcases htail i hil0 with h2 | h2
              · simp [Nat.blt_eq] at h2; omega
              · rcases h2 k hk with h3 | h3
                · exact absurd h3 hkf
                · exact reach_all (p := fun k => listed.getD k false = true) I.cl 6 (anyOn l i) hpre' k h3
          obtain ⟨hp, hd⟩ := hB i hil
          have hpi : i < ps.length := by omega
          rw [List.getElem?_eq_getElem hpi] at hp
          generalize hpe : ps[i] = p at hp
          simp only [Bool.and_eq_true, List.all_eq_true, Bool.or_eq_true, List.mem_range, beq_iff_eq, bne_iff_ne, ne_eq, List.contains_iff_mem] at hp
          obtain ⟨hon, hsl⟩ := hp
          obtain ⟨b, hbs, hsub, hob⟩ := obs_at (l.take m) ps bs 0 hobs i o p (by rw [List.getElem?_take, if_pos hil]; exact ho') (by rw [List.getElem?_eq_getElem hpi, hpe])
          rw [Nat.zero_add] at hob
          have hw0 : p.pure = false → w0.grownBy w none := fun _ => I.wd (by
            cases hb : listed.getD (l.length + 1) false with
            | false => rfl
            | true => have := I.lt _ hb; omega)
          have hT := told_at vals p.on b (hob w hw0) (fun j hj => I.vs j (hpre' j (hon j hj)) (by have := hon_lt i hil0 j (hon j hj); omega))
          generalize hF : (List.map (fun j => ((dstAt l j).getD 0, vals j)) p.on).reverse ++ b = F at hT
          have hdst : ∀ j, j < m → ∃ d, dstAt l j = some d ∧ d < n := fun j hj => by
            have := (hB j hj).2
            cases hd : dstAt l j with
            | none => rw [hd] at this; simp at this
            | some d => rw [hd] at this; simp only [Bool.and_eq_true] at this; exact ⟨d, rfl, by simpa [Nat.blt_eq] using this.1⟩
          have hHF : Has n a (F ++ (List.range n).map fun t => (t, a.tmps.getD t undef)) := by
            refine ⟨I.nd, I.sz, fun t v hv => ?_⟩
            rw [lk_append] at hv
            cases hc : lk F t with
            | some u =>
              rw [hc] at hv; cases hv
              have hm := lk_mem hc
              rw [← hF] at hm
              rcases List.mem_append.1 hm with hm | hm
              · simp only [List.mem_reverse, List.mem_map] at hm
                obtain ⟨j, hj, he⟩ := hm
                cases he
                obtain ⟨d, hd', _⟩ := hdst j (hnm j (hpre' j (hon j hj)))
                rw [hd']
                exact I.new j d (hpre' j (hon j hj)) hd'
              · have hL := sub_at hsub hm
                have hts : t ∈ p.slots := by rw [← hbs]; exact List.mem_map.2 ⟨_, hm, rfl⟩
                refine I.old t v hL fun k hk hdk => ?_
                rcases hsl t hts k (hnm k hk) with (h | h) | h
                · subst h; rw [hun] at hk; cases hk
                · exact h hdk
                · have := I.cl k hk i h; rw [hun] at this; cases this
            | none =>
              rw [hc] at hv
              have hm := lk_mem hv
              simp only [List.mem_map, List.mem_range] at hm
              obtain ⟨t', ht', he⟩ := hm
              cases he
              have : t < a.tmps.size := by rw [I.sz]; exact ht'
              simp [Array.getD_eq_getD_getElem?, this]
          have hW := (hT ((List.range n).map fun t => (t, a.tmps.getD t undef))).out a hHF (fun _ _ _ => False)
          have hne1 : i ≠ l.length + 1 := by omega
          have fin' : ∀ a' w', wpList P l.toArray (fin n (fun L' w' => if i = l.length + 1 then L' = F ++ (List.range n).map (fun t => (t, a.tmps.getD t undef)) ∧ True else ∃ u, L' = ((dstAt l i).getD 0, u) :: (F ++ (List.range n).map fun t => (t, a.tmps.getD t undef)) ∧ (if p.pure then w' = w else w.grownBy w' none) ∧ V i u w') (fun _ _ _ => False)) [] a' w' →
              wpAny P .any l.toArray (fin n N B) (fuel + (l.length - m)) (listed.setIfInBounds i true) a' w' := by
            intro a' w' hq
            obtain ⟨L', hL', hq⟩ := hq
            rw [if_neg hne1] at hq
            have hisz : i < listed.size := by omega
            have hset : ∀ k, (listed.setIfInBounds i true).getD k false = true → k = i ∨ listed.getD k false = true := fun k hk => by
              rw [getD_set _ _ _ hisz] at hk
              simp only [Bool.or_eq_true, decide_eq_true_eq] at hk
              exact hk.imp Eq.symm (fun h => h)
            have hset' : ∀ k, k = i ∨ listed.getD k false = true → (listed.setIfInBounds i true).getD k false = true := fun k hk => by
              rw [getD_set _ _ _ hisz]
              simp only [Bool.or_eq_true, decide_eq_true_eq]
              exact hk.imp Eq.symm (fun h => h)
            have hcount : ((listed.setIfInBounds i true).toList.filter (!·)).length = fuel + (l.length - m) := by
              have hg : listed.toList[i]? = some false := by
                simp [Array.getD_eq_getD_getElem?, hisz] at hun
                simp [hisz, hun]
              have := filter_set listed.toList i hg
              rw [Array.toList_setIfInBounds]
              omega
            have hm0' : ∀ k, (listed.setIfInBounds i true).getD k false = true → k < m := fun k hk => by
              rcases hset k hk with rfl | h
              · exact hil
              · exact hnm k h
            have hcl : ∀ k, (listed.setIfInBounds i true).getD k false = true → ∀ j ∈ anyOn l k, (listed.setIfInBounds i true).getD j false = true := fun k hk j hj => by
              rcases hset k hk with rfl | h
              · exact hset' j (.inr (hpre' j hj))
              · exact hset' j (.inr (I.cl k h j hj))
            have hlt : ∀ k, (listed.setIfInBounds i true).getD k false = true → k < l.length := fun k hk => by
              rcases hset k hk with rfl | h
              · exact hil0
              · exact I.lt k h
            have hsome : ∀ t, t < n → ∃ v, lk (F ++ (List.range n).map fun t => (t, a.tmps.getD t undef)) t = some v := fun t ht => by
              rw [lk_append]
              cases lk F t with
              | some u => exact ⟨u, rfl⟩
              | none => exact ⟨_, lk_full a n t ht⟩
            obtain ⟨u, rfl, hww, hVu⟩ := hq
            obtain ⟨d, hdd, hdn⟩ := hdst i hil
            rw [hdd] at hL' hd
            simp only [Option.getD_some] at hL'
            simp only [Bool.and_eq_true, List.all_eq_true, List.mem_range, Bool.or_eq_true, beq_iff_eq, bne_iff_ne, ne_eq] at hd
            have hsame' : ∀ t v, t ≠ d → a.tmps[t]? = some v → a'.tmps[t]? = some v := fun t v hne hv => by
              have ht : t < n := by have := (Array.getElem?_eq_some_iff.1 hv).1; rw [I.sz] at this; exact this
              obtain ⟨v', hv'⟩ := hsome t ht
              have h2 := hHF.at_ t v' hv'
              rw [hv] at h2; cases h2
              exact hL'.at_ t v (by rw [lk_ne (Ne.symm hne)]; exact hv')
            have hnew : a'.tmps[d]? = some u := hL'.at_ d u (lk_self _ _ _)
            have hgw : w.grownBy w' none := by
              by_cases hp' : p.pure = true
              · rw [if_pos hp'] at hww; subst hww; exact ext_refl _
              · rw [if_neg hp'] at hww; exact hww
            have hVk : ∀ k, listed.getD k false = true → k ≠ l.length + 1 → V k (vals k) w' := fun k h hne => hV k _ w w' (I.vs k h hne) hgw
            refine ih _ (fun k => if k = i then u else vals k) a' w' (by simpa using hsz) hcount hm0' ⟨hL'.nd, hL'.sz, fun t v ht hk => ?_, fun k t hk ht => ?_, fun h => ?_, fun h => trivial, fun k hk hne => ?_, hcl, hlt⟩
            · exact hsame' t v (fun e' => hk i (hset' i (.inl rfl)) (by rw [hdd, e'])) (I.old t v ht fun k h => hk k (hset' k (.inr h)))
            · by_cases ek : k = i
              · subst ek; rw [hdd] at ht; cases ht; simpa using hnew
              · rw [if_neg ek]
                rcases hset k hk with h | h
                · exact absurd h ek
                · refine hsame' t _ (fun e' => ?_) (I.new k t h ht)
                  rcases hd.2 k (hnm k h) with h' | h'
                  · exact ek h'
                  · exact h' (by rw [ht, e'])
            · refine ext_trans (I.wd ?_) hgw
              cases hb : listed.getD (l.length + 1) false with
              | false => rfl
              | true => have := I.lt _ hb; omega
            · by_cases ek : k = i
              · subst ek; simpa using hVu
              · rw [if_neg ek]
                rcases hset k hk with h | h
                · exact absurd h ek
                · exact hVk k h hne
          unfold wpOp
          rw [ho]
          simp only [wpList] at hW
          by_cases hwant : Region.wanted o (yielded l.toArray a.tmps) = true
          · rw [if_pos hwant] at hW
            simp only [hwant, if_true]
            rcases hW with hW | ⟨_, a', w', L', _, hF'⟩
            · exact .inl (oper_wp_mono fin' (fun e a w hne h => by cases e <;> first | exact absurd rfl hne | (obtain ⟨_, _, h⟩ := h; exact h.elim)) hW)
            · exact hF'.elim
          · rw [if_neg hwant] at hW
            simp only [hwant, if_false, Bool.false_eq_true]
            exact fin' _ _ hW
  have hsz0 : ((Array.replicate l.toArray.size false).toList.filter (!·)).length = m + (l.length - m) := by simp; omega
  have := key m (Array.replicate l.toArray.size false) (fun _ => undef) a { w0 with drawn := w0.drawn + 1 } (by simp) hsz0 (fun k h => by rw [getD_rep] at h; cases h) {
    nd := ha.nd, sz := ha.sz
    old := fun t v h _ => ha.at_ t v h
    new := fun k t h => by rw [getD_rep] at h; cases h
    wd := fun _ => ⟨rfl, rfl, rfl, Nat.le_refl _, fun _ _ _ => rfl⟩
    ws := fun h => trivial
    vs := fun k h => by rw [getD_rep] at h; cases h
    cl := fun k h => by rw [getD_rep] at h; cases h
    lt := fun k h => by rw [getD_rep] at h; cases h }
  rw [show m + (l.length - m) = l.toArray.size by simp; omega] at this
  exact this
end Go.Proofs.Ythfpcebcfjlkmac
set_option linter.unusedSimpArgs false
set_option linter.unusedVariables false
namespace Go.Proofs.Ythfpcebcfjlkmac
open Go.RowKit
set_option maxHeartbeats 4000000 in
theorem RationalSchwarz_c {w : World} {Bl BNl : Nat} {Al : Option Addr} {ml cl : Nat} {cel : List Value} {rl : List Fr3} (hl : Rd Bl w 3 Al ml cl cel) (hNl : RatsR BNl w cel rl) {Bm BNm : Nat} {Am : Option Addr} {mm cm : Nat} {cem : List Value} {rm : List Fr3} (hm : Rd Bm w 3 Am mm cm cem) (hNm : RatsR BNm w cem rm) (hLl : RLim rl) (hLm : RLim rm) (hKKl : RLen 140737488355328 rl) (hKKm : RLen 140737488355328 rm) :
    Calls Try.prog 5 #[.slice Al ml cl, .slice Am mm cm] w fun e w2 => ∃ v, e = .returned v ∧ (fun v w2 => v = .bool true ∧ w.grownBy w2 none) v w2 := by
  have hl := hl.norm
  have hNl := hNl.norm
  have hl_n := hl.len
  have hl_nn := hNl.len
  have hl_l : rl.length = ml := by omega
  have hl_x := hl.max
  simp only [maxLen] at hl_x
  have hl_c := hl.cap
  have hl0 := hl
  have hNl0 := hNl
  have hm := hm.norm
  have hNm := hNm.norm
  have hm_n := hm.len
  have hm_nn := hNm.len
  have hm_l : rm.length = mm := by omega
  have hm_x := hm.max
  simp only [maxLen] at hm_x
  have hm_c := hm.cap
  have hm0 := hm
  have hNm0 := hNm
  obtain ⟨nn, hnn⟩ : ∃ nn, nn = min (min ml mm) 8 := ⟨_, rfl⟩
  have hB := ext_refl w
  refine calls_of_W (vs := [.slice Al ml cl, .slice Am mm cm]) [4] Try.func5 rfl rfl rfl rfl ?_
  refine W.seq ?_
  refine W.region ?_
  refine WL.assign rfl rfl ?_
  refine WL.done ?_
  refine W.seq ?_
  refine W.seq ?_
  refine W.region ?_
  refine WL.move rfl rfl ?_
  refine WL.call Try.func6 rfl Try.nm6 rfl rfl (long_c hl hNl rfl hKKl) ?_
  rintro _ w11 ⟨bhlol, rfl, hGw11, hlol_t, hlol_f⟩
  have hB := ext_trans hB hGw11
  have hl := hl0.ext hB
  have hNl := hNl0.ext hB
  have hm := hm0.ext hB
  have hNm := hNm0.ext hB
  rcases bhlol with _ | _
  · have hlol := hlol_f rfl
    have hKl : RLen 4 rl := rlen_of hlol
    refine WL.move rfl rfl ?_
    refine WL.take rfl ?_
    refine WL.move rfl rfl ?_
    refine WL.take rfl ?_
    refine WL.call Try.func6 rfl Try.nm6 rfl rfl (long_c hm hNm rfl hKKm) ?_
    rintro _ w12 ⟨bhlom, rfl, hGw12, hlom_t, hlom_f⟩
    have hB := ext_trans hB hGw12
    have hl := hl0.ext hB
    have hNl := hNl0.ext hB
    have hm := hm0.ext hB
    have hNm := hNm0.ext hB
    rcases bhlom with _ | _
    · have hlom := hlom_f rfl
      have hKm : RLen 4 rm := rlen_of hlom
      refine WL.pick rfl rfl rfl ?_
      refine WL.done ?_
      refine W.condF rfl ?_
      refine W.skip ?_
      refine W.seq ?_
      refine W.region ?_
      refine WL.move rfl rfl ?_
      refine WL.len Try.underlying35 rfl rfl ?_
      refine WL.move rfl rfl ?_
      refine WL.len Try.underlying35 rfl rfl ?_
      refine WL.min3 (r := ((nn : Nat) : Int)) rfl rfl rfl (by omega) rfl ?_
      refine WL.assign rfl rfl ?_
      refine WL.done ?_
      refine W.cut (σ := Nat × Option Addr × Nat × Nat × Option Addr × Nat × Nat) (fun s w1 => match s with | (gx, Ax, mx, cx, Bx, kx, dx) => w.grownBy w1 none ∧ Own w.heap.size w1 48 1 Ax mx cx (us (digs (qnum (dsum (rl.take nn) (rm.take nn) nn)))) ∧ Own w.heap.size w1 48 1 Bx kx dx (us (digs (Rat.den (dsum (rl.take nn) (rm.take nn) nn)))) ∧ mx ≤ 195 ∧ kx ≤ 195 ∧ Own w.heap.size w1 25 3 (some ⟨gx, 0, none⟩) 1 1 [.bool (qneg (dsum (rl.take nn) (rm.take nn) nn)), .slice Ax mx cx, .slice Bx kx dx]) (fun s => match s with | (gx, Ax, mx, cx, Bx, kx, dx) => [(0, .slice Al ml cl), (1, .slice Am mm cm), (5, .int .i64 ((nn : Nat) : Int)), (6, .pointer (some ⟨gx, 0, none⟩)), (7, .int .i64 (0 : Int))]) ?_ ?_
      · refine W.drawF 11 9 [⟨[], [0], true⟩, ⟨[], [5], true⟩, ⟨[0, 1], [], true⟩, ⟨[], [1], true⟩, ⟨[], [5], true⟩, ⟨[3, 4], [], true⟩, ⟨[2, 5], [], false⟩, ⟨[6], [], true⟩, ⟨[7], [], true⟩, ⟨[7], [], true⟩, ⟨[], [], false⟩] [[(0, .slice Al ml cl)], [(5, .int .i64 ((nn : Nat) : Int))], [], [(1, .slice Am mm cm)], [(5, .int .i64 ((nn : Nat) : Int))], [], [], [], [], [], []] (fun iQ => [fun v wQ => v = .slice Al ml cl, fun v wQ => v = .int .i64 ((nn : Nat) : Int), fun v wQ => v = .slice Al nn cl, fun v wQ => v = .slice Am mm cm, fun v wQ => v = .int .i64 ((nn : Nat) : Int), fun v wQ => v = .slice Am nn cm, fun v wQ => ∃ A21 m22 c23 A24 m25 c26, v = .tuple #[.agg #[.bool (qneg (dsum (rl.take nn) (rm.take nn) nn)), .slice A21 m22 c23, .slice A24 m25 c26], .int .i64 (0 : Int)] ∧ (Own w.heap.size wQ 48 1 A21 m22 c23 (us (digs (qnum (dsum (rl.take nn) (rm.take nn) nn))))) ∧ (Own w.heap.size wQ 48 1 A24 m25 c26 (us (digs (Rat.den (dsum (rl.take nn) (rm.take nn) nn))))) ∧ (m22 ≤ 195 ∧ m25 ≤ 195), fun v wQ => ∃ A21_7 m22_7 c23_7 A24_7 m25_7 c26_7, v = .tuple #[.agg #[.bool (qneg (dsum (rl.take nn) (rm.take nn) nn)), .slice A21_7 m22_7 c23_7, .slice A24_7 m25_7 c26_7], .int .i64 (0 : Int)] ∧ (Own w.heap.size wQ 48 1 A21_7 m22_7 c23_7 (us (digs (qnum (dsum (rl.take nn) (rm.take nn) nn))))) ∧ (Own w.heap.size wQ 48 1 A24_7 m25_7 c26_7 (us (digs (Rat.den (dsum (rl.take nn) (rm.take nn) nn))))) ∧ (m22_7 ≤ 195 ∧ m25_7 ≤ 195), fun v wQ => ∃ A21_7_8 m22_7_8 c23_7_8 A24_7_8 m25_7_8 c26_7_8, v = .agg #[.bool (qneg (dsum (rl.take nn) (rm.take nn) nn)), .slice A21_7_8 m22_7_8 c23_7_8, .slice A24_7_8 m25_7_8 c26_7_8] ∧ (Own w.heap.size wQ 48 1 A21_7_8 m22_7_8 c23_7_8 (us (digs (qnum (dsum (rl.take nn) (rm.take nn) nn))))) ∧ (Own w.heap.size wQ 48 1 A24_7_8 m25_7_8 c26_7_8 (us (digs (Rat.den (dsum (rl.take nn) (rm.take nn) nn))))) ∧ (m22_7_8 ≤ 195 ∧ m25_7_8 ≤ 195), fun v wQ => v = .int .i64 (0 : Int), fun v wQ => ∃ gx, v = .pointer (some ⟨gx, 0, none⟩) ∧ (Own w.heap.size wQ 25 3 (some ⟨gx, 0, none⟩) 1 1 [.bool false, .slice none 0 0, .slice none 0 0])].getD iQ (fun _ _ => True)) Try.mixed (by kernel_rfl) ?_ ?_ ?_ ?_
        · refine Vs_monoT _ ?_
          intro VQ hVQ vQ wQ1 wQ2 hQ1 hQ2
          simp only [List.mem_cons, List.not_mem_nil, or_false] at hVQ
          rcases hVQ with rfl | rfl | rfl | rfl | rfl | rfl | rfl | rfl | rfl | rfl | rfl
          · exact hQ1
          · exact hQ1
          · exact hQ1
          · exact hQ1
          · exact hQ1
          · exact hQ1
          · obtain ⟨A21, m22, c23, A24, m25, c26, hQe, dxn, dxd, dxm⟩ := hQ1
            exact ⟨A21, m22, c23, A24, m25, c26, hQe, dxn.ext hQ2, dxd.ext hQ2, dxm⟩
          · obtain ⟨A21_7, m22_7, c23_7, A24_7, m25_7, c26_7, hQe, dxn_7, dxd_7, dxm_7⟩ := hQ1
            exact ⟨A21_7, m22_7, c23_7, A24_7, m25_7, c26_7, hQe, dxn_7.ext hQ2, dxd_7.ext hQ2, dxm_7⟩
          · obtain ⟨A21_7_8, m22_7_8, c23_7_8, A24_7_8, m25_7_8, c26_7_8, hQe, dxn_7_8, dxd_7_8, dxm_7_8⟩ := hQ1
            exact ⟨A21_7_8, m22_7_8, c23_7_8, A24_7_8, m25_7_8, c26_7_8, hQe, dxn_7_8.ext hQ2, dxd_7_8.ext hQ2, dxm_7_8⟩
          · exact hQ1
          · obtain ⟨gx, hQe, hVgx⟩ := hQ1
            exact ⟨gx, hQe, hVgx.ext hQ2⟩
        · refine ⟨⟨rfl, ⟨rfl, trivial⟩, ?_⟩, ⟨rfl, ⟨rfl, trivial⟩, ?_⟩, ⟨rfl, trivial, ?_⟩, ⟨rfl, ⟨rfl, trivial⟩, ?_⟩, ⟨rfl, ⟨rfl, trivial⟩, ?_⟩, ⟨rfl, trivial, ?_⟩, ⟨rfl, trivial, ?_⟩, ⟨rfl, trivial, ?_⟩, ⟨rfl, trivial, ?_⟩, ⟨rfl, trivial, ?_⟩, ⟨rfl, trivial, ?_⟩, trivial⟩
          · intro w13 hE
            intro R
            refine WL.move rfl rfl ?_
            exact WL.done ⟨_, rfl, rfl, rfl⟩
          · intro w14 hE
            intro R
            refine WL.move rfl rfl ?_
            exact WL.done ⟨_, rfl, rfl, rfl⟩
          · intro w15 hE
            rintro _ rfl
            rintro _ rfl
            intro R
            refine WL.slTo (nn) Try.underlying35 Try.el25 rfl rfl (by omega) (by omega) rfl ?_
            exact WL.done ⟨_, rfl, rfl, rfl⟩
          · intro w16 hE
            intro R
            refine WL.move rfl rfl ?_
            exact WL.done ⟨_, rfl, rfl, rfl⟩
          · intro w17 hE
            intro R
            refine WL.move rfl rfl ?_
            exact WL.done ⟨_, rfl, rfl, rfl⟩
          · intro w18 hE
            rintro _ rfl
            rintro _ rfl
            intro R
            refine WL.slTo (nn) Try.underlying35 Try.el25 rfl rfl (by omega) (by omega) rfl ?_
            exact WL.done ⟨_, rfl, rfl, rfl⟩
          · intro w19 hE
            have hE := hE rfl
            have hB := ext_trans hB hE
            have hl := hl0.ext hB
            have hNl := hNl0.ext hB
            have hm := hm0.ext hB
            have hNm := hNm0.ext hB
            rintro _ rfl
            rintro _ rfl
            intro R
            refine WL.call Try.func16 rfl Try.nm16 rfl rfl (qDot_ok (hl.take (k := nn) (by omega)) (hNl.take nn) (hm.take (k := nn) (by omega)) (hNm.take nn) (hLl.take nn) (hLm.take nn) (hKl.take nn) (hKm.take nn) (by omega) rfl) ?_
            rintro _ w20 ⟨A21, m22, c23, A24, m25, c26, rfl, hGw20, dxn, dxd, dxm⟩
            have dxn := dxn.low (b' := w.heap.size) hB.size
            have dxd := dxd.low (b' := w.heap.size) hB.size
            have hB := ext_trans hB hGw20
            have dxn_l := dxn.rd.ulen
            have dxd_l := dxd.rd.ulen
            exact WL.done ⟨_, rfl, hGw20, ⟨A21, m22, c23, A24, m25, c26, rfl, dxn, dxd, dxm⟩⟩
          · intro w27 hE
            rintro _ ⟨A21, m22, c23, A24, m25, c26, rfl, dxn, dxd, dxm⟩
            intro R
            refine WL.move rfl rfl ?_
            exact WL.done ⟨_, rfl, rfl, ⟨A21, m22, c23, A24, m25, c26, rfl, dxn, dxd, dxm⟩⟩
          · intro w28 hE
            rintro _ ⟨A21_7, m22_7, c23_7, A24_7, m25_7, c26_7, rfl, dxn_7, dxd_7, dxm_7⟩
            intro R
            refine WL.extract rfl rfl rfl ?_
            exact WL.done ⟨_, rfl, rfl, ⟨A21_7, m22_7, c23_7, A24_7, m25_7, c26_7, rfl, dxn_7, dxd_7, dxm_7⟩⟩
          · intro w29 hE
            rintro _ ⟨A21_7, m22_7, c23_7, A24_7, m25_7, c26_7, rfl, dxn_7, dxd_7, dxm_7⟩
            intro R
            refine WL.extract rfl rfl rfl ?_
            exact WL.done ⟨_, rfl, rfl, rfl⟩
          · intro w30 hE
            have hE := hE rfl
            have hB := ext_trans hB hE
            intro R
            refine WL.alloc Try.el25 rfl ?_
            intro gx w31 hg_gx hVgx hGw31
            change Own _ _ _ _ _ _ _ [.bool false, .slice none 0 0, .slice none 0 0] at hVgx
            have hVgx := hVgx.low (b' := w.heap.size) hB.size
            have hB := ext_trans hB hGw31
            exact WL.done ⟨_, rfl, hGw31, ⟨gx, rfl, hVgx⟩⟩
        · intro vals w32 hT hVs
          have hB := ext_trans hB hT
          have hv0 : vals 0 = _ := hVs 0 (by decide)
          have hv1 : vals 1 = _ := hVs 1 (by decide)
          have hv2 : vals 2 = _ := hVs 2 (by decide)
          have hv3 : vals 3 = _ := hVs 3 (by decide)
          have hv4 : vals 4 = _ := hVs 4 (by decide)
          have hv5 : vals 5 = _ := hVs 5 (by decide)
          obtain ⟨A21, m22, c23, A24, m25, c26, hv6, dxn, dxd, dxm⟩ := hVs 6 (by decide)
          obtain ⟨A21_7, m22_7, c23_7, A24_7, m25_7, c26_7, hv7, dxn_7, dxd_7, dxm_7⟩ := hVs 7 (by decide)
          obtain ⟨A21_7_8, m22_7_8, c23_7_8, A24_7_8, m25_7_8, c26_7_8, hv8, dxn_7_8, dxd_7_8, dxm_7_8⟩ := hVs 8 (by decide)
          have hv9 : vals 9 = _ := hVs 9 (by decide)
          obtain ⟨gx, hv10, hVgx⟩ := hVs 10 (by decide)
          have hap_dxn_7_8_gx := ap_type dxn_7_8 hVgx (by decide)
          have hap_dxd_7_8_gx := ap_type dxd_7_8 hVgx (by decide)
          rw [show (List.filterMap (fun i => Option.map (fun t => (t, vals i)) (dstAt _ i)) (List.range _)) = [(24, .slice Al ml cl), (25, .int .i64 ((nn : Nat) : Int)), (26, .slice Al nn cl), (27, .slice Am mm cm), (28, .int .i64 ((nn : Nat) : Int)), (29, .slice Am nn cm), (30, .tuple #[.agg #[.bool (qneg (dsum (rl.take nn) (rm.take nn) nn)), .slice A21 m22 c23, .slice A24 m25 c26], .int .i64 (0 : Int)]), (23, .tuple #[.agg #[.bool (qneg (dsum (rl.take nn) (rm.take nn) nn)), .slice A21_7 m22_7 c23_7, .slice A24_7 m25_7 c26_7], .int .i64 (0 : Int)]), (31, .agg #[.bool (qneg (dsum (rl.take nn) (rm.take nn) nn)), .slice A21_7_8 m22_7_8 c23_7_8, .slice A24_7_8 m25_7_8 c26_7_8]), (32, .int .i64 (0 : Int)), (6, .pointer (some ⟨gx, 0, none⟩))] from by
            show [(24, vals 0), (25, vals 1), (26, vals 2), (27, vals 3), (28, vals 4), (29, vals 5), (30, vals 6), (23, vals 7), (31, vals 8), (32, vals 9), (6, vals 10)] = _
            rw [hv0, hv1, hv2, hv3, hv4, hv5, hv6, hv7, hv8, hv9, hv10]]
          refine WA.step [11] (by decide +kernel) rfl ?_
          intro iQ hQ
          simp only [List.mem_cons, List.not_mem_nil, or_false] at hQ
          obtain rfl := hQ
          · refine ⟨_, rfl, ?_⟩
            refine WL.storeV Try.el25 rfl rfl rfl rfl hVgx ?_
            have hOld34 := hVgx
            intro w33 hVgx hGw33
            change Own _ _ _ _ _ _ _ [.bool (qneg (dsum (rl.take nn) (rm.take nn) nn)), .slice A21_7_8 m22_7_8 c23_7_8, .slice A24_7_8 m25_7_8 c26_7_8] at hVgx
            have hB := ext_own hB hGw33 (fun g hg => (hOld34.bl_ge g hg).1)
            have dxn_7_8 := dxn_7_8.grown hGw33 (ap_row hap_dxn_7_8_gx)
            have dxd_7_8 := dxd_7_8.grown hGw33 (ap_row hap_dxd_7_8_gx)
            refine WL.done ?_
            refine WA.step [12] (by decide +kernel) rfl ?_
            intro iQ hQ
            simp only [List.mem_cons, List.not_mem_nil, or_false] at hQ
            obtain rfl := hQ
            · refine ⟨_, rfl, ?_⟩
              refine WL.assign rfl rfl ?_
              refine WL.done ?_
              refine WA.done (by decide +kernel) ?_
              refine ⟨(gx, A21_7_8, m22_7_8, c23_7_8, A24_7_8, m25_7_8, c26_7_8), ⟨rfl, rfl, rfl, rfl, rfl, trivial⟩, ?_⟩
              exact ⟨hB, dxn_7_8, dxd_7_8, by omega, by omega, hVgx⟩
        · intro vals w35 hT hVs qF hqF
          obtain rfl : qF = 3 := hqF.trans (by decide +kernel)
          have hB := ext_trans hB hT
          have hv0 : vals 0 = _ := hVs 0 (by decide) (by decide)
          have hv1 : vals 1 = _ := hVs 1 (by decide) (by decide)
          have hv2 : vals 2 = _ := hVs 2 (by decide) (by decide)
          have hv3 : vals 3 = _ := hVs 3 (by decide) (by decide)
          have hv4 : vals 4 = _ := hVs 4 (by decide) (by decide)
          have hv5 : vals 5 = _ := hVs 5 (by decide) (by decide)
          obtain ⟨A21, m22, c23, A24, m25, c26, hv6, dxn, dxd, dxm⟩ := hVs 6 (by decide) (by decide)
          obtain ⟨A21_7, m22_7, c23_7, A24_7, m25_7, c26_7, hv7, dxn_7, dxd_7, dxm_7⟩ := hVs 7 (by decide) (by decide)
          obtain ⟨A21_7_8, m22_7_8, c23_7_8, A24_7_8, m25_7_8, c26_7_8, hv8, dxn_7_8, dxd_7_8, dxm_7_8⟩ := hVs 8 (by decide) (by decide)
          obtain ⟨gx, hv10, hVgx⟩ := hVs 10 (by decide) (by decide)
          have hap_dxn_7_8_gx := ap_type dxn_7_8 hVgx (by decide)
          have hap_dxd_7_8_gx := ap_type dxd_7_8 hVgx (by decide)
          rw [show (List.filterMap (fun i => if i = 9 then none else Option.map (fun t => (t, vals i)) (dstAt _ i)) (List.range _)) = [(24, .slice Al ml cl), (25, .int .i64 ((nn : Nat) : Int)), (26, .slice Al nn cl), (27, .slice Am mm cm), (28, .int .i64 ((nn : Nat) : Int)), (29, .slice Am nn cm), (30, .tuple #[.agg #[.bool (qneg (dsum (rl.take nn) (rm.take nn) nn)), .slice A21 m22 c23, .slice A24 m25 c26], .int .i64 (0 : Int)]), (23, .tuple #[.agg #[.bool (qneg (dsum (rl.take nn) (rm.take nn) nn)), .slice A21_7 m22_7 c23_7, .slice A24_7 m25_7 c26_7], .int .i64 (0 : Int)]), (31, .agg #[.bool (qneg (dsum (rl.take nn) (rm.take nn) nn)), .slice A21_7_8 m22_7_8 c23_7_8, .slice A24_7_8 m25_7_8 c26_7_8]), (6, .pointer (some ⟨gx, 0, none⟩))] from by
            show [(24, vals 0), (25, vals 1), (26, vals 2), (27, vals 3), (28, vals 4), (29, vals 5), (30, vals 6), (23, vals 7), (31, vals 8), (6, vals 10)] = _
            rw [hv0, hv1, hv2, hv3, hv4, hv5, hv6, hv7, hv8, hv10]]
          refine WA.step [9, 11] (by decide +kernel) rfl ?_
          intro iQ hQ
          simp only [List.mem_cons, List.not_mem_nil, or_false] at hQ
          rcases hQ with rfl | rfl
          · refine ⟨_, rfl, ?_⟩
            refine WL.extract rfl rfl rfl ?_
            refine WL.done ?_
            refine WA.step [11] (by decide +kernel) rfl ?_
            intro iQ hQ
            simp only [List.mem_cons, List.not_mem_nil, or_false] at hQ
            obtain rfl := hQ
            · refine ⟨_, rfl, ?_⟩
              refine WL.storeV Try.el25 rfl rfl rfl rfl hVgx ?_
              have hOld37 := hVgx
              intro w36 hVgx hGw36
              change Own _ _ _ _ _ _ _ [.bool (qneg (dsum (rl.take nn) (rm.take nn) nn)), .slice A21_7_8 m22_7_8 c23_7_8, .slice A24_7_8 m25_7_8 c26_7_8] at hVgx
              have hB := ext_own hB hGw36 (fun g hg => (hOld37.bl_ge g hg).1)
              have dxn_7_8 := dxn_7_8.grown hGw36 (ap_row hap_dxn_7_8_gx)
              have dxd_7_8 := dxd_7_8.grown hGw36 (ap_row hap_dxd_7_8_gx)
              refine WL.done ?_
              refine WA.step [12] (by decide +kernel) rfl ?_
              intro iQ hQ
              simp only [List.mem_cons, List.not_mem_nil, or_false] at hQ
              obtain rfl := hQ
              · refine ⟨_, rfl, ?_⟩
                refine WL.assign rfl rfl ?_
                refine WL.done ?_
                refine WA.done (by decide +kernel) ?_
                refine ⟨(gx, A21_7_8, m22_7_8, c23_7_8, A24_7_8, m25_7_8, c26_7_8), ⟨rfl, rfl, rfl, rfl, rfl, trivial⟩, ?_⟩
                exact ⟨hB, dxn_7_8, dxd_7_8, by omega, by omega, hVgx⟩
          · refine ⟨_, rfl, ?_⟩
            refine WL.storeV Try.el25 rfl rfl rfl rfl hVgx ?_
            have hOld39 := hVgx
            intro w38 hVgx hGw38
            change Own _ _ _ _ _ _ _ [.bool (qneg (dsum (rl.take nn) (rm.take nn) nn)), .slice A21_7_8 m22_7_8 c23_7_8, .slice A24_7_8 m25_7_8 c26_7_8] at hVgx
            have hB := ext_own hB hGw38 (fun g hg => (hOld39.bl_ge g hg).1)
            have dxn_7_8 := dxn_7_8.grown hGw38 (ap_row hap_dxn_7_8_gx)
            have dxd_7_8 := dxd_7_8.grown hGw38 (ap_row hap_dxd_7_8_gx)
            refine WL.done ?_
            refine WA.step [9] (by decide +kernel) rfl ?_
            intro iQ hQ
            simp only [List.mem_cons, List.not_mem_nil, or_false] at hQ
            obtain rfl := hQ
            · refine ⟨_, rfl, ?_⟩
              refine WL.extract rfl rfl rfl ?_
              refine WL.done ?_
              refine WA.step [12] (by decide +kernel) rfl ?_
              intro iQ hQ
              simp only [List.mem_cons, List.not_mem_nil, or_false] at hQ
              obtain rfl := hQ
              · refine ⟨_, rfl, ?_⟩
                refine WL.assign rfl rfl ?_
                refine WL.done ?_
                refine WA.done (by decide +kernel) ?_
                refine ⟨(gx, A21_7_8, m22_7_8, c23_7_8, A24_7_8, m25_7_8, c26_7_8), ⟨rfl, rfl, rfl, rfl, rfl, trivial⟩, ?_⟩
                exact ⟨hB, dxn_7_8, dxd_7_8, by omega, by omega, hVgx⟩
      · rintro ⟨gx, Ax, mx, cx, Bx, kx, dx⟩ w40 ⟨hB, hxn, hxd, hbx1, hbx2, hVgx⟩
        have hl := hl0.ext hB
        have hNl := hNl0.ext hB
        have hm := hm0.ext hB
        have hNm := hNm0.ext hB
        have hxn_l := hxn.rd.ulen
        have hxd_l := hxd.rd.ulen
        refine W.cut (σ := Nat × Option Addr × Nat × Nat × Option Addr × Nat × Nat) (fun s w1 => match s with | (gy, Ay, my, cy, By, ky, dy) => w.grownBy w1 none ∧ Own w.heap.size w1 48 1 Ax mx cx (us (digs (qnum (dsum (rl.take nn) (rm.take nn) nn)))) ∧ Own w.heap.size w1 48 1 Bx kx dx (us (digs (Rat.den (dsum (rl.take nn) (rm.take nn) nn)))) ∧ mx ≤ 195 ∧ kx ≤ 195 ∧ Own w.heap.size w1 25 3 (some ⟨gx, 0, none⟩) 1 1 [.bool (qneg (dsum (rl.take nn) (rm.take nn) nn)), .slice Ax mx cx, .slice Bx kx dx] ∧ Own w.heap.size w1 48 1 Ay my cy (us (digs (qnum (dsum (rl.take nn) (rl.take nn) nn)))) ∧ Own w.heap.size w1 48 1 By ky dy (us (digs (Rat.den (dsum (rl.take nn) (rl.take nn) nn)))) ∧ my ≤ 195 ∧ ky ≤ 195 ∧ Own w.heap.size w1 25 3 (some ⟨gy, 0, none⟩) 1 1 [.bool (qneg (dsum (rl.take nn) (rl.take nn) nn)), .slice Ay my cy, .slice By ky dy] ∧ gx < gy) (fun s => match s with | (gy, Ay, my, cy, By, ky, dy) => [(0, .slice Al ml cl), (1, .slice Am mm cm), (5, .int .i64 ((nn : Nat) : Int)), (6, .pointer (some ⟨gx, 0, none⟩)), (7, .int .i64 (0 : Int)), (8, .pointer (some ⟨gy, 0, none⟩)), (9, .int .i64 (0 : Int))]) ?_ ?_
        · refine W.drawF 11 9 [⟨[], [0], true⟩, ⟨[], [5], true⟩, ⟨[0, 1], [], true⟩, ⟨[], [0], true⟩, ⟨[], [5], true⟩, ⟨[3, 4], [], true⟩, ⟨[2, 5], [], false⟩, ⟨[6], [], true⟩, ⟨[7], [], true⟩, ⟨[7], [], true⟩, ⟨[], [], false⟩] [[(0, .slice Al ml cl)], [(5, .int .i64 ((nn : Nat) : Int))], [], [(0, .slice Al ml cl)], [(5, .int .i64 ((nn : Nat) : Int))], [], [], [], [], [], []] (fun iQ => [fun v wQ => v = .slice Al ml cl, fun v wQ => v = .int .i64 ((nn : Nat) : Int), fun v wQ => v = .slice Al nn cl, fun v wQ => v = .slice Al ml cl, fun v wQ => v = .int .i64 ((nn : Nat) : Int), fun v wQ => v = .slice Al nn cl, fun v wQ => ∃ A49 m50 c51 A52 m53 c54, v = .tuple #[.agg #[.bool (qneg (dsum (rl.take nn) (rl.take nn) nn)), .slice A49 m50 c51, .slice A52 m53 c54], .int .i64 (0 : Int)] ∧ (Own w.heap.size wQ 48 1 A49 m50 c51 (us (digs (qnum (dsum (rl.take nn) (rl.take nn) nn))))) ∧ (Own w.heap.size wQ 48 1 A52 m53 c54 (us (digs (Rat.den (dsum (rl.take nn) (rl.take nn) nn))))) ∧ (m50 ≤ 195 ∧ m53 ≤ 195) ∧ (∀ k, bl A49 = some k → k ≠ gx) ∧ (∀ k, bl A52 = some k → k ≠ gx), fun v wQ => ∃ A49_7 m50_7 c51_7 A52_7 m53_7 c54_7, v = .tuple #[.agg #[.bool (qneg (dsum (rl.take nn) (rl.take nn) nn)), .slice A49_7 m50_7 c51_7, .slice A52_7 m53_7 c54_7], .int .i64 (0 : Int)] ∧ (Own w.heap.size wQ 48 1 A49_7 m50_7 c51_7 (us (digs (qnum (dsum (rl.take nn) (rl.take nn) nn))))) ∧ (Own w.heap.size wQ 48 1 A52_7 m53_7 c54_7 (us (digs (Rat.den (dsum (rl.take nn) (rl.take nn) nn))))) ∧ (m50_7 ≤ 195 ∧ m53_7 ≤ 195) ∧ (∀ k, bl A49_7 = some k → k ≠ gx) ∧ (∀ k, bl A52_7 = some k → k ≠ gx), fun v wQ => ∃ A49_7_8 m50_7_8 c51_7_8 A52_7_8 m53_7_8 c54_7_8, v = .agg #[.bool (qneg (dsum (rl.take nn) (rl.take nn) nn)), .slice A49_7_8 m50_7_8 c51_7_8, .slice A52_7_8 m53_7_8 c54_7_8] ∧ (Own w.heap.size wQ 48 1 A49_7_8 m50_7_8 c51_7_8 (us (digs (qnum (dsum (rl.take nn) (rl.take nn) nn))))) ∧ (Own w.heap.size wQ 48 1 A52_7_8 m53_7_8 c54_7_8 (us (digs (Rat.den (dsum (rl.take nn) (rl.take nn) nn))))) ∧ (m50_7_8 ≤ 195 ∧ m53_7_8 ≤ 195) ∧ (∀ k, bl A49_7_8 = some k → k ≠ gx) ∧ (∀ k, bl A52_7_8 = some k → k ≠ gx), fun v wQ => v = .int .i64 (0 : Int), fun v wQ => ∃ gy, v = .pointer (some ⟨gy, 0, none⟩) ∧ (Own w.heap.size wQ 25 3 (some ⟨gy, 0, none⟩) 1 1 [.bool false, .slice none 0 0, .slice none 0 0]) ∧ (gx < gy)].getD iQ (fun _ _ => True)) Try.mixed (by kernel_rfl) ?_ ?_ ?_ ?_
          · refine Vs_monoT _ ?_
            intro VQ hVQ vQ wQ1 wQ2 hQ1 hQ2
            simp only [List.mem_cons, List.not_mem_nil, or_false] at hVQ
            rcases hVQ with rfl | rfl | rfl | rfl | rfl | rfl | rfl | rfl | rfl | rfl | rfl
            · exact hQ1
            · exact hQ1
            · exact hQ1
            · exact hQ1
            · exact hQ1
            · exact hQ1
            · obtain ⟨A49, m50, c51, A52, m53, c54, hQe, dyn, dyd, dym, hap_dyn_gx, hap_dyd_gx⟩ := hQ1
              exact ⟨A49, m50, c51, A52, m53, c54, hQe, dyn.ext hQ2, dyd.ext hQ2, dym, hap_dyn_gx, hap_dyd_gx⟩
            · obtain ⟨A49_7, m50_7, c51_7, A52_7, m53_7, c54_7, hQe, dyn_7, dyd_7, dym_7, hap_dyn_gx_7, hap_dyd_gx_7⟩ := hQ1
              exact ⟨A49_7, m50_7, c51_7, A52_7, m53_7, c54_7, hQe, dyn_7.ext hQ2, dyd_7.ext hQ2, dym_7, hap_dyn_gx_7, hap_dyd_gx_7⟩
            · obtain ⟨A49_7_8, m50_7_8, c51_7_8, A52_7_8, m53_7_8, c54_7_8, hQe, dyn_7_8, dyd_7_8, dym_7_8, hap_dyn_gx_7_8, hap_dyd_gx_7_8⟩ := hQ1
              exact ⟨A49_7_8, m50_7_8, c51_7_8, A52_7_8, m53_7_8, c54_7_8, hQe, dyn_7_8.ext hQ2, dyd_7_8.ext hQ2, dym_7_8, hap_dyn_gx_7_8, hap_dyd_gx_7_8⟩
            · exact hQ1
            · obtain ⟨gy, hQe, hVgy, hlt_gx_gy⟩ := hQ1
              exact ⟨gy, hQe, hVgy.ext hQ2, hlt_gx_gy⟩
          · refine ⟨⟨rfl, ⟨rfl, trivial⟩, ?_⟩, ⟨rfl, ⟨rfl, trivial⟩, ?_⟩, ⟨rfl, trivial, ?_⟩, ⟨rfl, ⟨rfl, trivial⟩, ?_⟩, ⟨rfl, ⟨rfl, trivial⟩, ?_⟩, ⟨rfl, trivial, ?_⟩, ⟨rfl, trivial, ?_⟩, ⟨rfl, trivial, ?_⟩, ⟨rfl, trivial, ?_⟩, ⟨rfl, trivial, ?_⟩, ⟨rfl, trivial, ?_⟩, trivial⟩
            · intro w41 hE
              intro R
              refine WL.move rfl rfl ?_
              exact WL.done ⟨_, rfl, rfl, rfl⟩
            · intro w42 hE
              intro R
              refine WL.move rfl rfl ?_
              exact WL.done ⟨_, rfl, rfl, rfl⟩
            · intro w43 hE
              rintro _ rfl
              rintro _ rfl
              intro R
              refine WL.slTo (nn) Try.underlying35 Try.el25 rfl rfl (by omega) (by omega) rfl ?_
              exact WL.done ⟨_, rfl, rfl, rfl⟩
            · intro w44 hE
              intro R
              refine WL.move rfl rfl ?_
              exact WL.done ⟨_, rfl, rfl, rfl⟩
            · intro w45 hE
              intro R
              refine WL.move rfl rfl ?_
              exact WL.done ⟨_, rfl, rfl, rfl⟩
            · intro w46 hE
              rintro _ rfl
              rintro _ rfl
              intro R
              refine WL.slTo (nn) Try.underlying35 Try.el25 rfl rfl (by omega) (by omega) rfl ?_
              exact WL.done ⟨_, rfl, rfl, rfl⟩
            · intro w47 hE
              have hE := hE rfl
              have hB := ext_trans hB hE
              have hl := hl0.ext hB
              have hNl := hNl0.ext hB
              have hVgx := hVgx.ext hE
              rintro _ rfl
              rintro _ rfl
              intro R
              refine WL.call Try.func16 rfl Try.nm16 rfl rfl (qDot_ok (hl.take (k := nn) (by omega)) (hNl.take nn) (hl.take (k := nn) (by omega)) (hNl.take nn) (hLl.take nn) (hLl.take nn) (hKl.take nn) (hKl.take nn) (by omega) rfl) ?_
              rintro _ w48 ⟨A49, m50, c51, A52, m53, c54, rfl, hGw48, dyn, dyd, dym⟩
              have hap_dyn_gx := ap_new dyn (hVgx.bl_ge _ rfl).2
              have hap_dyd_gx := ap_new dyd (hVgx.bl_ge _ rfl).2
              have dyn := dyn.low (b' := w.heap.size) hB.size
              have dyd := dyd.low (b' := w.heap.size) hB.size
              have hB := ext_trans hB hGw48
              have dyn_l := dyn.rd.ulen
              have dyd_l := dyd.rd.ulen
              exact WL.done ⟨_, rfl, hGw48, ⟨A49, m50, c51, A52, m53, c54, rfl, dyn, dyd, dym, hap_dyn_gx, hap_dyd_gx⟩⟩
            · intro w55 hE
              rintro _ ⟨A49, m50, c51, A52, m53, c54, rfl, dyn, dyd, dym, hap_dyn_gx, hap_dyd_gx⟩
              intro R
              refine WL.move rfl rfl ?_
              exact WL.done ⟨_, rfl, rfl, ⟨A49, m50, c51, A52, m53, c54, rfl, dyn, dyd, dym, hap_dyn_gx, hap_dyd_gx⟩⟩
            · intro w56 hE
              rintro _ ⟨A49_7, m50_7, c51_7, A52_7, m53_7, c54_7, rfl, dyn_7, dyd_7, dym_7, hap_dyn_gx_7, hap_dyd_gx_7⟩
              intro R
              refine WL.extract rfl rfl rfl ?_
              exact WL.done ⟨_, rfl, rfl, ⟨A49_7, m50_7, c51_7, A52_7, m53_7, c54_7, rfl, dyn_7, dyd_7, dym_7, hap_dyn_gx_7, hap_dyd_gx_7⟩⟩
            · intro w57 hE
              rintro _ ⟨A49_7, m50_7, c51_7, A52_7, m53_7, c54_7, rfl, dyn_7, dyd_7, dym_7, hap_dyn_gx_7, hap_dyd_gx_7⟩
              intro R
              refine WL.extract rfl rfl rfl ?_
              exact WL.done ⟨_, rfl, rfl, rfl⟩
            · intro w58 hE
              have hE := hE rfl
              have hB := ext_trans hB hE
              have hVgx := hVgx.ext hE
              intro R
              refine WL.alloc Try.el25 rfl ?_
              intro gy w59 hg_gy hVgy hGw59
              change Own _ _ _ _ _ _ _ [.bool false, .slice none 0 0, .slice none 0 0] at hVgy
              have hlt_gx_gy : gx < gy := by rw [hg_gy]; exact (hVgx.bl_ge _ rfl).2
              have hVgy := hVgy.low (b' := w.heap.size) hB.size
              have hB := ext_trans hB hGw59
              exact WL.done ⟨_, rfl, hGw59, ⟨gy, rfl, hVgy, hlt_gx_gy⟩⟩
          · intro vals w60 hT hVs
            have hB := ext_trans hB hT
            have hxn := hxn.ext hT
            have hxd := hxd.ext hT
            have hVgx := hVgx.ext hT
            have hv0 : vals 0 = _ := hVs 0 (by decide)
            have hv1 : vals 1 = _ := hVs 1 (by decide)
            have hv2 : vals 2 = _ := hVs 2 (by decide)
            have hv3 : vals 3 = _ := hVs 3 (by decide)
            have hv4 : vals 4 = _ := hVs 4 (by decide)
            have hv5 : vals 5 = _ := hVs 5 (by decide)
            obtain ⟨A49, m50, c51, A52, m53, c54, hv6, dyn, dyd, dym, hap_dyn_gx, hap_dyd_gx⟩ := hVs 6 (by decide)
            obtain ⟨A49_7, m50_7, c51_7, A52_7, m53_7, c54_7, hv7, dyn_7, dyd_7, dym_7, hap_dyn_gx_7, hap_dyd_gx_7⟩ := hVs 7 (by decide)
            obtain ⟨A49_7_8, m50_7_8, c51_7_8, A52_7_8, m53_7_8, c54_7_8, hv8, dyn_7_8, dyd_7_8, dym_7_8, hap_dyn_gx_7_8, hap_dyd_gx_7_8⟩ := hVs 8 (by decide)
            have hv9 : vals 9 = _ := hVs 9 (by decide)
            obtain ⟨gy, hv10, hVgy, hlt_gx_gy⟩ := hVs 10 (by decide)
            have hap_hxn_gy := ap_type hxn hVgy (by decide)
            have hap_hxd_gy := ap_type hxd hVgy (by decide)
            have hap_dyn_7_8_gy := ap_type dyn_7_8 hVgy (by decide)
            have hap_dyd_7_8_gy := ap_type dyd_7_8 hVgy (by decide)
            rw [show (List.filterMap (fun i => Option.map (fun t => (t, vals i)) (dstAt _ i)) (List.range _)) = [(34, .slice Al ml cl), (35, .int .i64 ((nn : Nat) : Int)), (36, .slice Al nn cl), (37, .slice Al ml cl), (38, .int .i64 ((nn : Nat) : Int)), (39, .slice Al nn cl), (40, .tuple #[.agg #[.bool (qneg (dsum (rl.take nn) (rl.take nn) nn)), .slice A49 m50 c51, .slice A52 m53 c54], .int .i64 (0 : Int)]), (33, .tuple #[.agg #[.bool (qneg (dsum (rl.take nn) (rl.take nn) nn)), .slice A49_7 m50_7 c51_7, .slice A52_7 m53_7 c54_7], .int .i64 (0 : Int)]), (41, .agg #[.bool (qneg (dsum (rl.take nn) (rl.take nn) nn)), .slice A49_7_8 m50_7_8 c51_7_8, .slice A52_7_8 m53_7_8 c54_7_8]), (42, .int .i64 (0 : Int)), (8, .pointer (some ⟨gy, 0, none⟩))] from by
              show [(34, vals 0), (35, vals 1), (36, vals 2), (37, vals 3), (38, vals 4), (39, vals 5), (40, vals 6), (33, vals 7), (41, vals 8), (42, vals 9), (8, vals 10)] = _
              rw [hv0, hv1, hv2, hv3, hv4, hv5, hv6, hv7, hv8, hv9, hv10]]
            refine WA.step [11] (by decide +kernel) rfl ?_
            intro iQ hQ
            simp only [List.mem_cons, List.not_mem_nil, or_false] at hQ
            obtain rfl := hQ
            · refine ⟨_, rfl, ?_⟩
              refine WL.storeV Try.el25 rfl rfl rfl rfl hVgy ?_
              have hOld62 := hVgy
              intro w61 hVgy hGw61
              change Own _ _ _ _ _ _ _ [.bool (qneg (dsum (rl.take nn) (rl.take nn) nn)), .slice A49_7_8 m50_7_8 c51_7_8, .slice A52_7_8 m53_7_8 c54_7_8] at hVgy
              have hB := ext_own hB hGw61 (fun g hg => (hOld62.bl_ge g hg).1)
              have hxn := hxn.grown hGw61 (ap_row hap_hxn_gy)
              have hxd := hxd.grown hGw61 (ap_row hap_hxd_gy)
              have hVgx := hVgx.grown hGw61 (apart (by omega))
              have dyn_7_8 := dyn_7_8.grown hGw61 (ap_row hap_dyn_7_8_gy)
              have dyd_7_8 := dyd_7_8.grown hGw61 (ap_row hap_dyd_7_8_gy)
              refine WL.done ?_
              refine WA.step [12] (by decide +kernel) rfl ?_
              intro iQ hQ
              simp only [List.mem_cons, List.not_mem_nil, or_false] at hQ
              obtain rfl := hQ
              · refine ⟨_, rfl, ?_⟩
                refine WL.assign rfl rfl ?_
                refine WL.done ?_
                refine WA.done (by decide +kernel) ?_
                refine ⟨(gy, A49_7_8, m50_7_8, c51_7_8, A52_7_8, m53_7_8, c54_7_8), ⟨rfl, rfl, rfl, rfl, rfl, rfl, rfl, trivial⟩, ?_⟩
                exact ⟨hB, hxn, hxd, hbx1, hbx2, hVgx, dyn_7_8, dyd_7_8, by omega, by omega, hVgy, by omega⟩
          · intro vals w63 hT hVs qF hqF
            obtain rfl : qF = 3 := hqF.trans (by decide +kernel)
            have hB := ext_trans hB hT
            have hxn := hxn.ext hT
            have hxd := hxd.ext hT
            have hVgx := hVgx.ext hT
            have hv0 : vals 0 = _ := hVs 0 (by decide) (by decide)
            have hv1 : vals 1 = _ := hVs 1 (by decide) (by decide)
            have hv2 : vals 2 = _ := hVs 2 (by decide) (by decide)
            have hv3 : vals 3 = _ := hVs 3 (by decide) (by decide)
            have hv4 : vals 4 = _ := hVs 4 (by decide) (by decide)
            have hv5 : vals 5 = _ := hVs 5 (by decide) (by decide)
            obtain ⟨A49, m50, c51, A52, m53, c54, hv6, dyn, dyd, dym, hap_dyn_gx, hap_dyd_gx⟩ := hVs 6 (by decide) (by decide)
            obtain ⟨A49_7, m50_7, c51_7, A52_7, m53_7, c54_7, hv7, dyn_7, dyd_7, dym_7, hap_dyn_gx_7, hap_dyd_gx_7⟩ := hVs 7 (by decide) (by decide)
            obtain ⟨A49_7_8, m50_7_8, c51_7_8, A52_7_8, m53_7_8, c54_7_8, hv8, dyn_7_8, dyd_7_8, dym_7_8, hap_dyn_gx_7_8, hap_dyd_gx_7_8⟩ := hVs 8 (by decide) (by decide)
            obtain ⟨gy, hv10, hVgy, hlt_gx_gy⟩ := hVs 10 (by decide) (by decide)
            have hap_hxn_gy := ap_type hxn hVgy (by decide)
            have hap_hxd_gy := ap_type hxd hVgy (by decide)
            have hap_dyn_7_8_gy := ap_type dyn_7_8 hVgy (by decide)
            have hap_dyd_7_8_gy := ap_type dyd_7_8 hVgy (by decide)
            rw [show (List.filterMap (fun i => if i = 9 then none else Option.map (fun t => (t, vals i)) (dstAt _ i)) (List.range _)) = [(34, .slice Al ml cl), (35, .int .i64 ((nn : Nat) : Int)), (36, .slice Al nn cl), (37, .slice Al ml cl), (38, .int .i64 ((nn : Nat) : Int)), (39, .slice Al nn cl), (40, .tuple #[.agg #[.bool (qneg (dsum (rl.take nn) (rl.take nn) nn)), .slice A49 m50 c51, .slice A52 m53 c54], .int .i64 (0 : Int)]), (33, .tuple #[.agg #[.bool (qneg (dsum (rl.take nn) (rl.take nn) nn)), .slice A49_7 m50_7 c51_7, .slice A52_7 m53_7 c54_7], .int .i64 (0 : Int)]), (41, .agg #[.bool (qneg (dsum (rl.take nn) (rl.take nn) nn)), .slice A49_7_8 m50_7_8 c51_7_8, .slice A52_7_8 m53_7_8 c54_7_8]), (8, .pointer (some ⟨gy, 0, none⟩))] from by
              show [(34, vals 0), (35, vals 1), (36, vals 2), (37, vals 3), (38, vals 4), (39, vals 5), (40, vals 6), (33, vals 7), (41, vals 8), (8, vals 10)] = _
              rw [hv0, hv1, hv2, hv3, hv4, hv5, hv6, hv7, hv8, hv10]]
            refine WA.step [9, 11] (by decide +kernel) rfl ?_
            intro iQ hQ
            simp only [List.mem_cons, List.not_mem_nil, or_false] at hQ
            rcases hQ with rfl | rfl
            · refine ⟨_, rfl, ?_⟩
              refine WL.extract rfl rfl rfl ?_
              refine WL.done ?_
              refine WA.step [11] (by decide +kernel) rfl ?_
              intro iQ hQ
              simp only [List.mem_cons, List.not_mem_nil, or_false] at hQ
              obtain rfl := hQ
              · refine ⟨_, rfl, ?_⟩
                refine WL.storeV Try.el25 rfl rfl rfl rfl hVgy ?_
                have hOld65 := hVgy
                intro w64 hVgy hGw64
                change Own _ _ _ _ _ _ _ [.bool (qneg (dsum (rl.take nn) (rl.take nn) nn)), .slice A49_7_8 m50_7_8 c51_7_8, .slice A52_7_8 m53_7_8 c54_7_8] at hVgy
                have hB := ext_own hB hGw64 (fun g hg => (hOld65.bl_ge g hg).1)
                have hxn := hxn.grown hGw64 (ap_row hap_hxn_gy)
                have hxd := hxd.grown hGw64 (ap_row hap_hxd_gy)
                have hVgx := hVgx.grown hGw64 (apart (by omega))
                have dyn_7_8 := dyn_7_8.grown hGw64 (ap_row hap_dyn_7_8_gy)
                have dyd_7_8 := dyd_7_8.grown hGw64 (ap_row hap_dyd_7_8_gy)
                refine WL.done ?_
                refine WA.step [12] (by decide +kernel) rfl ?_
                intro iQ hQ
                simp only [List.mem_cons, List.not_mem_nil, or_false] at hQ
                obtain rfl := hQ
                · refine ⟨_, rfl, ?_⟩
                  refine WL.assign rfl rfl ?_
                  refine WL.done ?_
                  refine WA.done (by decide +kernel) ?_
                  refine ⟨(gy, A49_7_8, m50_7_8, c51_7_8, A52_7_8, m53_7_8, c54_7_8), ⟨rfl, rfl, rfl, rfl, rfl, rfl, rfl, trivial⟩, ?_⟩
                  exact ⟨hB, hxn, hxd, hbx1, hbx2, hVgx, dyn_7_8, dyd_7_8, by omega, by omega, hVgy, by omega⟩
            · refine ⟨_, rfl, ?_⟩
              refine WL.storeV Try.el25 rfl rfl rfl rfl hVgy ?_
              have hOld67 := hVgy
              intro w66 hVgy hGw66
              change Own _ _ _ _ _ _ _ [.bool (qneg (dsum (rl.take nn) (rl.take nn) nn)), .slice A49_7_8 m50_7_8 c51_7_8, .slice A52_7_8 m53_7_8 c54_7_8] at hVgy
              have hB := ext_own hB hGw66 (fun g hg => (hOld67.bl_ge g hg).1)
              have hxn := hxn.grown hGw66 (ap_row hap_hxn_gy)
              have hxd := hxd.grown hGw66 (ap_row hap_hxd_gy)
              have hVgx := hVgx.grown hGw66 (apart (by omega))
              have dyn_7_8 := dyn_7_8.grown hGw66 (ap_row hap_dyn_7_8_gy)
              have dyd_7_8 := dyd_7_8.grown hGw66 (ap_row hap_dyd_7_8_gy)
              refine WL.done ?_
              refine WA.step [9] (by decide +kernel) rfl ?_
              intro iQ hQ
              simp only [List.mem_cons, List.not_mem_nil, or_false] at hQ
              obtain rfl := hQ
              · refine ⟨_, rfl, ?_⟩
                refine WL.extract rfl rfl rfl ?_
                refine WL.done ?_
                refine WA.step [12] (by decide +kernel) rfl ?_
                intro iQ hQ
                simp only [List.mem_cons, List.not_mem_nil, or_false] at hQ
                obtain rfl := hQ
                · refine ⟨_, rfl, ?_⟩
                  refine WL.assign rfl rfl ?_
                  refine WL.done ?_
                  refine WA.done (by decide +kernel) ?_
                  refine ⟨(gy, A49_7_8, m50_7_8, c51_7_8, A52_7_8, m53_7_8, c54_7_8), ⟨rfl, rfl, rfl, rfl, rfl, rfl, rfl, trivial⟩, ?_⟩
                  exact ⟨hB, hxn, hxd, hbx1, hbx2, hVgx, dyn_7_8, dyd_7_8, by omega, by omega, hVgy, by omega⟩
        · rintro ⟨gy, Ay, my, cy, By, ky, dy⟩ w68 ⟨hB, hxn, hxd, hbx1, hbx2, hVgx, hyn, hyd, hby1, hby2, hVgy, hlt_gx_gy⟩
          have hm := hm0.ext hB
          have hNm := hNm0.ext hB
          have hxn_l := hxn.rd.ulen
          have hxd_l := hxd.rd.ulen
          have hyn_l := hyn.rd.ulen
          have hyd_l := hyd.rd.ulen
          refine W.cut (σ := Nat × Option Addr × Nat × Nat × Option Addr × Nat × Nat) (fun s w1 => match s with | (gz, Az, mz, cz, Bz, kz, dz) => w.grownBy w1 none ∧ Own w.heap.size w1 48 1 Ax mx cx (us (digs (qnum (dsum (rl.take nn) (rm.take nn) nn)))) ∧ Own w.heap.size w1 48 1 Bx kx dx (us (digs (Rat.den (dsum (rl.take nn) (rm.take nn) nn)))) ∧ mx ≤ 195 ∧ kx ≤ 195 ∧ Own w.heap.size w1 25 3 (some ⟨gx, 0, none⟩) 1 1 [.bool (qneg (dsum (rl.take nn) (rm.take nn) nn)), .slice Ax mx cx, .slice Bx kx dx] ∧ Own w.heap.size w1 48 1 Ay my cy (us (digs (qnum (dsum (rl.take nn) (rl.take nn) nn)))) ∧ Own w.heap.size w1 48 1 By ky dy (us (digs (Rat.den (dsum (rl.take nn) (rl.take nn) nn)))) ∧ my ≤ 195 ∧ ky ≤ 195 ∧ Own w.heap.size w1 25 3 (some ⟨gy, 0, none⟩) 1 1 [.bool (qneg (dsum (rl.take nn) (rl.take nn) nn)), .slice Ay my cy, .slice By ky dy] ∧ Own w.heap.size w1 48 1 Az mz cz (us (digs (qnum (dsum (rm.take nn) (rm.take nn) nn)))) ∧ Own w.heap.size w1 48 1 Bz kz dz (us (digs (Rat.den (dsum (rm.take nn) (rm.take nn) nn)))) ∧ mz ≤ 195 ∧ kz ≤ 195 ∧ Own w.heap.size w1 25 3 (some ⟨gz, 0, none⟩) 1 1 [.bool (qneg (dsum (rm.take nn) (rm.take nn) nn)), .slice Az mz cz, .slice Bz kz dz] ∧ gx < gy ∧ gx < gz ∧ gy < gz) (fun s => match s with | (gz, Az, mz, cz, Bz, kz, dz) => [(0, .slice Al ml cl), (1, .slice Am mm cm), (5, .int .i64 ((nn : Nat) : Int)), (6, .pointer (some ⟨gx, 0, none⟩)), (7, .int .i64 (0 : Int)), (8, .pointer (some ⟨gy, 0, none⟩)), (9, .int .i64 (0 : Int)), (10, .pointer (some ⟨gz, 0, none⟩)), (11, .int .i64 (0 : Int))]) ?_ ?_
          · refine W.drawF 11 9 [⟨[], [1], true⟩, ⟨[], [5], true⟩, ⟨[0, 1], [], true⟩, ⟨[], [1], true⟩, ⟨[], [5], true⟩, ⟨[3, 4], [], true⟩, ⟨[2, 5], [], false⟩, ⟨[6], [], true⟩, ⟨[7], [], true⟩, ⟨[7], [], true⟩, ⟨[], [], false⟩] [[(1, .slice Am mm cm)], [(5, .int .i64 ((nn : Nat) : Int))], [], [(1, .slice Am mm cm)], [(5, .int .i64 ((nn : Nat) : Int))], [], [], [], [], [], []] (fun iQ => [fun v wQ => v = .slice Am mm cm, fun v wQ => v = .int .i64 ((nn : Nat) : Int), fun v wQ => v = .slice Am nn cm, fun v wQ => v = .slice Am mm cm, fun v wQ => v = .int .i64 ((nn : Nat) : Int), fun v wQ => v = .slice Am nn cm, fun v wQ => ∃ A77 m78 c79 A80 m81 c82, v = .tuple #[.agg #[.bool (qneg (dsum (rm.take nn) (rm.take nn) nn)), .slice A77 m78 c79, .slice A80 m81 c82], .int .i64 (0 : Int)] ∧ (Own w.heap.size wQ 48 1 A77 m78 c79 (us (digs (qnum (dsum (rm.take nn) (rm.take nn) nn))))) ∧ (Own w.heap.size wQ 48 1 A80 m81 c82 (us (digs (Rat.den (dsum (rm.take nn) (rm.take nn) nn))))) ∧ (m78 ≤ 195 ∧ m81 ≤ 195) ∧ (∀ k, bl A77 = some k → k ≠ gx) ∧ (∀ k, bl A77 = some k → k ≠ gy) ∧ (∀ k, bl A80 = some k → k ≠ gx) ∧ (∀ k, bl A80 = some k → k ≠ gy), fun v wQ => ∃ A77_7 m78_7 c79_7 A80_7 m81_7 c82_7, v = .tuple #[.agg #[.bool (qneg (dsum (rm.take nn) (rm.take nn) nn)), .slice A77_7 m78_7 c79_7, .slice A80_7 m81_7 c82_7], .int .i64 (0 : Int)] ∧ (Own w.heap.size wQ 48 1 A77_7 m78_7 c79_7 (us (digs (qnum (dsum (rm.take nn) (rm.take nn) nn))))) ∧ (Own w.heap.size wQ 48 1 A80_7 m81_7 c82_7 (us (digs (Rat.den (dsum (rm.take nn) (rm.take nn) nn))))) ∧ (m78_7 ≤ 195 ∧ m81_7 ≤ 195) ∧ (∀ k, bl A77_7 = some k → k ≠ gx) ∧ (∀ k, bl A77_7 = some k → k ≠ gy) ∧ (∀ k, bl A80_7 = some k → k ≠ gx) ∧ (∀ k, bl A80_7 = some k → k ≠ gy), fun v wQ => ∃ A77_7_8 m78_7_8 c79_7_8 A80_7_8 m81_7_8 c82_7_8, v = .agg #[.bool (qneg (dsum (rm.take nn) (rm.take nn) nn)), .slice A77_7_8 m78_7_8 c79_7_8, .slice A80_7_8 m81_7_8 c82_7_8] ∧ (Own w.heap.size wQ 48 1 A77_7_8 m78_7_8 c79_7_8 (us (digs (qnum (dsum (rm.take nn) (rm.take nn) nn))))) ∧ (Own w.heap.size wQ 48 1 A80_7_8 m81_7_8 c82_7_8 (us (digs (Rat.den (dsum (rm.take nn) (rm.take nn) nn))))) ∧ (m78_7_8 ≤ 195 ∧ m81_7_8 ≤ 195) ∧ (∀ k, bl A77_7_8 = some k → k ≠ gx) ∧ (∀ k, bl A77_7_8 = some k → k ≠ gy) ∧ (∀ k, bl A80_7_8 = some k → k ≠ gx) ∧ (∀ k, bl A80_7_8 = some k → k ≠ gy), fun v wQ => v = .int .i64 (0 : Int), fun v wQ => ∃ gz, v = .pointer (some ⟨gz, 0, none⟩) ∧ (Own w.heap.size wQ 25 3 (some ⟨gz, 0, none⟩) 1 1 [.bool false, .slice none 0 0, .slice none 0 0]) ∧ (gx < gz) ∧ (gy < gz)].getD iQ (fun _ _ => True)) Try.mixed (by kernel_rfl) ?_ ?_ ?_ ?_
            · refine Vs_monoT _ ?_
              intro VQ hVQ vQ wQ1 wQ2 hQ1 hQ2
              simp only [List.mem_cons, List.not_mem_nil, or_false] at hVQ
              rcases hVQ with rfl | rfl | rfl | rfl | rfl | rfl | rfl | rfl | rfl | rfl | rfl
              · exact hQ1
              · exact hQ1
              · exact hQ1
              · exact hQ1
              · exact hQ1
              · exact hQ1
              · obtain ⟨A77, m78, c79, A80, m81, c82, hQe, dzn, dzd, dzm, hap_dzn_gx, hap_dzn_gy, hap_dzd_gx, hap_dzd_gy⟩ := hQ1
                exact ⟨A77, m78, c79, A80, m81, c82, hQe, dzn.ext hQ2, dzd.ext hQ2, dzm, hap_dzn_gx, hap_dzn_gy, hap_dzd_gx, hap_dzd_gy⟩
              · obtain ⟨A77_7, m78_7, c79_7, A80_7, m81_7, c82_7, hQe, dzn_7, dzd_7, dzm_7, hap_dzn_gx_7, hap_dzn_gy_7, hap_dzd_gx_7, hap_dzd_gy_7⟩ := hQ1
                exact ⟨A77_7, m78_7, c79_7, A80_7, m81_7, c82_7, hQe, dzn_7.ext hQ2, dzd_7.ext hQ2, dzm_7, hap_dzn_gx_7, hap_dzn_gy_7, hap_dzd_gx_7, hap_dzd_gy_7⟩
              · obtain ⟨A77_7_8, m78_7_8, c79_7_8, A80_7_8, m81_7_8, c82_7_8, hQe, dzn_7_8, dzd_7_8, dzm_7_8, hap_dzn_gx_7_8, hap_dzn_gy_7_8, hap_dzd_gx_7_8, hap_dzd_gy_7_8⟩ := hQ1
                exact ⟨A77_7_8, m78_7_8, c79_7_8, A80_7_8, m81_7_8, c82_7_8, hQe, dzn_7_8.ext hQ2, dzd_7_8.ext hQ2, dzm_7_8, hap_dzn_gx_7_8, hap_dzn_gy_7_8, hap_dzd_gx_7_8, hap_dzd_gy_7_8⟩
              · exact hQ1
              · obtain ⟨gz, hQe, hVgz, hlt_gx_gz, hlt_gy_gz⟩ := hQ1
                exact ⟨gz, hQe, hVgz.ext hQ2, hlt_gx_gz, hlt_gy_gz⟩
            · refine ⟨⟨rfl, ⟨rfl, trivial⟩, ?_⟩, ⟨rfl, ⟨rfl, trivial⟩, ?_⟩, ⟨rfl, trivial, ?_⟩, ⟨rfl, ⟨rfl, trivial⟩, ?_⟩, ⟨rfl, ⟨rfl, trivial⟩, ?_⟩, ⟨rfl, trivial, ?_⟩, ⟨rfl, trivial, ?_⟩, ⟨rfl, trivial, ?_⟩, ⟨rfl, trivial, ?_⟩, ⟨rfl, trivial, ?_⟩, ⟨rfl, trivial, ?_⟩, trivial⟩
              · intro w69 hE
                intro R
                refine WL.move rfl rfl ?_
                exact WL.done ⟨_, rfl, rfl, rfl⟩
              · intro w70 hE
                intro R
                refine WL.move rfl rfl ?_
                exact WL.done ⟨_, rfl, rfl, rfl⟩
              · intro w71 hE
                rintro _ rfl
                rintro _ rfl
                intro R
                refine WL.slTo (nn) Try.underlying35 Try.el25 rfl rfl (by omega) (by omega) rfl ?_
                exact WL.done ⟨_, rfl, rfl, rfl⟩
              · intro w72 hE
                intro R
                refine WL.move rfl rfl ?_
                exact WL.done ⟨_, rfl, rfl, rfl⟩
              · intro w73 hE
                intro R
                refine WL.move rfl rfl ?_
                exact WL.done ⟨_, rfl, rfl, rfl⟩
              · intro w74 hE
                rintro _ rfl
                rintro _ rfl
                intro R
                refine WL.slTo (nn) Try.underlying35 Try.el25 rfl rfl (by omega) (by omega) rfl ?_
                exact WL.done ⟨_, rfl, rfl, rfl⟩
              · intro w75 hE
                have hE := hE rfl
                have hB := ext_trans hB hE
                have hm := hm0.ext hB
                have hNm := hNm0.ext hB
                have hVgx := hVgx.ext hE
                have hVgy := hVgy.ext hE
                rintro _ rfl
                rintro _ rfl
                intro R
                refine WL.call Try.func16 rfl Try.nm16 rfl rfl (qDot_ok (hm.take (k := nn) (by omega)) (hNm.take nn) (hm.take (k := nn) (by omega)) (hNm.take nn) (hLm.take nn) (hLm.take nn) (hKm.take nn) (hKm.take nn) (by omega) rfl) ?_
                rintro _ w76 ⟨A77, m78, c79, A80, m81, c82, rfl, hGw76, dzn, dzd, dzm⟩
                have hap_dzn_gx := ap_new dzn (hVgx.bl_ge _ rfl).2
                have hap_dzn_gy := ap_new dzn (hVgy.bl_ge _ rfl).2
                have hap_dzd_gx := ap_new dzd (hVgx.bl_ge _ rfl).2
                have hap_dzd_gy := ap_new dzd (hVgy.bl_ge _ rfl).2
                have dzn := dzn.low (b' := w.heap.size) hB.size
                have dzd := dzd.low (b' := w.heap.size) hB.size
                have hB := ext_trans hB hGw76
                have dzn_l := dzn.rd.ulen
                have dzd_l := dzd.rd.ulen
                exact WL.done ⟨_, rfl, hGw76, ⟨A77, m78, c79, A80, m81, c82, rfl, dzn, dzd, dzm, hap_dzn_gx, hap_dzn_gy, hap_dzd_gx, hap_dzd_gy⟩⟩
              · intro w83 hE
                rintro _ ⟨A77, m78, c79, A80, m81, c82, rfl, dzn, dzd, dzm, hap_dzn_gx, hap_dzn_gy, hap_dzd_gx, hap_dzd_gy⟩
                intro R
                refine WL.move rfl rfl ?_
                exact WL.done ⟨_, rfl, rfl, ⟨A77, m78, c79, A80, m81, c82, rfl, dzn, dzd, dzm, hap_dzn_gx, hap_dzn_gy, hap_dzd_gx, hap_dzd_gy⟩⟩
              · intro w84 hE
                rintro _ ⟨A77_7, m78_7, c79_7, A80_7, m81_7, c82_7, rfl, dzn_7, dzd_7, dzm_7, hap_dzn_gx_7, hap_dzn_gy_7, hap_dzd_gx_7, hap_dzd_gy_7⟩
                intro R
                refine WL.extract rfl rfl rfl ?_
                exact WL.done ⟨_, rfl, rfl, ⟨A77_7, m78_7, c79_7, A80_7, m81_7, c82_7, rfl, dzn_7, dzd_7, dzm_7, hap_dzn_gx_7, hap_dzn_gy_7, hap_dzd_gx_7, hap_dzd_gy_7⟩⟩
              · intro w85 hE
                rintro _ ⟨A77_7, m78_7, c79_7, A80_7, m81_7, c82_7, rfl, dzn_7, dzd_7, dzm_7, hap_dzn_gx_7, hap_dzn_gy_7, hap_dzd_gx_7, hap_dzd_gy_7⟩
                intro R
                refine WL.extract rfl rfl rfl ?_
                exact WL.done ⟨_, rfl, rfl, rfl⟩
              · intro w86 hE
                have hE := hE rfl
                have hB := ext_trans hB hE
                have hVgx := hVgx.ext hE
                have hVgy := hVgy.ext hE
                intro R
                refine WL.alloc Try.el25 rfl ?_
                intro gz w87 hg_gz hVgz hGw87
                change Own _ _ _ _ _ _ _ [.bool false, .slice none 0 0, .slice none 0 0] at hVgz
                have hlt_gx_gz : gx < gz := by rw [hg_gz]; exact (hVgx.bl_ge _ rfl).2
                have hlt_gy_gz : gy < gz := by rw [hg_gz]; exact (hVgy.bl_ge _ rfl).2
                have hVgz := hVgz.low (b' := w.heap.size) hB.size
                have hB := ext_trans hB hGw87
                exact WL.done ⟨_, rfl, hGw87, ⟨gz, rfl, hVgz, hlt_gx_gz, hlt_gy_gz⟩⟩
            · intro vals w88 hT hVs
              have hB := ext_trans hB hT
              have hxn := hxn.ext hT
              have hxd := hxd.ext hT
              have hVgx := hVgx.ext hT
              have hyn := hyn.ext hT
              have hyd := hyd.ext hT
              have hVgy := hVgy.ext hT
              have hv0 : vals 0 = _ := hVs 0 (by decide)
              have hv1 : vals 1 = _ := hVs 1 (by decide)
              have hv2 : vals 2 = _ := hVs 2 (by decide)
              have hv3 : vals 3 = _ := hVs 3 (by decide)
              have hv4 : vals 4 = _ := hVs 4 (by decide)
              have hv5 : vals 5 = _ := hVs 5 (by decide)
              obtain ⟨A77, m78, c79, A80, m81, c82, hv6, dzn, dzd, dzm, hap_dzn_gx, hap_dzn_gy, hap_dzd_gx, hap_dzd_gy⟩ := hVs 6 (by decide)
              obtain ⟨A77_7, m78_7, c79_7, A80_7, m81_7, c82_7, hv7, dzn_7, dzd_7, dzm_7, hap_dzn_gx_7, hap_dzn_gy_7, hap_dzd_gx_7, hap_dzd_gy_7⟩ := hVs 7 (by decide)
              obtain ⟨A77_7_8, m78_7_8, c79_7_8, A80_7_8, m81_7_8, c82_7_8, hv8, dzn_7_8, dzd_7_8, dzm_7_8, hap_dzn_gx_7_8, hap_dzn_gy_7_8, hap_dzd_gx_7_8, hap_dzd_gy_7_8⟩ := hVs 8 (by decide)
              have hv9 : vals 9 = _ := hVs 9 (by decide)
              obtain ⟨gz, hv10, hVgz, hlt_gx_gz, hlt_gy_gz⟩ := hVs 10 (by decide)
              have hap_hxn_gz := ap_type hxn hVgz (by decide)
              have hap_hxd_gz := ap_type hxd hVgz (by decide)
              have hap_hyn_gz := ap_type hyn hVgz (by decide)
              have hap_hyd_gz := ap_type hyd hVgz (by decide)
              have hap_dzn_7_8_gz := ap_type dzn_7_8 hVgz (by decide)
              have hap_dzd_7_8_gz := ap_type dzd_7_8 hVgz (by decide)
              rw [show (List.filterMap (fun i => Option.map (fun t => (t, vals i)) (dstAt _ i)) (List.range _)) = [(44, .slice Am mm cm), (45, .int .i64 ((nn : Nat) : Int)), (46, .slice Am nn cm), (47, .slice Am mm cm), (48, .int .i64 ((nn : Nat) : Int)), (49, .slice Am nn cm), (50, .tuple #[.agg #[.bool (qneg (dsum (rm.take nn) (rm.take nn) nn)), .slice A77 m78 c79, .slice A80 m81 c82], .int .i64 (0 : Int)]), (43, .tuple #[.agg #[.bool (qneg (dsum (rm.take nn) (rm.take nn) nn)), .slice A77_7 m78_7 c79_7, .slice A80_7 m81_7 c82_7], .int .i64 (0 : Int)]), (51, .agg #[.bool (qneg (dsum (rm.take nn) (rm.take nn) nn)), .slice A77_7_8 m78_7_8 c79_7_8, .slice A80_7_8 m81_7_8 c82_7_8]), (52, .int .i64 (0 : Int)), (10, .pointer (some ⟨gz, 0, none⟩))] from by
                show [(44, vals 0), (45, vals 1), (46, vals 2), (47, vals 3), (48, vals 4), (49, vals 5), (50, vals 6), (43, vals 7), (51, vals 8), (52, vals 9), (10, vals 10)] = _
                rw [hv0, hv1, hv2, hv3, hv4, hv5, hv6, hv7, hv8, hv9, hv10]]
              refine WA.step [11] (by decide +kernel) rfl ?_
              intro iQ hQ
              simp only [List.mem_cons, List.not_mem_nil, or_false] at hQ
              obtain rfl := hQ
              · refine ⟨_, rfl, ?_⟩
                refine WL.storeV Try.el25 rfl rfl rfl rfl hVgz ?_
                have hOld90 := hVgz
                intro w89 hVgz hGw89
                change Own _ _ _ _ _ _ _ [.bool (qneg (dsum (rm.take nn) (rm.take nn) nn)), .slice A77_7_8 m78_7_8 c79_7_8, .slice A80_7_8 m81_7_8 c82_7_8] at hVgz
                have hB := ext_own hB hGw89 (fun g hg => (hOld90.bl_ge g hg).1)
                have hxn := hxn.grown hGw89 (ap_row hap_hxn_gz)
                have hxd := hxd.grown hGw89 (ap_row hap_hxd_gz)
                have hVgx := hVgx.grown hGw89 (apart (by omega))
                have hyn := hyn.grown hGw89 (ap_row hap_hyn_gz)
                have hyd := hyd.grown hGw89 (ap_row hap_hyd_gz)
                have hVgy := hVgy.grown hGw89 (apart (by omega))
                have dzn_7_8 := dzn_7_8.grown hGw89 (ap_row hap_dzn_7_8_gz)
                have dzd_7_8 := dzd_7_8.grown hGw89 (ap_row hap_dzd_7_8_gz)
                refine WL.done ?_
                refine WA.step [12] (by decide +kernel) rfl ?_
                intro iQ hQ
                simp only [List.mem_cons, List.not_mem_nil, or_false] at hQ
                obtain rfl := hQ
                · refine ⟨_, rfl, ?_⟩
                  refine WL.assign rfl rfl ?_
                  refine WL.done ?_
                  refine WA.done (by decide +kernel) ?_
                  refine ⟨(gz, A77_7_8, m78_7_8, c79_7_8, A80_7_8, m81_7_8, c82_7_8), ⟨rfl, rfl, rfl, rfl, rfl, rfl, rfl, rfl, rfl, trivial⟩, ?_⟩
                  exact ⟨hB, hxn, hxd, hbx1, hbx2, hVgx, hyn, hyd, hby1, hby2, hVgy, dzn_7_8, dzd_7_8, by omega, by omega, hVgz, by omega, by omega, by omega⟩
            · intro vals w91 hT hVs qF hqF
              obtain rfl : qF = 3 := hqF.trans (by decide +kernel)
              have hB := ext_trans hB hT
              have hxn := hxn.ext hT
              have hxd := hxd.ext hT
              have hVgx := hVgx.ext hT
              have hyn := hyn.ext hT
              have hyd := hyd.ext hT
              have hVgy := hVgy.ext hT
              have hv0 : vals 0 = _ := hVs 0 (by decide) (by decide)
              have hv1 : vals 1 = _ := hVs 1 (by decide) (by decide)
              have hv2 : vals 2 = _ := hVs 2 (by decide) (by decide)
              have hv3 : vals 3 = _ := hVs 3 (by decide) (by decide)
              have hv4 : vals 4 = _ := hVs 4 (by decide) (by decide)
              have hv5 : vals 5 = _ := hVs 5 (by decide) (by decide)
              obtain ⟨A77, m78, c79, A80, m81, c82, hv6, dzn, dzd, dzm, hap_dzn_gx, hap_dzn_gy, hap_dzd_gx, hap_dzd_gy⟩ := hVs 6 (by decide) (by decide)
              obtain ⟨A77_7, m78_7, c79_7, A80_7, m81_7, c82_7, hv7, dzn_7, dzd_7, dzm_7, hap_dzn_gx_7, hap_dzn_gy_7, hap_dzd_gx_7, hap_dzd_gy_7⟩ := hVs 7 (by decide) (by decide)
              obtain ⟨A77_7_8, m78_7_8, c79_7_8, A80_7_8, m81_7_8, c82_7_8, hv8, dzn_7_8, dzd_7_8, dzm_7_8, hap_dzn_gx_7_8, hap_dzn_gy_7_8, hap_dzd_gx_7_8, hap_dzd_gy_7_8⟩ := hVs 8 (by decide) (by decide)
              obtain ⟨gz, hv10, hVgz, hlt_gx_gz, hlt_gy_gz⟩ := hVs 10 (by decide) (by decide)
              have hap_hxn_gz := ap_type hxn hVgz (by decide)
              have hap_hxd_gz := ap_type hxd hVgz (by decide)
              have hap_hyn_gz := ap_type hyn hVgz (by decide)
              have hap_hyd_gz := ap_type hyd hVgz (by decide)
              have hap_dzn_7_8_gz := ap_type dzn_7_8 hVgz (by decide)
              have hap_dzd_7_8_gz := ap_type dzd_7_8 hVgz (by decide)
              rw [show (List.filterMap (fun i => if i = 9 then none else Option.map (fun t => (t, vals i)) (dstAt _ i)) (List.range _)) = [(44, .slice Am mm cm), (45, .int .i64 ((nn : Nat) : Int)), (46, .slice Am nn cm), (47, .slice Am mm cm), (48, .int .i64 ((nn : Nat) : Int)), (49, .slice Am nn cm), (50, .tuple #[.agg #[.bool (qneg (dsum (rm.take nn) (rm.take nn) nn)), .slice A77 m78 c79, .slice A80 m81 c82], .int .i64 (0 : Int)]), (43, .tuple #[.agg #[.bool (qneg (dsum (rm.take nn) (rm.take nn) nn)), .slice A77_7 m78_7 c79_7, .slice A80_7 m81_7 c82_7], .int .i64 (0 : Int)]), (51, .agg #[.bool (qneg (dsum (rm.take nn) (rm.take nn) nn)), .slice A77_7_8 m78_7_8 c79_7_8, .slice A80_7_8 m81_7_8 c82_7_8]), (10, .pointer (some ⟨gz, 0, none⟩))] from by
                show [(44, vals 0), (45, vals 1), (46, vals 2), (47, vals 3), (48, vals 4), (49, vals 5), (50, vals 6), (43, vals 7), (51, vals 8), (10, vals 10)] = _
                rw [hv0, hv1, hv2, hv3, hv4, hv5, hv6, hv7, hv8, hv10]]
              refine WA.step [9, 11] (by decide +kernel) rfl ?_
              intro iQ hQ
              simp only [List.mem_cons, List.not_mem_nil, or_false] at hQ
              rcases hQ with rfl | rfl
              · refine ⟨_, rfl, ?_⟩
                refine WL.extract rfl rfl rfl ?_
                refine WL.done ?_
                refine WA.step [11] (by decide +kernel) rfl ?_
                intro iQ hQ
                simp only [List.mem_cons, List.not_mem_nil, or_false] at hQ
                obtain rfl := hQ
                · refine ⟨_, rfl, ?_⟩
                  refine WL.storeV Try.el25 rfl rfl rfl rfl hVgz ?_
                  have hOld93 := hVgz
                  intro w92 hVgz hGw92
                  change Own _ _ _ _ _ _ _ [.bool (qneg (dsum (rm.take nn) (rm.take nn) nn)), .slice A77_7_8 m78_7_8 c79_7_8, .slice A80_7_8 m81_7_8 c82_7_8] at hVgz
                  have hB := ext_own hB hGw92 (fun g hg => (hOld93.bl_ge g hg).1)
                  have hxn := hxn.grown hGw92 (ap_row hap_hxn_gz)
                  have hxd := hxd.grown hGw92 (ap_row hap_hxd_gz)
                  have hVgx := hVgx.grown hGw92 (apart (by omega))
                  have hyn := hyn.grown hGw92 (ap_row hap_hyn_gz)
                  have hyd := hyd.grown hGw92 (ap_row hap_hyd_gz)
                  have hVgy := hVgy.grown hGw92 (apart (by omega))
                  have dzn_7_8 := dzn_7_8.grown hGw92 (ap_row hap_dzn_7_8_gz)
                  have dzd_7_8 := dzd_7_8.grown hGw92 (ap_row hap_dzd_7_8_gz)
                  refine WL.done ?_
                  refine WA.step [12] (by decide +kernel) rfl ?_
                  intro iQ hQ
                  simp only [List.mem_cons, List.not_mem_nil, or_false] at hQ
                  obtain rfl := hQ
                  · refine ⟨_, rfl, ?_⟩
                    refine WL.assign rfl rfl ?_
                    refine WL.done ?_
                    refine WA.done (by decide +kernel) ?_
                    refine ⟨(gz, A77_7_8, m78_7_8, c79_7_8, A80_7_8, m81_7_8, c82_7_8), ⟨rfl, rfl, rfl, rfl, rfl, rfl, rfl, rfl, rfl, trivial⟩, ?_⟩
                    exact ⟨hB, hxn, hxd, hbx1, hbx2, hVgx, hyn, hyd, hby1, hby2, hVgy, dzn_7_8, dzd_7_8, by omega, by omega, hVgz, by omega, by omega, by omega⟩
              · refine ⟨_, rfl, ?_⟩
                refine WL.storeV Try.el25 rfl rfl rfl rfl hVgz ?_
                have hOld95 := hVgz
                intro w94 hVgz hGw94
                change Own _ _ _ _ _ _ _ [.bool (qneg (dsum (rm.take nn) (rm.take nn) nn)), .slice A77_7_8 m78_7_8 c79_7_8, .slice A80_7_8 m81_7_8 c82_7_8] at hVgz
                have hB := ext_own hB hGw94 (fun g hg => (hOld95.bl_ge g hg).1)
                have hxn := hxn.grown hGw94 (ap_row hap_hxn_gz)
                have hxd := hxd.grown hGw94 (ap_row hap_hxd_gz)
                have hVgx := hVgx.grown hGw94 (apart (by omega))
                have hyn := hyn.grown hGw94 (ap_row hap_hyn_gz)
                have hyd := hyd.grown hGw94 (ap_row hap_hyd_gz)
                have hVgy := hVgy.grown hGw94 (apart (by omega))
                have dzn_7_8 := dzn_7_8.grown hGw94 (ap_row hap_dzn_7_8_gz)
                have dzd_7_8 := dzd_7_8.grown hGw94 (ap_row hap_dzd_7_8_gz)
                refine WL.done ?_
                refine WA.step [9] (by decide +kernel) rfl ?_
                intro iQ hQ
                simp only [List.mem_cons, List.not_mem_nil, or_false] at hQ
                obtain rfl := hQ
                · refine ⟨_, rfl, ?_⟩
                  refine WL.extract rfl rfl rfl ?_
                  refine WL.done ?_
                  refine WA.step [12] (by decide +kernel) rfl ?_
                  intro iQ hQ
                  simp only [List.mem_cons, List.not_mem_nil, or_false] at hQ
                  obtain rfl := hQ
                  · refine ⟨_, rfl, ?_⟩
                    refine WL.assign rfl rfl ?_
                    refine WL.done ?_
                    refine WA.done (by decide +kernel) ?_
                    refine ⟨(gz, A77_7_8, m78_7_8, c79_7_8, A80_7_8, m81_7_8, c82_7_8), ⟨rfl, rfl, rfl, rfl, rfl, rfl, rfl, rfl, rfl, trivial⟩, ?_⟩
                    exact ⟨hB, hxn, hxd, hbx1, hbx2, hVgx, hyn, hyd, hby1, hby2, hVgy, dzn_7_8, dzd_7_8, by omega, by omega, hVgz, by omega, by omega, by omega⟩
          · rintro ⟨gz, Az, mz, cz, Bz, kz, dz⟩ w96 ⟨hB, hxn, hxd, hbx1, hbx2, hVgx, hyn, hyd, hby1, hby2, hVgy, hzn, hzd, hbz1, hbz2, hVgz, hlt_gx_gy, hlt_gx_gz, hlt_gy_gz⟩
            have hxn_l := hxn.rd.ulen
            have hxd_l := hxd.rd.ulen
            have hyn_l := hyn.rd.ulen
            have hyd_l := hyd.rd.ulen
            have hzn_l := hzn.rd.ulen
            have hzd_l := hzd.rd.ulen
            refine W.seq ?_
            refine W.drawT 24 [⟨[], [7], true⟩, ⟨[0], [], true⟩, ⟨[1], [], true⟩, ⟨[2], [9], true⟩, ⟨[2, 3], [], true⟩, ⟨[2, 4], [], true⟩, ⟨[5], [], true⟩, ⟨[6], [11], true⟩, ⟨[6, 7], [], true⟩, ⟨[6, 8], [], true⟩, ⟨[9], [], true⟩, ⟨[10], [6], false⟩, ⟨[10, 11], [], false⟩, ⟨[10, 12], [], true⟩, ⟨[13], [], true⟩, ⟨[14], [6], false⟩, ⟨[14], [6], false⟩, ⟨[14, 15, 16], [], false⟩, ⟨[14, 17], [], false⟩, ⟨[14], [8], false⟩, ⟨[14], [10], false⟩, ⟨[14, 19, 20], [], false⟩, ⟨[14, 21], [], false⟩, ⟨[14, 18, 22], [], false⟩] [[(7, .int .i64 (0 : Int))], [], [], [(9, .int .i64 (0 : Int))], [], [], [], [(11, .int .i64 (0 : Int))], [], [], [], [(6, .pointer (some ⟨gx, 0, none⟩))], [], [], [], [(6, .pointer (some ⟨gx, 0, none⟩))], [(6, .pointer (some ⟨gx, 0, none⟩))], [], [], [(8, .pointer (some ⟨gy, 0, none⟩))], [(10, .pointer (some ⟨gz, 0, none⟩))], [], [], []] (fun iQ => [fun v wQ => v = .int .i64 (0 : Int), fun v wQ => v = .bool true, fun v wQ => v = .bool true, fun v wQ => v = .int .i64 (0 : Int), fun v wQ => v = .bool true, fun v wQ => v = .bool true, fun v wQ => v = .bool true, fun v wQ => v = .int .i64 (0 : Int), fun v wQ => v = .bool true, fun v wQ => v = .bool true, fun v wQ => v = .bool true, fun v wQ => v = .agg #[.bool (qneg (dsum (rl.take nn) (rm.take nn) nn)), .slice Ax mx cx, .slice Bx kx dx], fun v wQ => v = .bool true, fun v wQ => v = .bool true, fun v wQ => v = .bool true, fun v wQ => v = .agg #[.bool (qneg (dsum (rl.take nn) (rm.take nn) nn)), .slice Ax mx cx, .slice Bx kx dx], fun v wQ => v = .agg #[.bool (qneg (dsum (rl.take nn) (rm.take nn) nn)), .slice Ax mx cx, .slice Bx kx dx], fun v wQ => ∃ A116, v = .slice A116 2 2 ∧ (Own w.heap.size wQ 25 3 A116 2 2 [.bool (qneg (dsum (rl.take nn) (rm.take nn) nn)), .slice Ax mx cx, .slice Bx kx dx, .bool (qneg (dsum (rl.take nn) (rm.take nn) nn)), .slice Ax mx cx, .slice Bx kx dx]) ∧ (RatsR wQ.heap.size wQ [.bool (qneg (dsum (rl.take nn) (rm.take nn) nn)), .slice Ax mx cx, .slice Bx kx dx, .bool (qneg (dsum (rl.take nn) (rm.take nn) nn)), .slice Ax mx cx, .slice Bx kx dx] [((qneg (dsum (rl.take nn) (rm.take nn) nn)), digs (qnum (dsum (rl.take nn) (rm.take nn) nn)), digs (Rat.den (dsum (rl.take nn) (rm.take nn) nn))), ((qneg (dsum (rl.take nn) (rm.take nn) nn)), digs (qnum (dsum (rl.take nn) (rm.take nn) nn)), digs (Rat.den (dsum (rl.take nn) (rm.take nn) nn)))]) ∧ (∀ k, bl A116 = some k → k ≠ gx) ∧ (∀ k, bl A116 = some k → k ≠ gy) ∧ (∀ k, bl A116 = some k → k ≠ gz), fun v wQ => ∃ A122 m123 c124 A125 m126 c127, v = .agg #[.bool (qneg ((dsum (rl.take nn) (rm.take nn) nn) * (dsum (rl.take nn) (rm.take nn) nn))), .slice A122 m123 c124, .slice A125 m126 c127] ∧ (Own w.heap.size wQ 48 1 A122 m123 c124 (us (digs (qnum ((dsum (rl.take nn) (rm.take nn) nn) * (dsum (rl.take nn) (rm.take nn) nn)))))) ∧ (Own w.heap.size wQ 48 1 A125 m126 c127 (us (digs (Rat.den ((dsum (rl.take nn) (rm.take nn) nn) * (dsum (rl.take nn) (rm.take nn) nn)))))) ∧ (m123 ≤ 785 ∧ m126 ≤ 785) ∧ (∀ k, bl A122 = some k → k ≠ gx) ∧ (∀ k, bl A122 = some k → k ≠ gy) ∧ (∀ k, bl A122 = some k → k ≠ gz) ∧ (∀ k, bl A125 = some k → k ≠ gx) ∧ (∀ k, bl A125 = some k → k ≠ gy) ∧ (∀ k, bl A125 = some k → k ≠ gz), fun v wQ => v = .agg #[.bool (qneg (dsum (rl.take nn) (rl.take nn) nn)), .slice Ay my cy, .slice By ky dy], fun v wQ => v = .agg #[.bool (qneg (dsum (rm.take nn) (rm.take nn) nn)), .slice Az mz cz, .slice Bz kz dz], fun v wQ => ∃ A131, v = .slice A131 2 2 ∧ (Own w.heap.size wQ 25 3 A131 2 2 [.bool (qneg (dsum (rl.take nn) (rl.take nn) nn)), .slice Ay my cy, .slice By ky dy, .bool (qneg (dsum (rm.take nn) (rm.take nn) nn)), .slice Az mz cz, .slice Bz kz dz]) ∧ (RatsR wQ.heap.size wQ [.bool (qneg (dsum (rl.take nn) (rl.take nn) nn)), .slice Ay my cy, .slice By ky dy, .bool (qneg (dsum (rm.take nn) (rm.take nn) nn)), .slice Az mz cz, .slice Bz kz dz] [((qneg (dsum (rl.take nn) (rl.take nn) nn)), digs (qnum (dsum (rl.take nn) (rl.take nn) nn)), digs (Rat.den (dsum (rl.take nn) (rl.take nn) nn))), ((qneg (dsum (rm.take nn) (rm.take nn) nn)), digs (qnum (dsum (rm.take nn) (rm.take nn) nn)), digs (Rat.den (dsum (rm.take nn) (rm.take nn) nn)))]) ∧ (∀ k, bl A131 = some k → k ≠ gx) ∧ (∀ k, bl A131 = some k → k ≠ gy) ∧ (∀ k, bl A131 = some k → k ≠ gz), fun v wQ => ∃ A137 m138 c139 A140 m141 c142, v = .agg #[.bool (qneg ((dsum (rl.take nn) (rl.take nn) nn) * (dsum (rm.take nn) (rm.take nn) nn))), .slice A137 m138 c139, .slice A140 m141 c142] ∧ (Own w.heap.size wQ 48 1 A137 m138 c139 (us (digs (qnum ((dsum (rl.take nn) (rl.take nn) nn) * (dsum (rm.take nn) (rm.take nn) nn)))))) ∧ (Own w.heap.size wQ 48 1 A140 m141 c142 (us (digs (Rat.den ((dsum (rl.take nn) (rl.take nn) nn) * (dsum (rm.take nn) (rm.take nn) nn)))))) ∧ (m138 ≤ 785 ∧ m141 ≤ 785) ∧ (∀ k, bl A137 = some k → k ≠ gx) ∧ (∀ k, bl A137 = some k → k ≠ gy) ∧ (∀ k, bl A137 = some k → k ≠ gz) ∧ (∀ k, bl A140 = some k → k ≠ gx) ∧ (∀ k, bl A140 = some k → k ≠ gy) ∧ (∀ k, bl A140 = some k → k ≠ gz), fun v wQ => v = .int .i64 (sg (((dsum (rl.take nn) (rm.take nn) nn) * (dsum (rl.take nn) (rm.take nn) nn)) - ((dsum (rl.take nn) (rl.take nn) nn) * (dsum (rm.take nn) (rm.take nn) nn))))].getD iQ (fun _ _ => True)) Try.mixed (by kernel_rfl) ?_ ?_ ?_
            · refine Vs_monoT _ ?_
              intro VQ hVQ vQ wQ1 wQ2 hQ1 hQ2
              simp only [List.mem_cons, List.not_mem_nil, or_false] at hVQ
              rcases hVQ with rfl | rfl | rfl | rfl | rfl | rfl | rfl | rfl | rfl | rfl | rfl | rfl | rfl | rfl | rfl | rfl | rfl | rfl | rfl | rfl | rfl | rfl | rfl | rfl
              · exact hQ1
              · exact hQ1
              · exact hQ1
              · exact hQ1
              · exact hQ1
              · exact hQ1
              · exact hQ1
              · exact hQ1
              · exact hQ1
              · exact hQ1
              · exact hQ1
              · exact hQ1
              · exact hQ1
              · exact hQ1
              · exact hQ1
              · exact hQ1
              · exact hQ1
              · obtain ⟨A116, hQe, hO118, hN119, hap_hO118_gx, hap_hO118_gy, hap_hO118_gz⟩ := hQ1
                exact ⟨A116, hQe, hO118.ext hQ2, (hN119.ext hQ2).norm, hap_hO118_gx, hap_hO118_gy, hap_hO118_gz⟩
              · obtain ⟨A122, m123, c124, A125, m126, c127, hQe, u1n, u1d, u1m, hap_u1n_gx, hap_u1n_gy, hap_u1n_gz, hap_u1d_gx, hap_u1d_gy, hap_u1d_gz⟩ := hQ1
                exact ⟨A122, m123, c124, A125, m126, c127, hQe, u1n.ext hQ2, u1d.ext hQ2, u1m, hap_u1n_gx, hap_u1n_gy, hap_u1n_gz, hap_u1d_gx, hap_u1d_gy, hap_u1d_gz⟩
              · exact hQ1
              · exact hQ1
              · obtain ⟨A131, hQe, hO133, hN134, hap_hO133_gx, hap_hO133_gy, hap_hO133_gz⟩ := hQ1
                exact ⟨A131, hQe, hO133.ext hQ2, (hN134.ext hQ2).norm, hap_hO133_gx, hap_hO133_gy, hap_hO133_gz⟩
              · obtain ⟨A137, m138, c139, A140, m141, c142, hQe, u2n, u2d, u2m, hap_u2n_gx, hap_u2n_gy, hap_u2n_gz, hap_u2d_gx, hap_u2d_gy, hap_u2d_gz⟩ := hQ1
                exact ⟨A137, m138, c139, A140, m141, c142, hQe, u2n.ext hQ2, u2d.ext hQ2, u2m, hap_u2n_gx, hap_u2n_gy, hap_u2n_gz, hap_u2d_gx, hap_u2d_gy, hap_u2d_gz⟩
              · exact hQ1
            · refine ⟨⟨rfl, ⟨rfl, trivial⟩, ?_⟩, ⟨rfl, trivial, ?_⟩, ⟨rfl, trivial, ?_⟩, ⟨rfl, ⟨rfl, trivial⟩, ?_⟩, ⟨rfl, trivial, ?_⟩, ⟨rfl, trivial, ?_⟩, ⟨rfl, trivial, ?_⟩, ⟨rfl, ⟨rfl, trivial⟩, ?_⟩, ⟨rfl, trivial, ?_⟩, ⟨rfl, trivial, ?_⟩, ⟨rfl, trivial, ?_⟩, ⟨rfl, ⟨rfl, trivial⟩, ?_⟩, ⟨rfl, trivial, ?_⟩, ⟨rfl, trivial, ?_⟩, ⟨rfl, trivial, ?_⟩, ⟨rfl, ⟨rfl, trivial⟩, ?_⟩, ⟨rfl, ⟨rfl, trivial⟩, ?_⟩, ⟨rfl, trivial, ?_⟩, ⟨rfl, trivial, ?_⟩, ⟨rfl, ⟨rfl, trivial⟩, ?_⟩, ⟨rfl, ⟨rfl, trivial⟩, ?_⟩, ⟨rfl, trivial, ?_⟩, ⟨rfl, trivial, ?_⟩, ⟨rfl, trivial, ?_⟩, trivial⟩
              · intro w97 hE
                intro R
                refine WL.move rfl rfl ?_
                exact WL.done ⟨_, rfl, rfl, rfl⟩
              · intro w98 hE
                rintro _ rfl
                intro R
                refine WL.eqlD rfl rfl rfl ?_
                exact WL.done ⟨_, rfl, rfl, rfl⟩
              · intro w99 hE
                rintro _ rfl
                intro R
                refine WL.move rfl rfl ?_
                exact WL.done ⟨_, rfl, rfl, rfl⟩
              · intro w100 hE
                rintro _ rfl
                intro R
                refine WL.take rfl ?_
                refine WL.move rfl rfl ?_
                exact WL.done ⟨_, rfl, rfl, rfl⟩
              · intro w101 hE
                rintro _ rfl
                rintro _ rfl
                intro R
                refine WL.take rfl ?_
                refine WL.eqlD rfl rfl rfl ?_
                exact WL.done ⟨_, rfl, rfl, rfl⟩
              · intro w102 hE
                rintro _ rfl
                rintro _ rfl
                intro R
                refine WL.pick rfl rfl rfl ?_
                exact WL.done ⟨_, rfl, rfl, rfl⟩
              · intro w103 hE
                rintro _ rfl
                intro R
                refine WL.move rfl rfl ?_
                exact WL.done ⟨_, rfl, rfl, rfl⟩
              · intro w104 hE
                rintro _ rfl
                intro R
                refine WL.take rfl ?_
                refine WL.move rfl rfl ?_
                exact WL.done ⟨_, rfl, rfl, rfl⟩
              · intro w105 hE
                rintro _ rfl
                rintro _ rfl
                intro R
                refine WL.take rfl ?_
                refine WL.eqlD rfl rfl rfl ?_
                exact WL.done ⟨_, rfl, rfl, rfl⟩
              · intro w106 hE
                rintro _ rfl
                rintro _ rfl
                intro R
                refine WL.pick rfl rfl rfl ?_
                exact WL.done ⟨_, rfl, rfl, rfl⟩
              · intro w107 hE
                rintro _ rfl
                intro R
                refine WL.move rfl rfl ?_
                exact WL.done ⟨_, rfl, rfl, rfl⟩
              · intro w108 hE
                have hE := hE rfl
                have hB := ext_trans hB hE
                have hVgx := hVgx.ext hE
                rintro _ rfl
                intro R
                refine WL.take rfl ?_
                refine WL.loadV (cs := [.bool (qneg (dsum (rl.take nn) (rm.take nn) nn)), .slice Ax mx cx, .slice Bx kx dx]) Try.el25 Try.agg25 rfl rfl hVgx.vcells rfl ?_
                exact WL.done ⟨_, rfl, ext_refl _, rfl⟩
              · intro w109 hE
                have hE := hE rfl
                have hB := ext_trans hB hE
                have hxn := hxn.ext hE
                have hxd := hxd.ext hE
                rintro _ rfl
                rintro _ rfl
                intro R
                refine WL.take rfl ?_
                refine WL.call Try.func19 rfl Try.nm19 rfl rfl (qIs_t hxn.rd hxd.rd (digs_lim _) (digs_lim _) (dsum (rl.take nn) (rm.take nn) nn) (val_canon _) (by omega)) ?_
                rintro _ w110 ⟨rfl, hGw110⟩
                have hB := ext_trans hB hGw110
                exact WL.done ⟨_, rfl, hGw110, rfl⟩
              · intro w111 hE
                rintro _ rfl
                rintro _ rfl
                intro R
                refine WL.pick rfl rfl rfl ?_
                exact WL.done ⟨_, rfl, rfl, rfl⟩
              · intro w112 hE
                rintro _ rfl
                intro R
                refine WL.move rfl rfl ?_
                exact WL.done ⟨_, rfl, rfl, rfl⟩
              · intro w113 hE
                have hE := hE rfl
                have hB := ext_trans hB hE
                have hVgx := hVgx.ext hE
                rintro _ rfl
                intro R
                refine WL.take rfl ?_
                refine WL.loadV (cs := [.bool (qneg (dsum (rl.take nn) (rm.take nn) nn)), .slice Ax mx cx, .slice Bx kx dx]) Try.el25 Try.agg25 rfl rfl hVgx.vcells rfl ?_
                exact WL.done ⟨_, rfl, ext_refl _, rfl⟩
              · intro w114 hE
                have hE := hE rfl
                have hB := ext_trans hB hE
                have hVgx := hVgx.ext hE
                rintro _ rfl
                intro R
                refine WL.take rfl ?_
                refine WL.loadV (cs := [.bool (qneg (dsum (rl.take nn) (rm.take nn) nn)), .slice Ax mx cx, .slice Bx kx dx]) Try.el25 Try.agg25 rfl rfl hVgx.vcells rfl ?_
                exact WL.done ⟨_, rfl, ext_refl _, rfl⟩
              · intro w115 hE
                have hE := hE rfl
                have hB := ext_trans hB hE
                have hxn := hxn.ext hE
                have hxd := hxd.ext hE
                have hVgx := hVgx.ext hE
                have hVgy := hVgy.ext hE
                have hVgz := hVgz.ext hE
                rintro _ rfl
                rintro _ rfl
                rintro _ rfl
                intro R
                refine WL.take rfl ?_
                refine WL.lit (b := w115.heap.size) (cells := [.bool (qneg (dsum (rl.take nn) (rm.take nn) nn)), .slice Ax mx cx, .slice Bx kx dx, .bool (qneg (dsum (rl.take nn) (rm.take nn) nn)), .slice Ax mx cx, .slice Bx kx dx]) Try.underlying35 Try.el25 (by decide) ⟨_, rfl, by kernel_rfl⟩ rfl (Nat.le_refl _) rfl ?_
                rintro A116 w117 - hO118 hGw117
                have hap_hO118_gx := ap_new hO118 (hVgx.bl_ge _ rfl).2
                have hap_hO118_gy := ap_new hO118 (hVgy.bl_ge _ rfl).2
                have hap_hO118_gz := ap_new hO118 (hVgz.bl_ge _ rfl).2
                have hO118 := hO118.low (b' := w.heap.size) hB.size
                have hB := ext_trans hB hGw117
                have hxn := hxn.ext hGw117
                have hxd := hxd.ext hGw117
                have hN119 : RatsR w117.heap.size w117 [.bool (qneg (dsum (rl.take nn) (rm.take nn) nn)), .slice Ax mx cx, .slice Bx kx dx, .bool (qneg (dsum (rl.take nn) (rm.take nn) nn)), .slice Ax mx cx, .slice Bx kx dx] [((qneg (dsum (rl.take nn) (rm.take nn) nn)), digs (qnum (dsum (rl.take nn) (rm.take nn) nn)), digs (Rat.den (dsum (rl.take nn) (rm.take nn) nn))), ((qneg (dsum (rl.take nn) (rm.take nn) nn)), digs (qnum (dsum (rl.take nn) (rm.take nn) nn)), digs (Rat.den (dsum (rl.take nn) (rm.take nn) nn)))] := (RatsR.cons hxn.rd.norm hxd.rd.norm (RatsR.cons hxn.rd.norm hxd.rd.norm (RatsR.nil _ _)))
                exact WL.done ⟨_, rfl, hGw117, ⟨A116, rfl, hO118, hN119, hap_hO118_gx, hap_hO118_gy, hap_hO118_gz⟩⟩
              · intro w120 hE
                have hE := hE rfl
                have hB := ext_trans hB hE
                have hVgx := hVgx.ext hE
                have hVgy := hVgy.ext hE
                have hVgz := hVgz.ext hE
                rintro _ rfl
                rintro _ ⟨A116, rfl, hO118, hN119, hap_hO118_gx, hap_hO118_gy, hap_hO118_gz⟩
                intro R
                refine WL.take rfl ?_
                refine WL.call Try.func20 rfl Try.nm20 rfl rfl (qMul2_c hO118.rd hN119 (digs_lim _) (digs_lim _) (digs_lim _) (digs_lim _) (dsum (rl.take nn) (rm.take nn) nn) (val_canon _) (dsum (rl.take nn) (rm.take nn) nn) (val_canon _) 195 (by omega) (by omega)) ?_
                rintro _ w121 ⟨A122, m123, c124, A125, m126, c127, rfl, hGw121, u1n, u1d, u1m⟩
                have hap_u1n_gx := ap_new u1n (hVgx.bl_ge _ rfl).2
                have hap_u1n_gy := ap_new u1n (hVgy.bl_ge _ rfl).2
                have hap_u1n_gz := ap_new u1n (hVgz.bl_ge _ rfl).2
                have hap_u1d_gx := ap_new u1d (hVgx.bl_ge _ rfl).2
                have hap_u1d_gy := ap_new u1d (hVgy.bl_ge _ rfl).2
                have hap_u1d_gz := ap_new u1d (hVgz.bl_ge _ rfl).2
                have u1n := u1n.low (b' := w.heap.size) hB.size
                have u1d := u1d.low (b' := w.heap.size) hB.size
                have hB := ext_trans hB hGw121
                have u1n_l := u1n.rd.ulen
                have u1d_l := u1d.rd.ulen
                exact WL.done ⟨_, rfl, hGw121, ⟨A122, m123, c124, A125, m126, c127, rfl, u1n, u1d, u1m, hap_u1n_gx, hap_u1n_gy, hap_u1n_gz, hap_u1d_gx, hap_u1d_gy, hap_u1d_gz⟩⟩
              · intro w128 hE
                have hE := hE rfl
                have hB := ext_trans hB hE
                have hVgy := hVgy.ext hE
                rintro _ rfl
                intro R
                refine WL.take rfl ?_
                refine WL.loadV (cs := [.bool (qneg (dsum (rl.take nn) (rl.take nn) nn)), .slice Ay my cy, .slice By ky dy]) Try.el25 Try.agg25 rfl rfl hVgy.vcells rfl ?_
                exact WL.done ⟨_, rfl, ext_refl _, rfl⟩
              · intro w129 hE
                have hE := hE rfl
                have hB := ext_trans hB hE
                have hVgz := hVgz.ext hE
                rintro _ rfl
                intro R
                refine WL.take rfl ?_
                refine WL.loadV (cs := [.bool (qneg (dsum (rm.take nn) (rm.take nn) nn)), .slice Az mz cz, .slice Bz kz dz]) Try.el25 Try.agg25 rfl rfl hVgz.vcells rfl ?_
                exact WL.done ⟨_, rfl, ext_refl _, rfl⟩
              · intro w130 hE
                have hE := hE rfl
                have hB := ext_trans hB hE
                have hVgx := hVgx.ext hE
                have hyn := hyn.ext hE
                have hyd := hyd.ext hE
                have hVgy := hVgy.ext hE
                have hzn := hzn.ext hE
                have hzd := hzd.ext hE
                have hVgz := hVgz.ext hE
                rintro _ rfl
                rintro _ rfl
                rintro _ rfl
                intro R
                refine WL.take rfl ?_
                refine WL.lit (b := w130.heap.size) (cells := [.bool (qneg (dsum (rl.take nn) (rl.take nn) nn)), .slice Ay my cy, .slice By ky dy, .bool (qneg (dsum (rm.take nn) (rm.take nn) nn)), .slice Az mz cz, .slice Bz kz dz]) Try.underlying35 Try.el25 (by decide) ⟨_, rfl, by kernel_rfl⟩ rfl (Nat.le_refl _) rfl ?_
                rintro A131 w132 - hO133 hGw132
                have hap_hO133_gx := ap_new hO133 (hVgx.bl_ge _ rfl).2
                have hap_hO133_gy := ap_new hO133 (hVgy.bl_ge _ rfl).2
                have hap_hO133_gz := ap_new hO133 (hVgz.bl_ge _ rfl).2
                have hO133 := hO133.low (b' := w.heap.size) hB.size
                have hB := ext_trans hB hGw132
                have hyn := hyn.ext hGw132
                have hyd := hyd.ext hGw132
                have hzn := hzn.ext hGw132
                have hzd := hzd.ext hGw132
                have hN134 : RatsR w132.heap.size w132 [.bool (qneg (dsum (rl.take nn) (rl.take nn) nn)), .slice Ay my cy, .slice By ky dy, .bool (qneg (dsum (rm.take nn) (rm.take nn) nn)), .slice Az mz cz, .slice Bz kz dz] [((qneg (dsum (rl.take nn) (rl.take nn) nn)), digs (qnum (dsum (rl.take nn) (rl.take nn) nn)), digs (Rat.den (dsum (rl.take nn) (rl.take nn) nn))), ((qneg (dsum (rm.take nn) (rm.take nn) nn)), digs (qnum (dsum (rm.take nn) (rm.take nn) nn)), digs (Rat.den (dsum (rm.take nn) (rm.take nn) nn)))] := (RatsR.cons hyn.rd.norm hyd.rd.norm (RatsR.cons hzn.rd.norm hzd.rd.norm (RatsR.nil _ _)))
                exact WL.done ⟨_, rfl, hGw132, ⟨A131, rfl, hO133, hN134, hap_hO133_gx, hap_hO133_gy, hap_hO133_gz⟩⟩
              · intro w135 hE
                have hE := hE rfl
                have hB := ext_trans hB hE
                have hVgx := hVgx.ext hE
                have hVgy := hVgy.ext hE
                have hVgz := hVgz.ext hE
                rintro _ rfl
                rintro _ ⟨A131, rfl, hO133, hN134, hap_hO133_gx, hap_hO133_gy, hap_hO133_gz⟩
                intro R
                refine WL.take rfl ?_
                refine WL.call Try.func20 rfl Try.nm20 rfl rfl (qMul2_c hO133.rd hN134 (digs_lim _) (digs_lim _) (digs_lim _) (digs_lim _) (dsum (rl.take nn) (rl.take nn) nn) (val_canon _) (dsum (rm.take nn) (rm.take nn) nn) (val_canon _) 195 (by omega) (by omega)) ?_
                rintro _ w136 ⟨A137, m138, c139, A140, m141, c142, rfl, hGw136, u2n, u2d, u2m⟩
                have hap_u2n_gx := ap_new u2n (hVgx.bl_ge _ rfl).2
                have hap_u2n_gy := ap_new u2n (hVgy.bl_ge _ rfl).2
                have hap_u2n_gz := ap_new u2n (hVgz.bl_ge _ rfl).2
                have hap_u2d_gx := ap_new u2d (hVgx.bl_ge _ rfl).2
                have hap_u2d_gy := ap_new u2d (hVgy.bl_ge _ rfl).2
                have hap_u2d_gz := ap_new u2d (hVgz.bl_ge _ rfl).2
                have u2n := u2n.low (b' := w.heap.size) hB.size
                have u2d := u2d.low (b' := w.heap.size) hB.size
                have hB := ext_trans hB hGw136
                have u2n_l := u2n.rd.ulen
                have u2d_l := u2d.rd.ulen
                exact WL.done ⟨_, rfl, hGw136, ⟨A137, m138, c139, A140, m141, c142, rfl, u2n, u2d, u2m, hap_u2n_gx, hap_u2n_gy, hap_u2n_gz, hap_u2d_gx, hap_u2d_gy, hap_u2d_gz⟩⟩
              · intro w143 hE
                have hE := hE rfl
                have hB := ext_trans hB hE
                rintro _ rfl
                rintro _ ⟨A122, m123, c124, A125, m126, c127, rfl, u1n, u1d, u1m, hap_u1n_gx, hap_u1n_gy, hap_u1n_gz, hap_u1d_gx, hap_u1d_gy, hap_u1d_gz⟩
                rintro _ ⟨A137, m138, c139, A140, m141, c142, rfl, u2n, u2d, u2m, hap_u2n_gx, hap_u2n_gy, hap_u2n_gz, hap_u2d_gx, hap_u2d_gy, hap_u2d_gz⟩
                intro R
                refine WL.take rfl ?_
                refine WL.call Try.func13 rfl Try.nm13 rfl rfl (qCmp_c u1n.rd u1d.rd u2n.rd u2d.rd (digs_lim _) (digs_lim _) ((dsum (rl.take nn) (rm.take nn) nn) * (dsum (rl.take nn) (rm.take nn) nn)) (val_canon _) (digs_lim _) (digs_lim _) ((dsum (rl.take nn) (rl.take nn) nn) * (dsum (rm.take nn) (rm.take nn) nn)) (val_canon _) (by omega) (by omega)) ?_
                rintro _ w144 ⟨rfl, hGw144⟩
                have hB := ext_trans hB hGw144
                exact WL.done ⟨_, rfl, hGw144, rfl⟩
            · intro vals w145 hT hVs
              have hB := ext_trans hB hT
              have hv0 : vals 0 = _ := hVs 0 (by decide)
              have hv1 : vals 1 = _ := hVs 1 (by decide)
              have hv2 : vals 2 = _ := hVs 2 (by decide)
              have hv3 : vals 3 = _ := hVs 3 (by decide)
              have hv4 : vals 4 = _ := hVs 4 (by decide)
              have hv5 : vals 5 = _ := hVs 5 (by decide)
              have hv6 : vals 6 = _ := hVs 6 (by decide)
              have hv7 : vals 7 = _ := hVs 7 (by decide)
              have hv8 : vals 8 = _ := hVs 8 (by decide)
              have hv9 : vals 9 = _ := hVs 9 (by decide)
              have hv10 : vals 10 = _ := hVs 10 (by decide)
              have hv11 : vals 11 = _ := hVs 11 (by decide)
              have hv12 : vals 12 = _ := hVs 12 (by decide)
              have hv13 : vals 13 = _ := hVs 13 (by decide)
              have hv14 : vals 14 = _ := hVs 14 (by decide)
              have hv15 : vals 15 = _ := hVs 15 (by decide)
              have hv16 : vals 16 = _ := hVs 16 (by decide)
              obtain ⟨A116, hv17, hO118, hN119, hap_hO118_gx, hap_hO118_gy, hap_hO118_gz⟩ := hVs 17 (by decide)
              obtain ⟨A122, m123, c124, A125, m126, c127, hv18, u1n, u1d, u1m, hap_u1n_gx, hap_u1n_gy, hap_u1n_gz, hap_u1d_gx, hap_u1d_gy, hap_u1d_gz⟩ := hVs 18 (by decide)
              have hv19 : vals 19 = _ := hVs 19 (by decide)
              have hv20 : vals 20 = _ := hVs 20 (by decide)
              obtain ⟨A131, hv21, hO133, hN134, hap_hO133_gx, hap_hO133_gy, hap_hO133_gz⟩ := hVs 21 (by decide)
              obtain ⟨A137, m138, c139, A140, m141, c142, hv22, u2n, u2d, u2m, hap_u2n_gx, hap_u2n_gy, hap_u2n_gz, hap_u2d_gx, hap_u2d_gy, hap_u2d_gz⟩ := hVs 22 (by decide)
              have hv23 : vals 23 = _ := hVs 23 (by decide)
              rw [show (List.filterMap (fun i => Option.map (fun t => (t, vals i)) (dstAt _ i)) (List.range _)) = [(53, .int .i64 (0 : Int)), (54, .bool true), (55, .bool true), (56, .int .i64 (0 : Int)), (57, .bool true), (58, .bool true), (59, .bool true), (60, .int .i64 (0 : Int)), (61, .bool true), (62, .bool true), (63, .bool true), (64, .agg #[.bool (qneg (dsum (rl.take nn) (rm.take nn) nn)), .slice Ax mx cx, .slice Bx kx dx]), (65, .bool true), (66, .bool true), (67, .bool true), (68, .agg #[.bool (qneg (dsum (rl.take nn) (rm.take nn) nn)), .slice Ax mx cx, .slice Bx kx dx]), (69, .agg #[.bool (qneg (dsum (rl.take nn) (rm.take nn) nn)), .slice Ax mx cx, .slice Bx kx dx]), (70, .slice A116 2 2), (71, .agg #[.bool (qneg ((dsum (rl.take nn) (rm.take nn) nn) * (dsum (rl.take nn) (rm.take nn) nn))), .slice A122 m123 c124, .slice A125 m126 c127]), (72, .agg #[.bool (qneg (dsum (rl.take nn) (rl.take nn) nn)), .slice Ay my cy, .slice By ky dy]), (73, .agg #[.bool (qneg (dsum (rm.take nn) (rm.take nn) nn)), .slice Az mz cz, .slice Bz kz dz]), (74, .slice A131 2 2), (75, .agg #[.bool (qneg ((dsum (rl.take nn) (rl.take nn) nn) * (dsum (rm.take nn) (rm.take nn) nn))), .slice A137 m138 c139, .slice A140 m141 c142]), (76, .int .i64 (sg (((dsum (rl.take nn) (rm.take nn) nn) * (dsum (rl.take nn) (rm.take nn) nn)) - ((dsum (rl.take nn) (rl.take nn) nn) * (dsum (rm.take nn) (rm.take nn) nn)))))] from by
                show [(53, vals 0), (54, vals 1), (55, vals 2), (56, vals 3), (57, vals 4), (58, vals 5), (59, vals 6), (60, vals 7), (61, vals 8), (62, vals 9), (63, vals 10), (64, vals 11), (65, vals 12), (66, vals 13), (67, vals 14), (68, vals 15), (69, vals 16), (70, vals 17), (71, vals 18), (72, vals 19), (73, vals 20), (74, vals 21), (75, vals 22), (76, vals 23)] = _
                rw [hv0, hv1, hv2, hv3, hv4, hv5, hv6, hv7, hv8, hv9, hv10, hv11, hv12, hv13, hv14, hv15, hv16, hv17, hv18, hv19, hv20, hv21, hv22, hv23]]
              refine WA.step [24] (by decide +kernel) rfl ?_
              intro iQ hQ
              simp only [List.mem_cons, List.not_mem_nil, or_false] at hQ
              obtain rfl := hQ
              · refine ⟨_, rfl, ?_⟩
                refine WL.take rfl ?_
                refine WL.leq rfl rfl rfl (fun hsz => ?_) (fun hsz => ?_)
                · refine WL.done ?_
                  refine WA.step [25] (by decide +kernel) rfl ?_
                  intro iQ hQ
                  simp only [List.mem_cons, List.not_mem_nil, or_false] at hQ
                  obtain rfl := hQ
                  · refine ⟨_, rfl, ?_⟩
                    refine WL.pick rfl rfl rfl ?_
                    refine WL.done ?_
                    refine WA.step [26] (by decide +kernel) rfl ?_
                    intro iQ hQ
                    simp only [List.mem_cons, List.not_mem_nil, or_false] at hQ
                    obtain rfl := hQ
                    · refine ⟨_, rfl, ?_⟩
                      refine WL.assign rfl rfl ?_
                      refine WL.done ?_
                      refine WA.done (by decide +kernel) ?_
                      refine W.ret ?_
                      refine ⟨_, rfl, ?_⟩
                      exact ⟨rfl, hB⟩
                · exfalso
                  have h9 := sg_nonpos (schwarz (rl.take nn) (rm.take nn) nn)
                  omega
    · have hlom := hlom_t rfl
      refine WL.pick rfl rfl rfl ?_
      refine WL.done ?_
      refine W.condT rfl ?_
      refine W.seq ?_
      refine W.region ?_
      refine WL.assign rfl rfl ?_
      refine WL.done ?_
      refine W.ret ?_
      refine ⟨_, rfl, ?_⟩
      exact ⟨rfl, hB⟩
  · have hlol := hlol_t rfl
    refine WL.move rfl rfl ?_
    refine WL.pass rfl rfl rfl ?_
    refine WL.pass rfl rfl rfl ?_
    refine WL.pick rfl rfl rfl ?_
    refine WL.done ?_
    refine W.condT rfl ?_
    refine W.seq ?_
    refine W.region ?_
    refine WL.assign rfl rfl ?_
    refine WL.done ?_
    refine W.ret ?_
    refine ⟨_, rfl, ?_⟩
    exact ⟨rfl, hB⟩
end Go.Proofs.Ythfpcebcfjlkmac
set_option linter.unusedSimpArgs false
set_option linter.unusedVariables false
namespace Go.Proofs.Ythfpcebcfjlkmac
open Go.ChangeShapes Go.WideShapes Go.ChangeAt Go.RowKit
theorem i8_arg {x : Int} (h : (Lit.int .i8 x).wf = true) : -128 ≤ x ∧ x ≤ 127 := by
  simp [Lit.wf, IntKind.min, IntKind.max, IntKind.signed, IntKind.bits] at h
  exact ⟨by omega, by omega⟩
/-! ### the bound of every slice that is met -/
def Sized {H : Type} (P : Program) (t : TypeId) (d : DataW H) : Prop := ∀ n ∈ DataW.weights P t d, n ≤ reachBytes
theorem sized_arg {H : Type} {P : Program} {ts : List TypeId} {ds : List (DataW H)} (h : (DataW.weightsEach P ts ds).all (· ≤ reachBytes) = true) {j : Nat} {t : TypeId} {d : DataW H} (ht : ts[j]? = some t) (hd : ds[j]? = some d) : Sized P t d := fun n hn => by
  have := List.all_eq_true.1 h _ (DataW.weights_mem_each ht hd n hn)
  simpa using this
theorem sized_nat {H : Type} {P : Program} {t u : TypeId} {es ss : List (DataW H)} (ht : P.underlying t = some (.slice u)) (h4 : P.bytesOf u = 4) (h : Sized P t (.slice es ss)) : es.length * 4 ≤ 140737488351232 := by
  have h1 := h ((es.length + ss.length) * P.bytesOf u) (by simp [DataW.weights, ht])
  rw [h4] at h1
  simp only [reachBytes] at h1
  omega
theorem sized_row {H : Type} {P : Program} {t u : TypeId} {k : Nat} {es ss : List (DataW H)} (ht : P.underlying t = some (.slice u)) (h4 : P.bytesOf u = k) (h : Sized P t (.slice es ss)) : es.length * k ≤ 140737488351232 := by
  have h1 := h ((es.length + ss.length) * P.bytesOf u) (by simp [DataW.weights, ht])
  rw [h4] at h1
  have h2 : es.length * k ≤ (es.length + ss.length) * k := Nat.mul_le_mul_right _ (Nat.le_add_right _ _)
  simp only [reachBytes] at h1
  omega
theorem sized_elem {H : Type} {P : Program} {t u : TypeId} {es ss : List (DataW H)} (ht : P.underlying t = some (.slice u)) (h : Sized P t (.slice es ss)) {d : DataW H} (hd : d ∈ es) : Sized P u d := fun n hn => by
  refine h n ?_
  simp only [DataW.weights, ht, List.mem_cons, List.mem_append]
  refine .inr (.inl ?_)
  clear h
  induction es with
  | nil => cases hd
  | cons a l ih =>
    simp only [DataW.weightsAll, List.mem_append]
    rcases List.mem_cons.1 hd with rfl | h
    · exact .inl hn
    · exact .inr (ih h)
theorem sized_three {H : Type} {P : Program} {t : TypeId} {f0 f1 f2 : Field} {a b c : DataW H} (ht : P.underlying t = some (.struct #[f0, f1, f2])) (h : Sized P t (.agg [a, b, c])) : Sized P f1.type b ∧ Sized P f2.type c := by
  constructor
  · intro n hn
    refine h n ?_
    simp only [DataW.weights, ht, List.map_cons, List.map_nil, DataW.weightsEach, List.mem_append]
    exact .inr (.inl hn)
  · intro n hn
    refine h n ?_
    simp only [DataW.weights, ht, List.map_cons, List.map_nil, DataW.weightsEach, List.mem_append]
    exact .inr (.inr (.inl hn))
/-- What the type table says of fractions. -/
structure RatTy (P : Program) (t u : TypeId) : Prop where
  ex : ∃ f0 f1 f2 : Field, P.underlying t = some (.struct #[f0, f1, f2]) ∧ f0.offset = 0 ∧ f1.offset = 1 ∧ f2.offset = 2 ∧ P.underlying f0.type = some .bool ∧ P.underlying f1.type = some (.slice u) ∧ P.underlying f2.type = some (.slice u) ∧ P.cellsOf f0.type = 1 ∧ P.cellsOf f1.type = 1 ∧ P.cellsOf f2.type = 1
  three : P.cellsOf t = 3
  int : P.underlying u = some (.int .u32)
  one : P.cellsOf u = 1
  four : P.bytesOf u = 4
section
variable {H : Type} {enc : TypeId × Value → H} {P : Program} {W : World} {base : Nat} {spare : Nat → Bool} {held : Bool}
theorem nat_cell {t u : TypeId} {v : Value} {y : DataW H × List MemPlace} {n : Nat} (ht : P.underlying t = some (.slice u)) (hu : P.underlying u = some (.int .u32)) (hc : P.cellsOf u = 1) (h4 : P.bytesOf u = 4) (h : DataW.trod enc P W base spare held n t [v] = some y) (hz : Sized P t y.1) :
    ∃ A m c x, v = .slice A m c ∧ Rd W.heap.size W 1 A m c (us x) ∧ Lim x ∧ m * 4 ≤ 140737488351232 := by
  have hv : ∃ A' m' c', v = .slice A' m' c' := by
    rcases open_ints ht hu hc h with ⟨hcs, _⟩ | ⟨x, l, c', zs, hcs, _⟩
    · exact ⟨_, _, _, by simpa using hcs⟩
    · exact ⟨_, _, _, by simpa using hcs⟩
  obtain ⟨A, m, c, rfl⟩ := hv
  obtain ⟨x, h1, h2, h3⟩ := nat_arg_d (d := y.1) (p := y.2) ht hu hc ⟨n, h⟩
  refine ⟨A, m, c, x, rfl, h1, h2, ?_⟩
  rcases h3 with ⟨_, rfl⟩ | ⟨es, ss, e, rfl⟩
  · omega
  · rw [e] at hz; exact sized_nat ht h4 hz
theorem rat_cells {t u : TypeId} (hT : RatTy P t u) {fuel : Nat} {cs : List Value} {y : DataW H × List MemPlace} (h : DataW.trod enc P W base spare held fuel t cs = some y) (hz : Sized P t y.1) :
    ∃ n A m c A' m' c' x x', cs = [.bool n, .slice A m c, .slice A' m' c'] ∧ Rd W.heap.size W 1 A m c (us x) ∧ Lim x ∧ m * 4 ≤ 140737488351232 ∧ Rd W.heap.size W 1 A' m' c' (us x') ∧ Lim x' ∧ m' * 4 ≤ 140737488351232 := by
  obtain ⟨f0, f1, f2, ht, o0, o1, o2, u0, u1, u2, c0, c1, c2⟩ := hT.ex
  obtain ⟨y0, y1, y2, n, rfl, hl, h0, h1, h2⟩ := Go.Deep.trod_struct3 ht h
  obtain ⟨s1, s2⟩ := sized_three ht hz
  rw [hT.three] at hl
  match cs, hl with
  | [v0, v1, v2], _ =>
    simp only [o0, o1, o2, c0, c1, c2, List.drop_zero, List.drop_succ_cons, List.take_succ_cons, List.take_zero] at h0 h1 h2
    obtain ⟨b, e0, _⟩ := DataW.trod_bool u0 h0
    obtain ⟨A, m, c, x, rfl, r1, l1, z1⟩ := nat_cell u1 hT.int hT.one hT.four h1 s1
    obtain ⟨A', m', c', x', rfl, r2, l2, z2⟩ := nat_cell u2 hT.int hT.one hT.four h2 s2
    have e0' : v0 = .bool b := by simpa using e0
    subst e0'
    exact ⟨b, A, m, c, A', m', c', x, x', rfl, r1, l1, z1, r2, l2, z2⟩
/-- A fraction that came in. -/
theorem rat_arg {t u : TypeId} (hT : RatTy P t u) {cs : Array Value} {d : DataW H} {p : List MemPlace} (h : DataW.Trod enc P W base spare held t (.agg cs) d p) (hz : Sized P t d) :
    ∃ n A m c A' m' c' x x', cs = #[.bool n, .slice A m c, .slice A' m' c'] ∧ Rd W.heap.size W 1 A m c (us x) ∧ Lim x ∧ m * 4 ≤ 140737488351232 ∧ Rd W.heap.size W 1 A' m' c' (us x') ∧ Lim x' ∧ m' * 4 ≤ 140737488351232 := by
  obtain ⟨fuel, hf⟩ := h
  obtain ⟨n, A, m, c, A', m', c', x, x', e, h1⟩ := rat_cells hT (y := (d, p)) hf hz
  refine ⟨n, A, m, c, A', m', c', x, x', ?_, h1⟩
  have e2 : cs.toList = [.bool n, .slice A m c, .slice A' m' c'] := e
  rw [← Array.toArray_toList (xs := cs), e2]
/-- A row of fractions that came in. -/
theorem rats_arg {t e u : TypeId} (ht : P.underlying t = some (.slice e)) (hT : RatTy P e u) {k : Nat} (hk : P.bytesOf e = k) {A : Option Addr} {m c : Nat} {d : DataW H} {p : List MemPlace} (h : DataW.Trod enc P W base spare held t (.slice A m c) d p) (hz : Sized P t d) :
    ∃ cells rs, Rd W.heap.size W 3 A m c cells ∧ RatsR W.heap.size W cells rs ∧ RLim rs ∧ (∀ j, j < rs.length → (rs.getD j fr0).2.1.length * 4 ≤ 140737488351232 ∧ (rs.getD j fr0).2.2.length * 4 ≤ 140737488351232) ∧ m * k ≤ 140737488351232 := by
  obtain ⟨fuel, hf⟩ := h
  rcases Go.Deep.open_slice ht hf with ⟨hcs, hx⟩ | ⟨a, len, cap, mm, n, D, Pl, hcs, hb, hl, hm, hmm, hx, hcell⟩
  · simp [Value.cells] at hcs
    obtain ⟨rfl, rfl, rfl⟩ := hcs
    exact ⟨[], [], Rd.nil (by simp [maxLen]), RatsR.nil _ _, (fun i h => by cases h), (fun i h => by cases h), by omega⟩
  · simp [Value.cells] at hcs
    obtain ⟨rfl, rfl, rfl⟩ := hcs
    have hmk : m ≤ mm := by rw [hmm]; split <;> omega
    simp only [Prod.mk.injEq] at hx
    obtain ⟨rfl, -⟩ := hx
    have key : ∀ i, i < m → ∃ q : Value × Value × Value × Fr3, W.cell? (a.add (i * 3)) = some q.1 ∧ W.cell? (a.add (i * 3 + 1)) = some q.2.1 ∧ W.cell? (a.add (i * 3 + 2)) = some q.2.2.1 ∧ q.1 = .bool q.2.2.2.1 ∧
        natAt W.heap.size W [q.2.1] 0 q.2.2.2.2.1 ∧ natAt W.heap.size W [q.2.2.1] 0 q.2.2.2.2.2 ∧ Lim q.2.2.2.2.1 ∧ Lim q.2.2.2.2.2 ∧ q.2.2.2.2.1.length * 4 ≤ 140737488351232 ∧ q.2.2.2.2.2.length * 4 ≤ 140737488351232 := by
      intro i hi
      obtain ⟨cs', h1, h2⟩ := hcell i (by omega)
      rw [hT.three] at h1
      obtain ⟨_, hlen, hce⟩ := World.cells?_some h1
      obtain ⟨b, A, m', c', A', m2, c2, x, x', rfl, r1, l1, z1, r2, l2, z2⟩ := rat_cells hT h2 (sized_elem ht hz (by simp; exact ⟨i, hi, rfl⟩))
      have e0 := hce 0 (by omega)
      have e1 := hce 1 (by omega)
      have e2 := hce 2 (by omega)
      rw [add_add] at e0 e1 e2
      have k1 := r1.ulen
      have k2 := r2.ulen
      exact ⟨(.bool b, .slice A m' c', .slice A' m2 c2, b, x, x'), by simpa using e0, by simpa using e1, by simpa using e2, rfl, ⟨rfl, r1⟩, ⟨rfl, r2⟩, l1, l2, by simp only; omega, by simp only; omega⟩
    obtain ⟨X, hX⟩ := Go.Deep.choose_lt key
    let V : Nat → Value := fun k => if k % 3 = 0 then (X (k / 3)).1 else if k % 3 = 1 then (X (k / 3)).2.1 else (X (k / 3)).2.2.1
    have g (k : Nat) (hk : k < m * 3) : ((List.range (m * 3)).map V).getD k undef = V k := by simp [List.getD_eq_getElem?_getD, hk]
    have g2 (j : Nat) (hj : j < m) : ((List.range m).map fun j => (X j).2.2.2).getD j fr0 = (X j).2.2.2 := by simp [List.getD_eq_getElem?_getD, hj]
    have v0 (j : Nat) : V (j * 3) = (X j).1 := by simp only [V]; rw [if_pos (by omega), show j * 3 / 3 = j by omega]
    have v1 (j : Nat) : V (j * 3 + 1) = (X j).2.1 := by simp only [V]; rw [if_neg (by omega), if_pos (by omega), show (j * 3 + 1) / 3 = j by omega]
    have v2 (j : Nat) : V (j * 3 + 2) = (X j).2.2.1 := by simp only [V]; rw [if_neg (by omega), if_neg (by omega), show (j * 3 + 2) / 3 = j by omega]
    refine ⟨(List.range (m * 3)).map V, (List.range m).map fun j => (X j).2.2.2, Rd.norm (B := a.block + 1) ⟨by simp, hl, hm, fun _ => ⟨a, rfl, Nat.lt_succ_self _, fun j u hu => ?_⟩⟩, ⟨by simp, fun j hj => ?_⟩, fun j hj => ?_, fun j hj => ?_, ?_⟩
    · rw [List.getElem?_map] at hu
      have hj : j < m * 3 := by
        rcases Nat.lt_or_ge j (m * 3) with h | h
        · exact h
        · rw [List.getElem?_eq_none (by simpa using h)] at hu; cases hu
      rw [List.getElem?_range hj] at hu
      simp only [Option.map_some, Option.some.injEq] at hu
      rw [← hu]
      obtain ⟨k0, k1, k2, _⟩ := hX (j / 3) (by omega)
      have h3 : j = j / 3 * 3 ∨ j = j / 3 * 3 + 1 ∨ j = j / 3 * 3 + 2 := by omega
      rcases h3 with h3 | h3 | h3
      · have := v0 (j / 3); rw [← h3] at this; rw [this]; rw [← h3] at k0; exact k0
      · have := v1 (j / 3); rw [← h3] at this; rw [this]; rw [← h3] at k1; exact k1
      · have := v2 (j / 3); rw [← h3] at this; rw [this]; rw [← h3] at k2; exact k2
    · have hj : j < m := by simpa using hj
      obtain ⟨_, _, _, e, n1, n2, _⟩ := hX j hj
      rw [g2 j hj, g _ (by omega), v0]
      refine ⟨e, n1.of ?_, n2.of ?_⟩
      · rw [g _ (by omega), v1]; rfl
      · rw [g _ (by omega), v2]; rfl
    · have hj : j < m := by simpa using hj
      obtain ⟨_, _, _, _, _, _, l1, l2, _⟩ := hX j hj
      rw [g2 j hj]; exact ⟨l1, l2⟩
    · have hj : j < m := by simpa using hj
      obtain ⟨_, _, _, _, _, _, _, _, z⟩ := hX j hj
      rw [g2 j hj]; exact z
    · have := sized_row ht hk hz
      simpa using this
end
end Go.Proofs.Ythfpcebcfjlkmac
