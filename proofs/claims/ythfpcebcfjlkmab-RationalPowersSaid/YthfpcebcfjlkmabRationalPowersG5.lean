/- Contracts of functions of the program, and what they lean on: Draw2, W17, Rq. -/
import Derived.Test.YthfpcebcfjlkmabRationalPowersG4
set_option linter.unusedSimpArgs false
set_option linter.unusedVariables false
namespace Go.Proofs.Ythfpcebcfjlkmab
open Go.RowKit
/-- All that the operations of a list wait for, some steps back. -/
def reach (l : List Oper) : Nat → List Nat → List Nat
  | 0, js => js
  | f + 1, js => reach l f ((List.range l.length).filter fun j => js.contains j || js.any fun k => (anyOn l k).contains j)
theorem reach_all {l : List Oper} {p : Nat → Prop} (hcl : ∀ k, p k → ∀ j ∈ anyOn l k, p j) : ∀ (f : Nat) (js : List Nat), (∀ j ∈ js, p j) → ∀ j ∈ reach l f js, p j
  | 0, _, h => h
  | f + 1, js, h => reach_all hcl f _ fun j hj => by
    simp only [List.mem_filter, Bool.or_eq_true, List.contains_iff_mem, List.any_eq_true] at hj
    rcases hj.2 with hj | ⟨k, hk, hj⟩
    · exact h j hj
    · exact hcl k (h k hk) j hj
/-- A region of which all operations from m on wait for all that stand ahead of m. -/
def tailB (n : Nat) (l : List Oper) (ps : List Plan) (m : Nat) : Bool :=
  ps.length == m && Nat.ble m l.length && (List.range l.length).all (fun i => (anyOn l i).all (fun j => Nat.blt j i)) &&
    (List.range l.length).all (fun i => Nat.blt i m || (List.range m).all (fun j => (reach l 6 (anyOn l i)).contains j)) && (List.range m).all fun i =>
    (match ps[i]? with
     | none => false
     | some p => p.on.all (fun j => (anyOn l i).contains j) && p.slots.all (fun t => (List.range m).all fun k => k == i || dstAt l k != some t || (anyOn l k).contains i)) &&
    (match dstAt l i with
     | none => false
     | some d => Nat.blt d n && (List.range m).all fun k => k == i || dstAt l k != some d)
/-! ### all orders, one by one -/
/-- What is left of a region, in whatever order, when those in 'listed' have been carried out. -/
structure WA (P : Program) (n : Nat) (l : List Oper) (N : Post) (fuel : Nat) (listed : List Bool) (L : Fr) (w : World) : Prop where
  out : ∀ a, Has n a L → ∀ B, wpAny P .any l.toArray (fin n N B) fuel listed.toArray a w
theorem WA.done {P : Program} {n : Nat} {l : List Oper} {N : Post} {listed : List Bool} {L : Fr} {w : World} (hr : Region.ready .any l.toArray listed.toArray = []) (h : N L w) : WA P n l N 0 listed L w :=
  ⟨fun a ha B => ⟨hr, L, ha, h⟩⟩
theorem WA.step {P : Program} {n : Nat} {l : List Oper} {N : Post} {fuel : Nat} {listed : List Bool} {L : Fr} {w : World} (r : List Nat) (hr : Region.ready .any l.toArray listed.toArray = r) (hne : r.isEmpty = false)
    (h : ∀ i ∈ r, ∃ o, l[i]? = some o ∧ WL P n l.toArray [o] (fun L' w' => WA P n l N fuel (listed.set i true) L' w') L w) : WA P n l N (fuel + 1) listed L w := by
  refine ⟨fun a ha B => ⟨fun e => ?_, fun i hi => ?_⟩⟩
  · rw [hr] at e; rw [e] at hne; cases hne
  · rw [hr] at hi
    obtain ⟨o, ho, hW⟩ := h i hi
    have hW2 := hW.out a ha B
    have hend : ∀ a' w', wpList P l.toArray (fin n (fun L' w' => WA P n l N fuel (listed.set i true) L' w') B) [] a' w' → wpAny P .any l.toArray (fin n N B) fuel (listed.toArray.setIfInBounds i true) a' w' := fun a' w' hq => by
      obtain ⟨L', hL', hq⟩ := hq
      have := hq.out a' hL' B
      simpa using this
    unfold wpOp
    simp only [List.getElem?_toArray, ho]
    simp only [wpList] at hW2
    by_cases hwant : Region.wanted o (yielded l.toArray a.tmps) = true
    · rw [if_pos hwant] at hW2
      simp only [hwant, if_true]
      rcases hW2 with hW2 | hW2
      · refine .inl (oper_wp_mono hend (fun e a w hne h => ?_) hW2)
        cases e <;> first | exact absurd rfl hne | exact h
      · refine .inr ⟨hW2.1, ?_⟩
        obtain ⟨a1, w1, h1⟩ := hW2.2
        exact ⟨a1, w1, h1⟩
    · rw [if_neg hwant] at hW2
      simp only [hwant, if_false, Bool.false_eq_true]
      exact hend _ _ hW2
theorem W.drawA {P : Program} {n id : Nat} {l : List Oper} {N : Post} {B : BPost} {L : Fr} {w0 : World} (hm : P.follows .mixedOrders = true)
    (h : ∀ w, w0.grownBy w none → w.heap = w0.heap → WA P n l N l.length (List.replicate l.length false) L w) : W P n (.region id l.toArray true) N B L w0 := by
  refine ⟨fun a ha => wp_region_any hm ?_⟩
  have := (h { w0 with drawn := w0.drawn + 1 } ⟨rfl, rfl, rfl, Nat.le_refl _, fun _ _ _ => rfl⟩ rfl).out a ha B
  simpa using this
theorem W.drawT {P : Program} {n id : Nat} {l : List Oper} {N : Post} {B : BPost} {L : Fr} {w0 : World} (m : Nat) (ps : List Plan) (bs : List Fr) (V : Nat → Value → World → Prop)
    (hm : P.follows .mixedOrders = true) (hB : tailB n l ps m = true)
    (hV : ∀ j v w1 w2, V j v w1 → w1.grownBy w2 none → V j v w2)
    (hobs : obs P n l V (fun _ => True) w0 L (l.length + 1) 0 (l.take m) ps bs)
    (hN : ∀ (vals : Nat → Value) w', w0.grownBy w' none → (∀ i, i < m → V i (vals i) w') →
      WA P n l N (l.length - m) (List.replicate m true ++ List.replicate (l.length - m) false) ((((List.range m).filterMap fun i => (dstAt l i).map fun t => (t, vals i))) ++ L) w') : W P n (.region id l.toArray true) N B L w0 := by
  simp only [tailB, Bool.and_eq_true, Bool.or_eq_true, List.all_eq_true, List.mem_range, beq_iff_eq, List.contains_iff_mem] at hB
  obtain ⟨⟨⟨⟨hlen, hlm0⟩, hlt0⟩, htail⟩, hB⟩ := hB
  have hlm : m ≤ l.length := by simpa [Nat.ble_eq] using hlm0
  refine ⟨fun a ha => wp_region_any hm ?_⟩
  have hon_lt : ∀ k, k < l.length → ∀ j ∈ anyOn l k, j < k := fun k hk j hj => by simpa [Nat.blt_eq] using hlt0 k hk j hj
  have key : ∀ (fuel : Nat) (listed : Array Bool) (vals : Nat → Value) (a : Act) (w : World), listed.size = l.length → (listed.toList.filter (!·)).length = fuel + (l.length - m) → (∀ k, listed.getD k false = true → k < m) →
      DInv n l ps V (fun _ => True) w0 L (l.length + 1) (fun k => listed.getD k false) vals a w → wpAny P .any l.toArray (fin n N B) (fuel + (l.length - m)) listed a w := by
    intro fuel
    induction fuel with
    | zero =>
      intro listed vals a w hsz hf hnm I
      have hall : ∀ k, k < m → listed.getD k false = true := fun k hk => by
        cases hb : listed.getD k false with
        | true => rfl
        | false =>
          exfalso
          have hcnt : ∀ (x : List Bool) (m : Nat), m ≤ x.length → (∀ j, m ≤ j → j < x.length → x[j]? = some false) → (x.length - m) + ((x.take m).filter (!·)).length = (x.filter (!·)).length := by
            intro x m hmx hfalse
            have h1 : x = x.take m ++ x.drop m := (List.take_append_drop m x).symm
            have h2 : (x.drop m).filter (!·) = x.drop m := by
              rw [List.filter_eq_self]
              intro b hb
              obtain ⟨j, hj, rfl⟩ := List.mem_iff_getElem.1 hb
              have := hfalse (m + j) (by omega) (by simp at hj; omega)
              rw [List.getElem_drop]
              rw [List.getElem?_eq_getElem (by simp at hj; omega)] at this
              simpa using this
            conv => rhs; rw [h1]
            rw [List.filter_append, List.length_append, h2, List.length_drop]
            omega
          have hx := hcnt listed.toList m (by simp; omega) (fun j h1 h2 => by
            have hj : j < listed.size := by simpa using h2
            cases hbj : listed.getD j false with
            | true => have := hnm j hbj; omega
            | false =>
              simp [Array.getD_eq_getD_getElem?, hj] at hbj
              simp [hj, hbj])
          have hsz2 : listed.toList.length = l.length := by simpa using hsz
          have hzero : ((listed.toList.take m).filter (!·)).length = 0 := by omega
          have hz := filter_zero hzero k (by simp; omega)
          rw [List.getElem?_take, if_pos hk] at hz
          have hk2 : k < listed.size := by omega
          simp [Array.getD_eq_getD_getElem?, hk2] at hb
          simp [hk2, hb] at hz
      have hlist : listed = (List.replicate m true ++ List.replicate (l.length - m) false).toArray := by
        apply Array.ext
        · simp [hsz]; omega
        · intro k h1 h2
          have hk : k < l.length := by omega
          rcases Nat.lt_or_ge k m with h | h
          · have := hall k h
            simp [Array.getD_eq_getD_getElem?, h1] at this
            simp [this, List.getElem_append, h]
          · have hb : listed.getD k false = false := by
              cases hb : listed.getD k false with
              | false => rfl
              | true => have := hnm k hb; omega
            simp [Array.getD_eq_getD_getElem?, h1] at hb
            simp [hb, List.getElem_append, show ¬ k < m by omega]
      have hw := I.wd (by simp [Array.getD_eq_getD_getElem?, show ¬ l.length + 1 < listed.size by omega])
      have hvs : ∀ j, j < m → V j (vals j) w := fun j hj => I.vs j (hall j hj) (by omega)
      have hW := hN vals w hw hvs
      have hHas : Has n a ((((List.range m).filterMap fun i => (dstAt l i).map fun t => (t, vals i))) ++ L) := by
        refine ⟨I.nd, I.sz, fun t v hv => ?_⟩
        rw [lk_append] at hv
        cases hc : lk ((List.range m).filterMap fun i => (dstAt l i).map fun t => (t, vals i)) t with
        | some u =>
          rw [hc] at hv
          cases hv
          have := lk_mem hc
          simp only [List.mem_filterMap, List.mem_range, Option.map_eq_some_iff] at this
          obtain ⟨k, hk, t', ht', he⟩ := this
          cases he
          exact I.new k t (hall k hk) ht'
        | none =>
          rw [hc] at hv
          refine I.old t v hv fun k hk hd => ?_
          have hm2 : (t, vals k) ∈ (List.range m).filterMap fun i => (dstAt l i).map fun t => (t, vals i) := by
            simp only [List.mem_filterMap, List.mem_range, Option.map_eq_some_iff]
            exact ⟨k, hnm k hk, t, hd, rfl⟩
          obtain ⟨u, hu⟩ := lk_of_mem hm2
          rw [hc] at hu; cases hu
      rw [hlist, Nat.zero_add]
      exact hW.out a hHas B
    | succ fuel ih =>
      intro listed vals a w hsz hf hnm I
      rw [show fuel + 1 + (l.length - m) = (fuel + (l.length - m)) + 1 by omega] at hf ⊢
      have hlist : ∀ k, listed.getD k true = false → k < l.length ∧ listed.getD k false = false := fun k hk => by
        rcases Nat.lt_or_ge k listed.size with h | h
        · simp [Array.getD_eq_getD_getElem?, h] at hk ⊢
          exact ⟨by omega, hk⟩
        · simp [Array.getD_eq_getD_getElem?, Array.getElem?_eq_none h] at hk
      refine ⟨?_, ?_⟩
      · intro hr
        -- the first that has not come up yet is ready
        exfalso
        have hex : ∃ k, k < l.length ∧ listed.getD k false = false := by
          by_cases hc : ∃ k, k < l.length ∧ listed.getD k false = false
          · exact hc
          · have hfe : listed.toList.filter (!·) = [] := by
              rw [List.filter_eq_nil_iff]
              intro b hb
              obtain ⟨k, hk, rfl⟩ := List.mem_iff_getElem.1 hb
              have hk' : k < listed.size := by simpa using hk
              have : ¬ listed.getD k false = false := fun h => hc ⟨k, by omega, h⟩
              simp [Array.getD_eq_getD_getElem?, hk'] at this
              simp [this]
            rw [hfe] at hf; simp at hf
        have hmin : ∀ m, (∃ k, k ≤ m ∧ k < l.length ∧ listed.getD k false = false) → ∃ k, k < l.length ∧ listed.getD k false = false ∧ ∀ j, j < k → listed.getD j false = true := by
          intro m
          induction m with
          | zero => rintro ⟨k, hk, h1, h2⟩; exact ⟨k, h1, h2, fun j hj => by omega⟩
          | succ m ihm =>
            rintro ⟨k, hk, h1, h2⟩
            by_cases hc : ∃ j, j ≤ m ∧ j < l.length ∧ listed.getD j false = false
            · exact ihm hc
            · refine ⟨k, h1, h2, fun j hj => ?_⟩
              cases hb : listed.getD j false with
              | true => rfl
              | false => exact absurd ⟨j, by omega, by omega, hb⟩ hc
        obtain ⟨k0, hk0, hk0'⟩ := hex
        obtain ⟨k, h1, h2, h3⟩ := hmin k0 ⟨k0, Nat.le_refl _, hk0, hk0'⟩
        have hin : k ∈ Region.ready .any l.toArray listed := by
          refine mem_ready.2 ⟨?_, l[k], by simp [h1], fun e he hb => ?_⟩
          · have : k < listed.size := by omega
            simp [Array.getD_eq_getD_getElem?, this] at h2 ⊢
            exact h2
          · have hon : e.on ∈ anyOn l k := by
              simp only [anyOn, List.getElem?_eq_getElem h1, List.mem_map, List.mem_filter]
              exact ⟨e, ⟨by simpa using he, hb⟩, rfl⟩
            exact h3 e.on (hon_lt k h1 _ hon)
        rw [hr] at hin; cases hin
      · intro i hi
        obtain ⟨h1, o, ho, hpre⟩ := mem_ready.1 hi
        obtain ⟨hil0, hun⟩ := hlist i h1
        have ho' : l[i]? = some o := by simpa using ho
        have hpre' : ∀ j ∈ anyOn l i, listed.getD j false = true := fun j hj => by
          simp only [anyOn, ho', List.mem_map, List.mem_filter] at hj
          obtain ⟨e, ⟨he, hb⟩, rfl⟩ := hj
          exact hpre e (by simpa using he) hb
        have hil : i < m := by
          rcases Nat.lt_or_ge i m with h | h
          · exact h
          · exfalso
            have hall : ∀ k, k < m → listed.getD k false = true := fun k hk => by
              rcases htail i hil0 with h2 | h2
              · simp [Nat.blt_eq] at h2; omega
              · exact reach_all (p := fun k => listed.getD k false = true) I.cl 6 (anyOn l i) hpre' k (h2 k hk)
            have hcnt : ∀ (x : List Bool) (m : Nat), (∀ j, j < m → x[j]? = some true) → (x.filter (!·)).length ≤ x.length - m := by
              intro x m
              induction m generalizing x with
              | zero => intro _; exact List.length_filter_le _ _
              | succ m ih =>
                intro h
                cases x with
                | nil => simp
                | cons b x =>
                  have hb := h 0 (by omega)
                  simp at hb
                  subst hb
                  have := ih x (fun j hj => by have := h (j + 1) (by omega); simpa using this)
                  simpa using this
            have := hcnt listed.toList m (fun j hj => by
              have h3 := hall j hj
              have hj2 : j < listed.size := by omega
              simp [Array.getD_eq_getD_getElem?, hj2] at h3
              simp [hj2, h3])
            have hsz2 : listed.toList.length = l.length := by simpa using hsz
            omega
        obtain ⟨hp, hd⟩ := hB i hil
        have hpi : i < ps.length := by omega
        rw [List.getElem?_eq_getElem hpi] at hp
        generalize hpe : ps[i] = p at hp
        simp only [Bool.and_eq_true, List.all_eq_true, Bool.or_eq_true, List.mem_range, beq_iff_eq, bne_iff_ne, ne_eq, List.contains_iff_mem] at hp
        obtain ⟨hon, hsl⟩ := hp
        obtain ⟨b, hbs, hsub, hob⟩ := obs_at (l.take m) ps bs 0 hobs i o p (by rw [List.getElem?_take, if_pos hil]; exact ho') (by rw [List.getElem?_eq_getElem hpi, hpe])
        rw [Nat.zero_add] at hob
        have hw0 : p.pure = false → w0.grownBy w none := fun _ => I.wd (by
          cases hb : listed.getD (l.length + 1) false with
          | false => rfl
          | true => have := I.lt _ hb; omega)
        have hT := told_at vals p.on b (hob w hw0) (fun j hj => I.vs j (hpre' j (hon j hj)) (by have := hon_lt i hil0 j (hon j hj); omega))
        generalize hF : (List.map (fun j => ((dstAt l j).getD 0, vals j)) p.on).reverse ++ b = F at hT
        have hdst : ∀ j, j < m → ∃ d, dstAt l j = some d ∧ d < n := fun j hj => by
          have := (hB j hj).2
          cases hd : dstAt l j with
          | none => rw [hd] at this; simp at this
          | some d => rw [hd] at this; simp only [Bool.and_eq_true] at this; exact ⟨d, rfl, by simpa [Nat.blt_eq] using this.1⟩
        have hHF : Has n a (F ++ (List.range n).map fun t => (t, a.tmps.getD t undef)) := by
          refine ⟨I.nd, I.sz, fun t v hv => ?_⟩
          rw [lk_append] at hv
          cases hc : lk F t with
          | some u =>
            rw [hc] at hv; cases hv
            have hm := lk_mem hc
            rw [← hF] at hm
            rcases List.mem_append.1 hm with hm | hm
            · simp only [List.mem_reverse, List.mem_map] at hm
              obtain ⟨j, hj, he⟩ := hm
              cases he
              obtain ⟨d, hd', _⟩ := hdst j (hnm j (hpre' j (hon j hj)))
              rw [hd']
              exact I.new j d (hpre' j (hon j hj)) hd'
            · have hL := sub_at hsub hm
              have hts : t ∈ p.slots := by rw [← hbs]; exact List.mem_map.2 ⟨_, hm, rfl⟩
              refine I.old t v hL fun k hk hdk => ?_
              rcases hsl t hts k (hnm k hk) with (h | h) | h
              · subst h; rw [hun] at hk; cases hk
              · exact h hdk
              · have := I.cl k hk i h; rw [hun] at this; cases this
          | none =>
            rw [hc] at hv
            have hm := lk_mem hv
            simp only [List.mem_map, List.mem_range] at hm
            obtain ⟨t', ht', he⟩ := hm
            cases he
            have : t < a.tmps.size := by rw [I.sz]; exact ht'
            simp [Array.getD_eq_getD_getElem?, this]
        have hW := (hT ((List.range n).map fun t => (t, a.tmps.getD t undef))).out a hHF (fun _ _ _ => False)
        have hne1 : i ≠ l.length + 1 := by omega
        have fin' : ∀ a' w', wpList P l.toArray (fin n (fun L' w' => if i = l.length + 1 then L' = F ++ (List.range n).map (fun t => (t, a.tmps.getD t undef)) ∧ True else ∃ u, L' = ((dstAt l i).getD 0, u) :: (F ++ (List.range n).map fun t => (t, a.tmps.getD t undef)) ∧ (if p.pure then w' = w else w.grownBy w' none) ∧ V i u w') (fun _ _ _ => False)) [] a' w' →
            wpAny P .any l.toArray (fin n N B) (fuel + (l.length - m)) (listed.setIfInBounds i true) a' w' := by
          intro a' w' hq
          obtain ⟨L', hL', hq⟩ := hq
          rw [if_neg hne1] at hq
          have hisz : i < listed.size := by omega
          have hset : ∀ k, (listed.setIfInBounds i true).getD k false = true → k = i ∨ listed.getD k false = true := fun k hk => by
            rw [getD_set _ _ _ hisz] at hk
            simp only [Bool.or_eq_true, decide_eq_true_eq] at hk
            exact hk.imp Eq.symm (fun h => h)
          have hset' : ∀ k, k = i ∨ listed.getD k false = true → (listed.setIfInBounds i true).getD k false = true := fun k hk => by
            rw [getD_set _ _ _ hisz]
            simp only [Bool.or_eq_true, decide_eq_true_eq]
            exact hk.imp Eq.symm (fun h => h)
          have hcount : ((listed.setIfInBounds i true).toList.filter (!·)).length = fuel + (l.length - m) := by
            have hg : listed.toList[i]? = some false := by
              simp [Array.getD_eq_getD_getElem?, hisz] at hun
              simp [hisz, hun]
            have := filter_set listed.toList i hg
            rw [Array.toList_setIfInBounds]
            omega
          have hm0' : ∀ k, (listed.setIfInBounds i true).getD k false = true → k < m := fun k hk => by
            rcases hset k hk with rfl | h
            · exact hil
            · exact hnm k h
          have hcl : ∀ k, (listed.setIfInBounds i true).getD k false = true → ∀ j ∈ anyOn l k, (listed.setIfInBounds i true).getD j false = true := fun k hk j hj => by
            rcases hset k hk with rfl | h
            · exact hset' j (.inr (hpre' j hj))
            · exact hset' j (.inr (I.cl k h j hj))
          have hlt : ∀ k, (listed.setIfInBounds i true).getD k false = true → k < l.length := fun k hk => by
            rcases hset k hk with rfl | h
            · exact hil0
            · exact I.lt k h
          have hsome : ∀ t, t < n → ∃ v, lk (F ++ (List.range n).map fun t => (t, a.tmps.getD t undef)) t = some v := fun t ht => by
            rw [lk_append]
            cases lk F t with
            | some u => exact ⟨u, rfl⟩
            | none => exact ⟨_, lk_full a n t ht⟩
          obtain ⟨u, rfl, hww, hVu⟩ := hq
          obtain ⟨d, hdd, hdn⟩ := hdst i hil
          rw [hdd] at hL' hd
          simp only [Option.getD_some] at hL'
          simp only [Bool.and_eq_true, List.all_eq_true, List.mem_range, Bool.or_eq_true, beq_iff_eq, bne_iff_ne, ne_eq] at hd
          have hsame' : ∀ t v, t ≠ d → a.tmps[t]? = some v → a'.tmps[t]? = some v := fun t v hne hv => by
            have ht : t < n := by have := (Array.getElem?_eq_some_iff.1 hv).1; rw [I.sz] at this; exact this
            obtain ⟨v', hv'⟩ := hsome t ht
            have h2 := hHF.at_ t v' hv'
            rw [hv] at h2; cases h2
            exact hL'.at_ t v (by rw [lk_ne (Ne.symm hne)]; exact hv')
          have hnew : a'.tmps[d]? = some u := hL'.at_ d u (lk_self _ _ _)
          have hgw : w.grownBy w' none := by
            by_cases hp' : p.pure = true
            · rw [if_pos hp'] at hww; subst hww; exact ext_refl _
            · rw [if_neg hp'] at hww; exact hww
          have hVk : ∀ k, listed.getD k false = true → k ≠ l.length + 1 → V k (vals k) w' := fun k h hne => hV k _ w w' (I.vs k h hne) hgw
          refine ih _ (fun k => if k = i then u else vals k) a' w' (by simpa using hsz) hcount hm0' ⟨hL'.nd, hL'.sz, fun t v ht hk => ?_, fun k t hk ht => ?_, fun h => ?_, fun h => trivial, fun k hk hne => ?_, hcl, hlt⟩
          · exact hsame' t v (fun e' => hk i (hset' i (.inl rfl)) (by rw [hdd, e'])) (I.old t v ht fun k h => hk k (hset' k (.inr h)))
          · by_cases ek : k = i
            · subst ek; rw [hdd] at ht; cases ht; simpa using hnew
            · rw [if_neg ek]
              rcases hset k hk with h | h
              · exact absurd h ek
              · refine hsame' t _ (fun e' => ?_) (I.new k t h ht)
                rcases hd.2 k (hnm k h) with h' | h'
                · exact ek h'
                · exact h' (by rw [ht, e'])
          · refine ext_trans (I.wd ?_) hgw
            cases hb : listed.getD (l.length + 1) false with
            | false => rfl
            | true => have := I.lt _ hb; omega
          · by_cases ek : k = i
            · subst ek; simpa using hVu
            · rw [if_neg ek]
              rcases hset k hk with h | h
              · exact absurd h ek
              · exact hVk k h hne
        unfold wpOp
        rw [ho]
        simp only [wpList] at hW
        by_cases hwant : Region.wanted o (yielded l.toArray a.tmps) = true
        · rw [if_pos hwant] at hW
          simp only [hwant, if_true]
          rcases hW with hW | ⟨_, a', w', L', _, hF'⟩
          · exact .inl (oper_wp_mono fin' (fun e a w hne h => by cases e <;> first | exact absurd rfl hne | (obtain ⟨_, _, h⟩ := h; exact h.elim)) hW)
          · exact hF'.elim
        · rw [if_neg hwant] at hW
          simp only [hwant, if_false, Bool.false_eq_true]
          exact fin' _ _ hW
  have hsz0 : ((Array.replicate l.toArray.size false).toList.filter (!·)).length = m + (l.length - m) := by simp; omega
  have := key m (Array.replicate l.toArray.size false) (fun _ => undef) a { w0 with drawn := w0.drawn + 1 } (by simp) hsz0 (fun k h => by rw [getD_rep] at h; cases h) {
    nd := ha.nd, sz := ha.sz
    old := fun t v h _ => ha.at_ t v h
    new := fun k t h => by rw [getD_rep] at h; cases h
    wd := fun _ => ⟨rfl, rfl, rfl, Nat.le_refl _, fun _ _ _ => rfl⟩
    ws := fun h => trivial
    vs := fun k h => by rw [getD_rep] at h; cases h
    cl := fun k h => by rw [getD_rep] at h; cases h
    lt := fun k h => by rw [getD_rep] at h; cases h }
  rw [show m + (l.length - m) = l.toArray.size by simp; omega] at this
  exact this
theorem Vs_monoT (Vs : List (Value → World → Prop)) (h : ∀ V ∈ Vs, ∀ v w1 w2, V v w1 → w1.grownBy w2 none → V v w2) :
    ∀ j v w1 w2, (Vs.getD j (fun _ _ => True)) v w1 → w1.grownBy w2 none → (Vs.getD j (fun _ _ => True)) v w2 := by
  intro j v w1 w2 h1 h2
  rw [List.getD_eq_getElem?_getD] at h1 ⊢
  cases hj : Vs[j]? with
  | none => trivial
  | some V => rw [hj] at h1; exact h V (List.mem_of_getElem? hj) v w1 w2 h1 h2
end Go.Proofs.Ythfpcebcfjlkmab
set_option linter.unusedSimpArgs false
set_option linter.unusedVariables false
namespace Go.Proofs.Ythfpcebcfjlkmab
open Go.RowKit
theorem wi64p {e z : Int} {n : Nat} (he : e = 1 ∨ e = -1) (hn : n < 9223372036854775808) (hz : z = e * n) : IntKind.i64.wrap z = e * n := by
  subst hz; rcases he with rfl | rfl
  · exact wi64 (by omega) (by omega) rfl
  · exact wi64 (by omega) (by omega) rfl
theorem wi64m {e z : Int} {n : Nat} (he : e = 1 ∨ e = -1) (hn : n < 9223372036854775808) (hz : z = -(e * n)) : IntKind.i64.wrap z = -(e * n) := by
  subst hz; rcases he with rfl | rfl
  · exact wi64 (by omega) (by omega) rfl
  · exact wi64 (by omega) (by omega) rfl
theorem lk1 (e : Int) (k r : Nat) : (k : Int) * (-(e * r)) = -(e * ((k * r : Nat) : Int)) := by push_cast; grind
theorem lk2 (e : Int) (k r : Nat) : (k : Int) * (e * r) = e * ((k * r : Nat) : Int) := by push_cast; grind
theorem lk3 (e : Int) (p k : Nat) : e * (p : Int) - -(e * (k : Int)) = e * ((p + k : Nat) : Int) := by push_cast; grind
theorem lk4 (e : Int) (p k : Nat) : -(e * (p : Int)) - e * (k : Int) = -(e * ((p + k : Nat) : Int)) := by push_cast; grind
theorem nabs_p {e : Int} {n : Nat} (he : e = 1 ∨ e = -1) : (e * (n : Int)).natAbs = n := by rcases he with rfl | rfl <;> omega
theorem nabs_m {e : Int} {n : Nat} (he : e = 1 ∨ e = -1) : (-(e * (n : Int))).natAbs = n := by rcases he with rfl | rfl <;> omega
theorem e_range {e : Int} {n : Nat} (he : e = 1 ∨ e = -1) (hn : n < 9223372036854775807) : -9223372036854775808 < e * (n : Int) ∧ e * (n : Int) ≤ 9223372036854775807 ∧ -9223372036854775808 < -(e * (n : Int)) ∧ -(e * (n : Int)) ≤ 9223372036854775807 := by
  rcases he with rfl | rfl <;> omega
theorem wu32i (z : Int) : IntKind.u32.wrap z = (((z % 4294967296).toNat : Nat) : Int) := by
  rw [wu32m (r := z % 4294967296) rfl]; omega
theorem shr32 (z : Int) : z.fdiv (2 ^ min (32 : Int).toNat IntKind.i64.bits) = z / 4294967296 := by
  rw [show (2 : Int) ^ min (32 : Int).toNat IntKind.i64.bits = 4294967296 by decide]
  exact Int.fdiv_eq_ediv_of_nonneg _ (by decide)
theorem cmb_take (pa pb : Int) (a b : List Nat) (i : Nat) : pa * (nv (a.take i) : Int) + pb * (nv (b.take i) : Int) + 4294967296 ^ i * (((a.getD i 0 : Nat) : Int) * pa + ((b.getD i 0 : Nat) : Int) * pb) = pa * (nv (a.take (i + 1)) : Int) + pb * (nv (b.take (i + 1)) : Int) := by
  rw [nv_take_succ, nv_take_succ, Int.natCast_add, Int.natCast_add, Int.natCast_mul, Int.natCast_mul, Int.natCast_pow]
  rw [show ((4294967296 : Nat) : Int) = 4294967296 from rfl]
  generalize (4294967296 : Int) ^ i = Q
  grind
theorem gcd_le_max {a b : Nat} : Nat.gcd a b ≤ max a b := by
  rcases Nat.eq_zero_or_pos a with h | h
  · subst h; simp
  · exact Nat.le_trans (Nat.gcd_le_left b h) (Nat.le_max_left a b)
theorem gcd_len {xa xb : List Nat} (ha : Lim xa) (hb : Lim xb) : (digs (Nat.gcd (nv xa) (nv xb))).length ≤ max xa.length xb.length := by
  refine digs_len (Nat.lt_of_le_of_lt gcd_le_max ?_)
  have h1 := nv_lt ha; have h2 := nv_lt hb
  have h3 : 4294967296 ^ xa.length ≤ 4294967296 ^ (max xa.length xb.length) := Nat.pow_le_pow_right (by decide) (Nat.le_max_left _ _)
  have h4 : 4294967296 ^ xb.length ≤ 4294967296 ^ (max xa.length xb.length) := Nat.pow_le_pow_right (by decide) (Nat.le_max_right _ _)
  omega

theorem size_p {w : World} {X e : Int} (n : Nat) (he : e = 1 ∨ e = -1) (hX : X = e * (n : Int)) (hn : n < 9223372036854775807) : Calls Try.prog 102 #[.int .i64 X] w fun e w2 => ∃ v, e = .returned v ∧ (fun v w2 => v = .int .i64 ((n : Nat) : Int) ∧ w.grownBy w2 none) v w2 := by
  subst hX
  have h := size_c (w := w) (X := e * (n : Int)) (by have := e_range he hn; omega)
  rw [nabs_p he] at h
  exact h

theorem size_m {w : World} {X e : Int} (n : Nat) (he : e = 1 ∨ e = -1) (hX : X = -(e * (n : Int))) (hn : n < 9223372036854775807) : Calls Try.prog 102 #[.int .i64 X] w fun e w2 => ∃ v, e = .returned v ∧ (fun v w2 => v = .int .i64 ((n : Nat) : Int) ∧ w.grownBy w2 none) v w2 := by
  subst hX
  have h := size_c (w := w) (X := -(e * (n : Int))) (by have := e_range he hn; omega)
  rw [nabs_m he] at h
  exact h

theorem lead_c {w : World} {Ba : Nat} {Aa : Option Addr} {ma ca : Nat} {xa : List Nat} (ha : Rd Ba w 1 Aa ma ca (us xa)) (hLa : Lim xa) (i s : Nat) {X : Int} (hX : X = ((32 * i + s : Nat) : Int)) (hs : s ≤ 31) (hi : i ≤ 1099511627776) (hlt : nv xa < 2 ^ (32 * i + s + 62)) :
    Calls Try.prog 97 #[.slice Aa ma ca, .int .i64 X] w fun e w2 => ∃ v, e = .returned v ∧ (fun v w2 => v = .int .i64 ((nv xa / 2 ^ (32 * i + s) : Nat) : Int) ∧ w.grownBy w2 none) v w2 := by
  have ha := ha.norm
  have ha_l := ha.ulen
  have ha_x := ha.max
  simp only [maxLen] at ha_x
  have ha_c := ha.cap
  have ha0 := ha
  obtain ⟨ab, hab⟩ : ∃ ab, ab = xa.getD (i + 1) 0 + 4294967296 * xa.getD (i + 2) 0 := ⟨_, rfl⟩
  have hx0 := hLa.getD i
  have hx1 := hLa.getD (i + 1)
  have hx2 := hLa.getD (i + 2)
  obtain ⟨hl1, hl2⟩ := lead_eq hLa hs hlt
  rw [← hab] at hl1 hl2
  have hl3 := lead_low hs hx0
  have hl4 := lead_room hs hl2
  have hl5 : 2 ^ (32 - s) ≤ 4294967296 := Nat.pow_le_pow_right (n := 2) (i := 32 - s) (j := 32) (by decide) (by omega)
  have hl6 : ab ≤ ab * 2 ^ (32 - s) := Nat.le_mul_of_pos_right _ (Nat.pow_pos (by decide))
  have hl9 := Nat.add_lt_add hl4 hl3
  have hl7 : ab * 2 ^ (32 - s) + xa.getD i 0 / 2 ^ s < 9223372036854775808 := Nat.lt_of_lt_of_le hl9 (by generalize 2 ^ (32 - s) = q at *; omega)
  have hl8 : nv xa / 2 ^ (32 * i + s) < 9223372036854775808 := by rw [← hl1]; exact hl7
  have hB := ext_refl w
  refine calls_of_W (vs := [.slice Aa ma ca, .int .i64 X]) [4] Try.func97 rfl rfl rfl rfl ?_
  refine W.seq ?_
  refine W.region ?_
  refine WL.assign rfl rfl ?_
  refine WL.done ?_
  refine W.seq ?_
  refine W.region ?_
  refine WL.move rfl rfl ?_
  refine WL.quo (r := ((i : Nat) : Int)) rfl rfl (by omega) (by rw [qi64 (a := 32 * i + s) (b := 32) (by omega) (by omega) (by omega)]; congr 1; omega) rfl ?_
  refine WL.move rfl rfl ?_
  refine WL.rem (r := ((s : Nat) : Int)) rfl rfl (by omega) (by rw [tmod_nat (a := 32 * i + s) (b := 32) (by omega) (by omega)]; congr 1; omega) rfl ?_
  refine WL.assign rfl rfl ?_
  refine WL.assign rfl rfl ?_
  refine WL.done ?_
  refine W.seq ?_
  refine W.region ?_
  refine WL.move rfl rfl ?_
  refine WL.move rfl rfl ?_
  refine WL.add (r := ((i + 2 : Nat) : Int)) rfl rfl (wi64 (by omega) (by omega) (by omega)) rfl ?_
  refine WL.call Try.func79 rfl Try.nm79 rfl rfl (limbAt_c ha (i + 2) (by omega)) ?_
  rintro _ w11 ⟨rfl, hGw11⟩
  have hB := ext_trans hB hGw11
  have ha := ha0.ext hB
  refine WL.conv (r := ((xa.getD (i + 2) 0 : Nat) : Int)) Try.underlying43 Try.underlying72 rfl (wu64 (by omega) (by omega) (by omega)) rfl ?_
  refine WL.shl (r := (((xa.getD (i + 2) 0) * 4294967296 : Nat) : Int)) rfl rfl (by omega) (by rw [show IntKind.u64.bits = 64 from rfl, shl_nat (a := xa.getD (i + 2) 0) (s := 32) (by omega) (by omega) 64 (by omega)]; exact wu64 (by omega) (by omega) (by omega)) rfl ?_
  refine WL.move rfl rfl ?_
  refine WL.move rfl rfl ?_
  refine WL.add (r := ((i + 1 : Nat) : Int)) rfl rfl (wi64 (by omega) (by omega) (by omega)) rfl ?_
  refine WL.call Try.func79 rfl Try.nm79 rfl rfl (limbAt_c ha (i + 1) (by omega)) ?_
  rintro _ w12 ⟨rfl, hGw12⟩
  have hB := ext_trans hB hGw12
  have ha := ha0.ext hB
  refine WL.conv (r := ((xa.getD (i + 1) 0 : Nat) : Int)) Try.underlying43 Try.underlying72 rfl (wu64 (by omega) (by omega) (by omega)) rfl ?_
  refine WL.bits (r := ((ab : Nat) : Int)) rfl rfl (.inr (.inl rfl)) (by rw [hab]; exact or64 rfl rfl hx2 hx1) rfl ?_
  refine WL.assign rfl rfl ?_
  refine WL.done ?_
  refine W.seq ?_
  refine W.drawT 10 [⟨[], [7], true⟩, ⟨[], [6], true⟩, ⟨[1], [], true⟩, ⟨[0, 2], [], true⟩, ⟨[], [0], true⟩, ⟨[], [5], true⟩, ⟨[4, 5], [], false⟩, ⟨[6], [], true⟩, ⟨[], [6], true⟩, ⟨[7, 8], [], true⟩] [[(7, .int .u64 ((ab : Nat) : Int))], [(6, .int .i64 ((s : Nat) : Int))], [], [], [(0, .slice Aa ma ca)], [(5, .int .i64 ((i : Nat) : Int))], [], [], [(6, .int .i64 ((s : Nat) : Int))], []] (fun iQ => [fun v wQ => v = .int .u64 ((ab : Nat) : Int), fun v wQ => v = .int .i64 ((s : Nat) : Int), fun v wQ => v = .int .i64 ((32 - s : Nat) : Int), fun v wQ => v = .int .u64 ((ab * 2 ^ (32 - s) : Nat) : Int), fun v wQ => v = .slice Aa ma ca, fun v wQ => v = .int .i64 ((i : Nat) : Int), fun v wQ => v = .int .u32 ((xa.getD i 0 : Nat) : Int), fun v wQ => v = .int .u64 ((xa.getD i 0 : Nat) : Int), fun v wQ => v = .int .i64 ((s : Nat) : Int), fun v wQ => v = .int .u64 (((xa.getD i 0) / 2 ^ s : Nat) : Int)].getD iQ (fun _ _ => True)) Try.mixed (by kernel_rfl) ?_ ?_ ?_
  · refine Vs_monoT _ ?_
    intro VQ hVQ vQ wQ1 wQ2 hQ1 hQ2
    simp only [List.mem_cons, List.not_mem_nil, or_false] at hVQ
    rcases hVQ with rfl | rfl | rfl | rfl | rfl | rfl | rfl | rfl | rfl | rfl
    · exact hQ1
    · exact hQ1
    · exact hQ1
    · exact hQ1
    · exact hQ1
    · exact hQ1
    · exact hQ1
    · exact hQ1
    · exact hQ1
    · exact hQ1
  · refine ⟨⟨rfl, ⟨rfl, trivial⟩, ?_⟩, ⟨rfl, ⟨rfl, trivial⟩, ?_⟩, ⟨rfl, trivial, ?_⟩, ⟨rfl, trivial, ?_⟩, ⟨rfl, ⟨rfl, trivial⟩, ?_⟩, ⟨rfl, ⟨rfl, trivial⟩, ?_⟩, ⟨rfl, trivial, ?_⟩, ⟨rfl, trivial, ?_⟩, ⟨rfl, ⟨rfl, trivial⟩, ?_⟩, ⟨rfl, trivial, ?_⟩, trivial⟩
    · intro w13 hE
      intro R
      refine WL.move rfl rfl ?_
      exact WL.done ⟨_, rfl, rfl, rfl⟩
    · intro w14 hE
      intro R
      refine WL.move rfl rfl ?_
      exact WL.done ⟨_, rfl, rfl, rfl⟩
    · intro w15 hE
      rintro _ rfl
      intro R
      refine WL.sub (r := ((32 - s : Nat) : Int)) rfl rfl (wi64 (by omega) (by omega) (by omega)) rfl ?_
      exact WL.done ⟨_, rfl, rfl, rfl⟩
    · intro w16 hE
      rintro _ rfl
      rintro _ rfl
      intro R
      refine WL.shl (r := ((ab * 2 ^ (32 - s) : Nat) : Int)) rfl rfl (by omega) (by rw [show IntKind.u64.bits = 64 from rfl, shl_nat (a := ab) (s := 32 - s) (by omega) (by omega) 64 (by omega)]; exact wu64n (by omega)) rfl ?_
      exact WL.done ⟨_, rfl, rfl, rfl⟩
    · intro w17 hE
      intro R
      refine WL.move rfl rfl ?_
      exact WL.done ⟨_, rfl, rfl, rfl⟩
    · intro w18 hE
      intro R
      refine WL.move rfl rfl ?_
      exact WL.done ⟨_, rfl, rfl, rfl⟩
    · intro w19 hE
      have hE := hE rfl
      have hB := ext_trans hB hE
      have ha := ha0.ext hB
      rintro _ rfl
      rintro _ rfl
      intro R
      refine WL.call Try.func79 rfl Try.nm79 rfl rfl (limbAt_c ha (i) (by omega)) ?_
      rintro _ w20 ⟨rfl, hGw20⟩
      have hB := ext_trans hB hGw20
      exact WL.done ⟨_, rfl, hGw20, rfl⟩
    · intro w21 hE
      rintro _ rfl
      intro R
      refine WL.conv (r := ((xa.getD i 0 : Nat) : Int)) Try.underlying43 Try.underlying72 rfl (wu64 (by omega) (by omega) (by omega)) rfl ?_
      exact WL.done ⟨_, rfl, rfl, rfl⟩
    · intro w22 hE
      intro R
      refine WL.move rfl rfl ?_
      exact WL.done ⟨_, rfl, rfl, rfl⟩
    · intro w23 hE
      rintro _ rfl
      rintro _ rfl
      intro R
      refine WL.shr (r := (((xa.getD i 0) / 2 ^ s : Nat) : Int)) rfl rfl (by omega) (shr_nat (a := xa.getD i 0) (s := s) (by omega) (by omega) 64 (by omega)) rfl ?_
      exact WL.done ⟨_, rfl, rfl, rfl⟩
  · intro vals w24 hT hVs
    have hB := ext_trans hB hT
    have hv0 : vals 0 = _ := hVs 0 (by decide)
    have hv1 : vals 1 = _ := hVs 1 (by decide)
    have hv2 : vals 2 = _ := hVs 2 (by decide)
    have hv3 : vals 3 = _ := hVs 3 (by decide)
    have hv4 : vals 4 = _ := hVs 4 (by decide)
    have hv5 : vals 5 = _ := hVs 5 (by decide)
    have hv6 : vals 6 = _ := hVs 6 (by decide)
    have hv7 : vals 7 = _ := hVs 7 (by decide)
    have hv8 : vals 8 = _ := hVs 8 (by decide)
    have hv9 : vals 9 = _ := hVs 9 (by decide)
    rw [show (List.filterMap (fun i => Option.map (fun t => (t, vals i)) (dstAt _ i)) (List.range _)) = [(24, .int .u64 ((ab : Nat) : Int)), (25, .int .i64 ((s : Nat) : Int)), (26, .int .i64 ((32 - s : Nat) : Int)), (27, .int .u64 ((ab * 2 ^ (32 - s) : Nat) : Int)), (28, .slice Aa ma ca), (29, .int .i64 ((i : Nat) : Int)), (30, .int .u32 ((xa.getD i 0 : Nat) : Int)), (31, .int .u64 ((xa.getD i 0 : Nat) : Int)), (32, .int .i64 ((s : Nat) : Int)), (33, .int .u64 (((xa.getD i 0) / 2 ^ s : Nat) : Int))] from by
      show [(24, vals 0), (25, vals 1), (26, vals 2), (27, vals 3), (28, vals 4), (29, vals 5), (30, vals 6), (31, vals 7), (32, vals 8), (33, vals 9)] = _
      rw [hv0, hv1, hv2, hv3, hv4, hv5, hv6, hv7, hv8, hv9]]
    refine WA.step [10] (by decide +kernel) rfl ?_
    intro iQ hQ
    simp only [List.mem_cons, List.not_mem_nil, or_false] at hQ
    obtain rfl := hQ
    · refine ⟨_, rfl, ?_⟩
      refine WL.bits (r := ((nv xa / 2 ^ (32 * i + s) : Nat) : Int)) rfl rfl (.inr (.inl rfl)) (by rw [← hl1]; exact or_apart hl3 (Nat.lt_trans hl7 (by decide))) rfl ?_
      refine WL.done ?_
      refine WA.step [11] (by decide +kernel) rfl ?_
      intro iQ hQ
      simp only [List.mem_cons, List.not_mem_nil, or_false] at hQ
      obtain rfl := hQ
      · refine ⟨_, rfl, ?_⟩
        refine WL.conv (r := ((nv xa / 2 ^ (32 * i + s) : Nat) : Int)) Try.underlying72 Try.underlying2 rfl (wi64n hl8) rfl ?_
        refine WL.done ?_
        refine WA.step [12] (by decide +kernel) rfl ?_
        intro iQ hQ
        simp only [List.mem_cons, List.not_mem_nil, or_false] at hQ
        obtain rfl := hQ
        · refine ⟨_, rfl, ?_⟩
          refine WL.assign rfl rfl ?_
          refine WL.done ?_
          refine WA.done (by decide +kernel) ?_
          refine W.ret ?_
          refine ⟨_, rfl, ?_⟩
          exact ⟨rfl, hB⟩

theorem cof_c {w : World} {A B D : Nat} (hBA : B ≤ A) (hD : 0 < D) (hX : A / D < 4611686018427387904) {X Y : Int} (hX0 : X = ((A / D : Nat) : Int)) (hY0 : Y = ((B / D : Nat) : Int)) :
    Calls Try.prog 96 #[.int .i64 X, .int .i64 Y] w fun e w2 => ∃ v, e = .returned v ∧ (fun v w2 => ∃ (e : Int) (p q r s x y R0 R1 : Nat), v = .tuple #[.agg #[.int .i64 (e * (p : Int)), .int .i64 (-(e * (q : Int)))], .agg #[.int .i64 (-(e * (r : Int))), .int .i64 (e * (s : Int))]] ∧ w.grownBy w2 none ∧ Lh A B D e p q r s x y R0 R1) v w2 := by
  have hYX : B / D ≤ A / D := Nat.div_le_div_right hBA
  have hB := ext_refl w
  refine calls_of_Wc (vs := [.int .i64 X, .int .i64 Y]) [.cell 4 91, .cell 5 91] Try.func96 rfl rfl rfl rfl ?_
  refine W.seq ?_
  refine W.region ?_
  refine WL.alloc Try.el91 rfl ?_
  intro ga w11 hg_ga hVga hGw11
  change Own _ _ _ _ _ _ _ [.int .i64 (0 : Int), .int .i64 (0 : Int)] at hVga
  have hVga := hVga.low (b' := w.heap.size) hB.size
  have hB := ext_trans hB hGw11
  refine WL.alloc Try.el91 rfl ?_
  intro gb w12 hg_gb hVgb hGw12
  change Own _ _ _ _ _ _ _ [.int .i64 (0 : Int), .int .i64 (0 : Int)] at hVgb
  have hlt_ga_gb : ga < gb := by rw [hg_gb]; exact (hVga.bl_ge _ rfl).2
  have hVgb := hVgb.low (b' := w.heap.size) hB.size
  have hB := ext_trans hB hGw12
  have hVga := hVga.ext hGw12
  refine WL.done ?_
  refine W.seq ?_
  refine W.region ?_
  refine WL.build (cells := #[.int .i64 (1 : Int), .int .i64 (0 : Int)]) Try.bld91 rfl rfl rfl ?_
  refine WL.build (cells := #[.int .i64 (0 : Int), .int .i64 (1 : Int)]) Try.bld91 rfl rfl rfl ?_
  refine WL.storeV Try.el91 rfl rfl rfl rfl hVga ?_
  have hOld14 := hVga
  intro w13 hVga hGw13
  change Own _ _ _ _ _ _ _ [.int .i64 (1 : Int), .int .i64 (0 : Int)] at hVga
  have hB := ext_own hB hGw13 (fun g hg => (hOld14.bl_ge g hg).1)
  have hVgb := hVgb.grown hGw13 (apart (by omega))
  refine WL.storeV Try.el91 rfl rfl rfl rfl hVgb ?_
  have hOld16 := hVgb
  intro w15 hVgb hGw15
  change Own _ _ _ _ _ _ _ [.int .i64 (0 : Int), .int .i64 (1 : Int)] at hVgb
  have hB := ext_own hB hGw15 (fun g hg => (hOld16.bl_ge g hg).1)
  have hVga := hVga.grown hGw15 (apart (by omega))
  refine WL.done ?_
  refine W.seq ?_
  refine W.block ?_
  refine W.loop (σ := Int × Nat × Nat × Nat × Nat × Nat × Nat × Nat × Nat) (fun s w1 => match s with | (e, p, q, r, s, x, y, R0, R1) => w.grownBy w1 none ∧ Lh A B D e p q r s x y R0 R1 ∧ Own w.heap.size w1 91 2 (some ⟨ga, 0, none⟩) 1 1 [.int .i64 (e * (p : Int)), .int .i64 (-(e * (q : Int)))] ∧ Own w.heap.size w1 91 2 (some ⟨gb, 0, none⟩) 1 1 [.int .i64 (-(e * (r : Int))), .int .i64 (e * (s : Int))]) (fun s => match s with | (e, p, q, r, s, x, y, R0, R1) => [(0, .int .i64 ((x : Nat) : Int)), (1, .int .i64 ((y : Nat) : Int)), (4, .pointer (some ⟨ga, 0, none⟩)), (5, .pointer (some ⟨gb, 0, none⟩))]) (fun s => match s with | (e, p, q, r, s, x, y, R0, R1) => y) (1, 1, 0, 0, 1, A / D, B / D, A, B) ?_ ?_ ?_
  · exact ⟨hB, Lh.start hBA, hVga, hVgb⟩
  · exact ⟨iv (by omega), iv (by omega), rfl, rfl, trivial⟩
  · rintro ⟨e, p, q, r, s, x, y, R0, R1⟩ w17 ⟨hB, hL, hVga, hVgb⟩
    have hxX := hL.hX
    have hyx := hL.yx
    have hxl : x ≤ A / D := by have := Nat.mul_le_mul_right x hL.s1; omega
    have hsm := hL.small hX
    have hp31 := hL.p31
    have hr31 := hL.r31
    have hq31 := hL.q31
    have hs31 := hL.s31
    have hsg := hL.sg
    have hml : y ≠ 0 → x % y < y := fun h => Nat.mod_lt _ (by omega)
    refine W.seq ?_
    refine W.seq ?_
    refine W.region ?_
    refine WL.move rfl rfl ?_
    refine WL.neq rfl rfl rfl (fun c18 => ?_) (fun c18 => ?_)
    · refine WL.done ?_
      refine W.condT rfl ?_
      refine W.skip ?_
      refine W.block ?_
      refine W.seq ?_
      refine W.region ?_
      refine WL.move rfl rfl ?_
      refine WL.move rfl rfl ?_
      obtain ⟨hs1, hs2, hs3, hs4, hs5, hs6, hs7⟩ := hsm (by omega)
      refine WL.quo (r := ((x / y : Nat) : Int)) rfl rfl (by omega) (qi64 (by omega) (by omega) (by omega)) rfl ?_
      refine WL.assign rfl rfl ?_
      refine WL.done ?_
      refine W.seq ?_
      refine W.region ?_
      refine WL.fieldA (off := 0) Try.fla91_0 rfl rfl ?_
      refine WL.load Try.underlying2 rfl rfl (hVga.vcells 0 _ rfl) rfl ?_
      refine WL.move rfl rfl ?_
      refine WL.fieldA (off := 0) Try.fla91_0 rfl rfl ?_
      refine WL.load Try.underlying2 rfl rfl (hVgb.vcells 0 _ rfl) rfl ?_
      refine WL.mul (r := (-(e * ((x / y * r : Nat) : Int)))) rfl rfl (wi64m hsg (by omega) (lk1 ..)) rfl ?_
      refine WL.sub (r := (e * ((p + x / y * r : Nat) : Int))) rfl rfl (wi64p hsg (by omega) (lk3 ..)) rfl ?_
      refine WL.fieldA (off := 1) Try.fla91_1 rfl rfl ?_
      refine WL.load Try.underlying2 rfl rfl (hVga.vcells 1 _ rfl) rfl ?_
      refine WL.move rfl rfl ?_
      refine WL.fieldA (off := 1) Try.fla91_1 rfl rfl ?_
      refine WL.load Try.underlying2 rfl rfl (hVgb.vcells 1 _ rfl) rfl ?_
      refine WL.mul (r := (e * ((x / y * s : Nat) : Int))) rfl rfl (wi64p hsg (by omega) (lk2 ..)) rfl ?_
      refine WL.sub (r := (-(e * ((q + x / y * s : Nat) : Int)))) rfl rfl (wi64m hsg (by omega) (lk4 ..)) rfl ?_
      refine WL.build (cells := #[.int .i64 (e * ((p + x / y * r : Nat) : Int)), .int .i64 (-(e * ((q + x / y * s : Nat) : Int)))]) Try.bld91 rfl rfl rfl ?_
      refine WL.alloc Try.el91 rfl ?_
      intro gn w19 hg_gn hVgn hGw19
      change Own _ _ _ _ _ _ _ [.int .i64 (0 : Int), .int .i64 (0 : Int)] at hVgn
      have hlt_ga_gn : ga < gn := by rw [hg_gn]; exact (hVga.bl_ge _ rfl).2
      have hlt_gb_gn : gb < gn := by rw [hg_gn]; exact (hVgb.bl_ge _ rfl).2
      have hVgn := hVgn.low (b' := w.heap.size) hB.size
      have hB := ext_trans hB hGw19
      have hVga := hVga.ext hGw19
      have hVgb := hVgb.ext hGw19
      refine WL.storeV Try.el91 rfl rfl rfl rfl hVgn ?_
      have hOld21 := hVgn
      intro w20 hVgn hGw20
      change Own _ _ _ _ _ _ _ [.int .i64 (e * ((p + x / y * r : Nat) : Int)), .int .i64 (-(e * ((q + x / y * s : Nat) : Int)))] at hVgn
      have hB := ext_own hB hGw20 (fun g hg => (hOld21.bl_ge g hg).1)
      have hVga := hVga.grown hGw20 (apart (by omega))
      have hVgb := hVgb.grown hGw20 (apart (by omega))
      refine WL.done ?_
      refine W.seq ?_
      refine W.region ?_
      refine WL.move rfl rfl ?_
      refine WL.move rfl rfl ?_
      refine WL.move rfl rfl ?_
      refine WL.mul (r := (((x / y) * y : Nat) : Int)) rfl rfl (wi64 (by omega) (by omega) (by omega)) rfl ?_
      refine WL.sub (r := ((x % y : Nat) : Int)) rfl rfl (wi64 (by omega) (by omega) (by omega)) rfl ?_
      refine WL.assign rfl rfl ?_
      refine WL.done ?_
      refine W.seq ?_
      refine W.seq ?_
      rcases Nat.lt_or_ge (x % y) (q + x / y * s) with ht | ht
      · refine W.draw [⟨[], [8], true⟩, ⟨[], [7], true⟩, ⟨[1], [], false⟩, ⟨[2], [], false⟩, ⟨[0, 3], [], true⟩, ⟨[4], [], true⟩, ⟨[5], [1], true⟩, ⟨[5], [8], true⟩, ⟨[5, 6, 7], [], true⟩, ⟨[5], [7], true⟩, ⟨[5, 9], [], false⟩, ⟨[5, 10], [], false⟩, ⟨[5], [5], true⟩, ⟨[5, 12], [], false⟩, ⟨[5, 13], [], false⟩, ⟨[5, 11, 14], [], true⟩, ⟨[5, 8, 15], [], true⟩, ⟨[5, 16], [], true⟩] [[(8, .int .i64 ((x % y : Nat) : Int))], [(7, .pointer (some ⟨gn, 0, none⟩))], [], [], [], [], [(1, .int .i64 ((y : Nat) : Int))], [(8, .int .i64 ((x % y : Nat) : Int))], [], [(7, .pointer (some ⟨gn, 0, none⟩))], [], [], [(5, .pointer (some ⟨gb, 0, none⟩))], [], [], [], [], []] (fun iQ => [fun v wQ => v = .int .i64 ((x % y : Nat) : Int), fun v wQ => v = .pointer (some ((⟨gn, 0, none⟩ : Addr).add 1)), fun v wQ => v = .int .i64 (-(e * ((q + x / y * s : Nat) : Int))), fun v wQ => v = .int .i64 ((q + x / y * s : Nat) : Int), fun v _ => v = .bool true, fun v wQ => v = .bool true, fun v wQ => v = undef, fun v wQ => v = undef, fun v wQ => v = undef, fun v wQ => v = undef, fun v wQ => v = undef, fun v wQ => v = undef, fun v wQ => v = undef, fun v wQ => v = undef, fun v wQ => v = undef, fun v wQ => v = undef, fun v wQ => v = undef, fun v wQ => v = .bool true].getD iQ (fun _ _ => True)) (fun _ => True) 18 Try.mixed (by kernel_rfl) ?_ ?_ ?_
        · refine Vs_mono _ ?_
          intro VQ hVQ vQ wQ1 wQ2 hQ1 hQ2
          have hQ2 := hQ2.resolve_right (by decide)
          simp only [List.mem_cons, List.not_mem_nil, or_false] at hVQ
          rcases hVQ with rfl | rfl | rfl | rfl | rfl | rfl | rfl | rfl | rfl | rfl | rfl | rfl | rfl | rfl | rfl | rfl | rfl | rfl
          · exact hQ1
          · exact hQ1
          · exact hQ1
          · exact hQ1
          · exact hQ1
          · exact hQ1
          · exact hQ1
          · exact hQ1
          · exact hQ1
          · exact hQ1
          · exact hQ1
          · exact hQ1
          · exact hQ1
          · exact hQ1
          · exact hQ1
          · exact hQ1
          · exact hQ1
          · exact hQ1
        · refine ⟨⟨rfl, ⟨rfl, trivial⟩, ?_⟩, ⟨rfl, ⟨rfl, trivial⟩, ?_⟩, ⟨rfl, trivial, ?_⟩, ⟨rfl, trivial, ?_⟩, ⟨rfl, trivial, ?_⟩, ⟨rfl, trivial, ?_⟩, ⟨rfl, ⟨rfl, trivial⟩, ?_⟩, ⟨rfl, ⟨rfl, trivial⟩, ?_⟩, ⟨rfl, trivial, ?_⟩, ⟨rfl, ⟨rfl, trivial⟩, ?_⟩, ⟨rfl, trivial, ?_⟩, ⟨rfl, trivial, ?_⟩, ⟨rfl, ⟨rfl, trivial⟩, ?_⟩, ⟨rfl, trivial, ?_⟩, ⟨rfl, trivial, ?_⟩, ⟨rfl, trivial, ?_⟩, ⟨rfl, trivial, ?_⟩, ⟨rfl, trivial, ?_⟩, trivial⟩
          · intro w22 hE
            intro R
            refine WL.move rfl rfl ?_
            exact WL.done ⟨_, rfl, rfl, rfl⟩
          · intro w23 hE
            intro R
            refine WL.fieldA (off := 1) Try.fla91_1 rfl rfl ?_
            exact WL.done ⟨_, rfl, rfl, rfl⟩
          · intro w24 hE
            have hE := hE rfl
            have hB := ext_trans hB hE
            have hVgn := hVgn.ext hE
            rintro _ rfl
            intro R
            refine WL.load Try.underlying2 rfl rfl (hVgn.vcells 1 _ rfl) rfl ?_
            exact WL.done ⟨_, rfl, ext_refl _, rfl⟩
          · intro w25 hE
            have hE := hE rfl
            have hB := ext_trans hB hE
            rintro _ rfl
            intro R
            refine WL.call Try.func102 rfl Try.nm102 rfl rfl (size_m (q + x / y * s) hsg rfl (by omega)) ?_
            rintro _ w26 ⟨rfl, hGw26⟩
            have hB := ext_trans hB hGw26
            exact WL.done ⟨_, rfl, hGw26, rfl⟩
          · intro w27 hE
            rintro _ rfl
            rintro _ rfl
            intro R
            refine WL.lssD rfl rfl rfl ?_
            exact WL.done ⟨_, rfl, rfl, (show Value.bool (decide (((x % y : Nat) : Int) < ((q + x / y * s : Nat) : Int))) = Value.bool true from congrArg Value.bool (decide_eq_true (by omega)))⟩
          · intro w28 hE
            rintro _ rfl
            intro R
            refine WL.move rfl rfl ?_
            exact WL.done ⟨_, rfl, rfl, rfl⟩
          · intro w29 hE
            rintro _ rfl
            intro R
            refine WL.pass rfl rfl rfl ?_
            exact WL.done ⟨_, rfl, rfl, rfl⟩
          · intro w30 hE
            rintro _ rfl
            intro R
            refine WL.pass rfl rfl rfl ?_
            exact WL.done ⟨_, rfl, rfl, rfl⟩
          · intro w31 hE
            rintro _ rfl
            rintro _ rfl
            rintro _ rfl
            intro R
            refine WL.pass rfl rfl rfl ?_
            exact WL.done ⟨_, rfl, rfl, rfl⟩
          · intro w32 hE
            rintro _ rfl
            intro R
            refine WL.pass rfl rfl rfl ?_
            exact WL.done ⟨_, rfl, rfl, rfl⟩
          · intro w33 hE
            have hE := hE rfl
            have hB := ext_trans hB hE
            rintro _ rfl
            rintro _ rfl
            intro R
            refine WL.pass rfl rfl rfl ?_
            exact WL.done ⟨_, rfl, ext_refl _, rfl⟩
          · intro w34 hE
            have hE := hE rfl
            have hB := ext_trans hB hE
            rintro _ rfl
            rintro _ rfl
            intro R
            refine WL.pass rfl rfl rfl ?_
            exact WL.done ⟨_, rfl, ext_refl _, rfl⟩
          · intro w35 hE
            rintro _ rfl
            intro R
            refine WL.pass rfl rfl rfl ?_
            exact WL.done ⟨_, rfl, rfl, rfl⟩
          · intro w36 hE
            have hE := hE rfl
            have hB := ext_trans hB hE
            rintro _ rfl
            rintro _ rfl
            intro R
            refine WL.pass rfl rfl rfl ?_
            exact WL.done ⟨_, rfl, ext_refl _, rfl⟩
          · intro w37 hE
            have hE := hE rfl
            have hB := ext_trans hB hE
            rintro _ rfl
            rintro _ rfl
            intro R
            refine WL.pass rfl rfl rfl ?_
            exact WL.done ⟨_, rfl, ext_refl _, rfl⟩
          · intro w38 hE
            rintro _ rfl
            rintro _ rfl
            rintro _ rfl
            intro R
            refine WL.pass rfl rfl rfl ?_
            exact WL.done ⟨_, rfl, rfl, rfl⟩
          · intro w39 hE
            rintro _ rfl
            rintro _ rfl
            rintro _ rfl
            intro R
            refine WL.pass rfl rfl rfl ?_
            exact WL.done ⟨_, rfl, rfl, rfl⟩
          · intro w40 hE
            rintro _ rfl
            rintro _ rfl
            intro R
            refine WL.pick rfl rfl rfl ?_
            exact WL.done ⟨_, rfl, rfl, rfl⟩
        · intro vals w41 hT hVs
          rw [if_neg (by decide)] at hT
          have hB := ext_trans hB hT
          have hVga := hVga.ext hT
          have hVgb := hVgb.ext hT
          have hv0 : vals 0 = _ := hVs 0 (by decide) (by decide)
          have hv1 : vals 1 = _ := hVs 1 (by decide) (by decide)
          have hv2 : vals 2 = _ := hVs 2 (by decide) (by decide)
          have hv3 : vals 3 = _ := hVs 3 (by decide) (by decide)
          have hv4 : vals 4 = _ := hVs 4 (by decide) (by decide)
          have hv5 : vals 5 = _ := hVs 5 (by decide) (by decide)
          have hv6 : vals 6 = _ := hVs 6 (by decide) (by decide)
          have hv7 : vals 7 = _ := hVs 7 (by decide) (by decide)
          have hv8 : vals 8 = _ := hVs 8 (by decide) (by decide)
          have hv9 : vals 9 = _ := hVs 9 (by decide) (by decide)
          have hv10 : vals 10 = _ := hVs 10 (by decide) (by decide)
          have hv11 : vals 11 = _ := hVs 11 (by decide) (by decide)
          have hv12 : vals 12 = _ := hVs 12 (by decide) (by decide)
          have hv13 : vals 13 = _ := hVs 13 (by decide) (by decide)
          have hv14 : vals 14 = _ := hVs 14 (by decide) (by decide)
          have hv15 : vals 15 = _ := hVs 15 (by decide) (by decide)
          have hv16 : vals 16 = _ := hVs 16 (by decide) (by decide)
          have hv17 : vals 17 = _ := hVs 17 (by decide) (by decide)
          rw [show (List.filterMap (fun i => Option.map (fun t => (t, vals i)) (dstAt _ i)) (List.range _)) = [(36, .int .i64 ((x % y : Nat) : Int)), (37, .pointer (some ((⟨gn, 0, none⟩ : Addr).add 1))), (38, .int .i64 (-(e * ((q + x / y * s : Nat) : Int)))), (39, .int .i64 ((q + x / y * s : Nat) : Int)), (40, .bool true), (41, .bool true), (42, undef), (43, undef), (44, undef), (45, undef), (46, undef), (47, undef), (48, undef), (49, undef), (50, undef), (51, undef), (52, undef), (53, .bool true)] from by
            show [(36, vals 0), (37, vals 1), (38, vals 2), (39, vals 3), (40, vals 4), (41, vals 5), (42, vals 6), (43, vals 7), (44, vals 8), (45, vals 9), (46, vals 10), (47, vals 11), (48, vals 12), (49, vals 13), (50, vals 14), (51, vals 15), (52, vals 16), (53, vals 17)] = _
            rw [hv0, hv1, hv2, hv3, hv4, hv5, hv6, hv7, hv8, hv9, hv10, hv11, hv12, hv13, hv14, hv15, hv16, hv17]]
          refine W.condT rfl ?_
          refine W.exit ?_
          refine W.seq ?_
          refine W.drawA Try.mixed ?_
          intro w42 hGw42 hhp
          have hB := ext_trans hB hGw42
          have hVga := hVga.ext hGw42
          have hVgb := hVgb.ext hGw42
          refine WA.step [0, 1] (by decide +kernel) rfl ?_
          intro iQ hQ
          simp only [List.mem_cons, List.not_mem_nil, or_false] at hQ
          rcases hQ with rfl | rfl
          · refine ⟨_, rfl, ?_⟩
            refine WL.loadV (cs := [.int .i64 (e * (p : Int)), .int .i64 (-(e * (q : Int)))]) Try.el91 Try.agg91 rfl rfl hVga.vcells rfl ?_
            refine WL.done ?_
            refine WA.step [1, 2] (by decide +kernel) rfl ?_
            intro iQ hQ
            simp only [List.mem_cons, List.not_mem_nil, or_false] at hQ
            rcases hQ with rfl | rfl
            · refine ⟨_, rfl, ?_⟩
              refine WL.loadV (cs := [.int .i64 (-(e * (r : Int))), .int .i64 (e * (s : Int))]) Try.el91 Try.agg91 rfl rfl hVgb.vcells rfl ?_
              refine WL.done ?_
              refine WA.step [2] (by decide +kernel) rfl ?_
              intro iQ hQ
              simp only [List.mem_cons, List.not_mem_nil, or_false] at hQ
              obtain rfl := hQ
              · refine ⟨_, rfl, ?_⟩
                refine WL.storeV Try.el91 rfl rfl rfl rfl hVga ?_
                have hOld44 := hVga
                intro w43 hVga hGw43
                change Own _ _ _ _ _ _ _ [.int .i64 (e * (p : Int)), .int .i64 (-(e * (q : Int)))] at hVga
                have hB := ext_own hB hGw43 (fun g hg => (hOld44.bl_ge g hg).1)
                have hVgb := hVgb.grown hGw43 (apart (by omega))
                refine WL.done ?_
                refine WA.step [3] (by decide +kernel) rfl ?_
                intro iQ hQ
                simp only [List.mem_cons, List.not_mem_nil, or_false] at hQ
                obtain rfl := hQ
                · refine ⟨_, rfl, ?_⟩
                  refine WL.storeV Try.el91 rfl rfl rfl rfl hVgb ?_
                  have hOld46 := hVgb
                  intro w45 hVgb hGw45
                  change Own _ _ _ _ _ _ _ [.int .i64 (-(e * (r : Int))), .int .i64 (e * (s : Int))] at hVgb
                  have hB := ext_own hB hGw45 (fun g hg => (hOld46.bl_ge g hg).1)
                  have hVga := hVga.grown hGw45 (apart (by omega))
                  refine WL.done ?_
                  refine WA.done (by decide +kernel) ?_
                  refine W.ret ?_
                  refine ⟨[.agg #[.int .i64 (e * (p : Int)), .int .i64 (-(e * (q : Int)))], .agg #[.int .i64 (-(e * (r : Int))), .int .i64 (e * (s : Int))]], ⟨_, _, _, rfl, rfl, run_loadV (cs := [.int .i64 (e * (p : Int)), .int .i64 (-(e * (q : Int)))]) Try.el91 Try.agg91 rfl hVga.vcells, ⟨_, _, _, rfl, rfl, run_loadV (cs := [.int .i64 (-(e * (r : Int))), .int .i64 (e * (s : Int))]) Try.el91 Try.agg91 rfl hVgb.vcells, rfl⟩⟩, ?_⟩
                  exact ⟨e, p, q, r, s, x, y, R0, R1, rfl, hB, hL⟩
            · refine ⟨_, rfl, ?_⟩
              refine WL.storeV Try.el91 rfl rfl rfl rfl hVga ?_
              have hOld48 := hVga
              intro w47 hVga hGw47
              change Own _ _ _ _ _ _ _ [.int .i64 (e * (p : Int)), .int .i64 (-(e * (q : Int)))] at hVga
              have hB := ext_own hB hGw47 (fun g hg => (hOld48.bl_ge g hg).1)
              have hVgb := hVgb.grown hGw47 (apart (by omega))
              refine WL.done ?_
              refine WA.step [1] (by decide +kernel) rfl ?_
              intro iQ hQ
              simp only [List.mem_cons, List.not_mem_nil, or_false] at hQ
              obtain rfl := hQ
              · refine ⟨_, rfl, ?_⟩
                refine WL.loadV (cs := [.int .i64 (-(e * (r : Int))), .int .i64 (e * (s : Int))]) Try.el91 Try.agg91 rfl rfl hVgb.vcells rfl ?_
                refine WL.done ?_
                refine WA.step [3] (by decide +kernel) rfl ?_
                intro iQ hQ
                simp only [List.mem_cons, List.not_mem_nil, or_false] at hQ
                obtain rfl := hQ
                · refine ⟨_, rfl, ?_⟩
                  refine WL.storeV Try.el91 rfl rfl rfl rfl hVgb ?_
                  have hOld50 := hVgb
                  intro w49 hVgb hGw49
                  change Own _ _ _ _ _ _ _ [.int .i64 (-(e * (r : Int))), .int .i64 (e * (s : Int))] at hVgb
                  have hB := ext_own hB hGw49 (fun g hg => (hOld50.bl_ge g hg).1)
                  have hVga := hVga.grown hGw49 (apart (by omega))
                  refine WL.done ?_
                  refine WA.done (by decide +kernel) ?_
                  refine W.ret ?_
                  refine ⟨[.agg #[.int .i64 (e * (p : Int)), .int .i64 (-(e * (q : Int)))], .agg #[.int .i64 (-(e * (r : Int))), .int .i64 (e * (s : Int))]], ⟨_, _, _, rfl, rfl, run_loadV (cs := [.int .i64 (e * (p : Int)), .int .i64 (-(e * (q : Int)))]) Try.el91 Try.agg91 rfl hVga.vcells, ⟨_, _, _, rfl, rfl, run_loadV (cs := [.int .i64 (-(e * (r : Int))), .int .i64 (e * (s : Int))]) Try.el91 Try.agg91 rfl hVgb.vcells, rfl⟩⟩, ?_⟩
                  exact ⟨e, p, q, r, s, x, y, R0, R1, rfl, hB, hL⟩
          · refine ⟨_, rfl, ?_⟩
            refine WL.loadV (cs := [.int .i64 (-(e * (r : Int))), .int .i64 (e * (s : Int))]) Try.el91 Try.agg91 rfl rfl hVgb.vcells rfl ?_
            refine WL.done ?_
            refine WA.step [0] (by decide +kernel) rfl ?_
            intro iQ hQ
            simp only [List.mem_cons, List.not_mem_nil, or_false] at hQ
            obtain rfl := hQ
            · refine ⟨_, rfl, ?_⟩
              refine WL.loadV (cs := [.int .i64 (e * (p : Int)), .int .i64 (-(e * (q : Int)))]) Try.el91 Try.agg91 rfl rfl hVga.vcells rfl ?_
              refine WL.done ?_
              refine WA.step [2] (by decide +kernel) rfl ?_
              intro iQ hQ
              simp only [List.mem_cons, List.not_mem_nil, or_false] at hQ
              obtain rfl := hQ
              · refine ⟨_, rfl, ?_⟩
                refine WL.storeV Try.el91 rfl rfl rfl rfl hVga ?_
                have hOld52 := hVga
                intro w51 hVga hGw51
                change Own _ _ _ _ _ _ _ [.int .i64 (e * (p : Int)), .int .i64 (-(e * (q : Int)))] at hVga
                have hB := ext_own hB hGw51 (fun g hg => (hOld52.bl_ge g hg).1)
                have hVgb := hVgb.grown hGw51 (apart (by omega))
                refine WL.done ?_
                refine WA.step [3] (by decide +kernel) rfl ?_
                intro iQ hQ
                simp only [List.mem_cons, List.not_mem_nil, or_false] at hQ
                obtain rfl := hQ
                · refine ⟨_, rfl, ?_⟩
                  refine WL.storeV Try.el91 rfl rfl rfl rfl hVgb ?_
                  have hOld54 := hVgb
                  intro w53 hVgb hGw53
                  change Own _ _ _ _ _ _ _ [.int .i64 (-(e * (r : Int))), .int .i64 (e * (s : Int))] at hVgb
                  have hB := ext_own hB hGw53 (fun g hg => (hOld54.bl_ge g hg).1)
                  have hVga := hVga.grown hGw53 (apart (by omega))
                  refine WL.done ?_
                  refine WA.done (by decide +kernel) ?_
                  refine W.ret ?_
                  refine ⟨[.agg #[.int .i64 (e * (p : Int)), .int .i64 (-(e * (q : Int)))], .agg #[.int .i64 (-(e * (r : Int))), .int .i64 (e * (s : Int))]], ⟨_, _, _, rfl, rfl, run_loadV (cs := [.int .i64 (e * (p : Int)), .int .i64 (-(e * (q : Int)))]) Try.el91 Try.agg91 rfl hVga.vcells, ⟨_, _, _, rfl, rfl, run_loadV (cs := [.int .i64 (-(e * (r : Int))), .int .i64 (e * (s : Int))]) Try.el91 Try.agg91 rfl hVgb.vcells, rfl⟩⟩, ?_⟩
                  exact ⟨e, p, q, r, s, x, y, R0, R1, rfl, hB, hL⟩
      · refine W.draw [⟨[], [8], true⟩, ⟨[], [7], true⟩, ⟨[1], [], false⟩, ⟨[2], [], false⟩, ⟨[0, 3], [], true⟩, ⟨[4], [], true⟩, ⟨[5], [1], true⟩, ⟨[5], [8], true⟩, ⟨[5, 6, 7], [], true⟩, ⟨[5], [7], true⟩, ⟨[5, 9], [], false⟩, ⟨[5, 10], [], false⟩, ⟨[5], [5], true⟩, ⟨[5, 12], [], false⟩, ⟨[5, 13], [], false⟩, ⟨[5, 11, 14], [], true⟩, ⟨[5, 8, 15], [], true⟩, ⟨[5, 16], [], true⟩] [[(8, .int .i64 ((x % y : Nat) : Int))], [(7, .pointer (some ⟨gn, 0, none⟩))], [], [], [], [], [(1, .int .i64 ((y : Nat) : Int))], [(8, .int .i64 ((x % y : Nat) : Int))], [], [(7, .pointer (some ⟨gn, 0, none⟩))], [], [], [(5, .pointer (some ⟨gb, 0, none⟩))], [], [], [], [], []] (fun iQ => [fun v wQ => v = .int .i64 ((x % y : Nat) : Int), fun v wQ => v = .pointer (some ((⟨gn, 0, none⟩ : Addr).add 1)), fun v wQ => v = .int .i64 (-(e * ((q + x / y * s : Nat) : Int))), fun v wQ => v = .int .i64 ((q + x / y * s : Nat) : Int), fun v _ => v = .bool false, fun v wQ => v = .bool false, fun v wQ => v = .int .i64 ((y : Nat) : Int), fun v wQ => v = .int .i64 ((x % y : Nat) : Int), fun v wQ => v = .int .i64 ((y - (x % y) : Nat) : Int), fun v wQ => v = .pointer (some ((⟨gn, 0, none⟩ : Addr).add 1)), fun v wQ => v = .int .i64 (-(e * ((q + x / y * s : Nat) : Int))), fun v wQ => v = .int .i64 ((q + x / y * s : Nat) : Int), fun v wQ => v = .pointer (some ((⟨gb, 0, none⟩ : Addr).add 1)), fun v wQ => v = .int .i64 (e * (s : Int)), fun v wQ => v = .int .i64 ((s : Nat) : Int), fun v wQ => v = .int .i64 (((q + x / y * s) + s : Nat) : Int), fun v wQ => v = .bool (decide (((y - (x % y) : Nat) : Int) < (((q + x / y * s) + s : Nat) : Int))), fun v wQ => v = .bool (decide (((y - (x % y) : Nat) : Int) < (((q + x / y * s) + s : Nat) : Int)))].getD iQ (fun _ _ => True)) (fun _ => True) 18 Try.mixed (by kernel_rfl) ?_ ?_ ?_
        · refine Vs_mono _ ?_
          intro VQ hVQ vQ wQ1 wQ2 hQ1 hQ2
          have hQ2 := hQ2.resolve_right (by decide)
          simp only [List.mem_cons, List.not_mem_nil, or_false] at hVQ
          rcases hVQ with rfl | rfl | rfl | rfl | rfl | rfl | rfl | rfl | rfl | rfl | rfl | rfl | rfl | rfl | rfl | rfl | rfl | rfl
          · exact hQ1
          · exact hQ1
          · exact hQ1
          · exact hQ1
          · exact hQ1
          · exact hQ1
          · exact hQ1
          · exact hQ1
          · exact hQ1
          · exact hQ1
          · exact hQ1
          · exact hQ1
          · exact hQ1
          · exact hQ1
          · exact hQ1
          · exact hQ1
          · exact hQ1
          · exact hQ1
        · refine ⟨⟨rfl, ⟨rfl, trivial⟩, ?_⟩, ⟨rfl, ⟨rfl, trivial⟩, ?_⟩, ⟨rfl, trivial, ?_⟩, ⟨rfl, trivial, ?_⟩, ⟨rfl, trivial, ?_⟩, ⟨rfl, trivial, ?_⟩, ⟨rfl, ⟨rfl, trivial⟩, ?_⟩, ⟨rfl, ⟨rfl, trivial⟩, ?_⟩, ⟨rfl, trivial, ?_⟩, ⟨rfl, ⟨rfl, trivial⟩, ?_⟩, ⟨rfl, trivial, ?_⟩, ⟨rfl, trivial, ?_⟩, ⟨rfl, ⟨rfl, trivial⟩, ?_⟩, ⟨rfl, trivial, ?_⟩, ⟨rfl, trivial, ?_⟩, ⟨rfl, trivial, ?_⟩, ⟨rfl, trivial, ?_⟩, ⟨rfl, trivial, ?_⟩, trivial⟩
          · intro w55 hE
            intro R
            refine WL.move rfl rfl ?_
            exact WL.done ⟨_, rfl, rfl, rfl⟩
          · intro w56 hE
            intro R
            refine WL.fieldA (off := 1) Try.fla91_1 rfl rfl ?_
            exact WL.done ⟨_, rfl, rfl, rfl⟩
          · intro w57 hE
            have hE := hE rfl
            have hB := ext_trans hB hE
            have hVgn := hVgn.ext hE
            rintro _ rfl
            intro R
            refine WL.load Try.underlying2 rfl rfl (hVgn.vcells 1 _ rfl) rfl ?_
            exact WL.done ⟨_, rfl, ext_refl _, rfl⟩
          · intro w58 hE
            have hE := hE rfl
            have hB := ext_trans hB hE
            rintro _ rfl
            intro R
            refine WL.call Try.func102 rfl Try.nm102 rfl rfl (size_m (q + x / y * s) hsg rfl (by omega)) ?_
            rintro _ w59 ⟨rfl, hGw59⟩
            have hB := ext_trans hB hGw59
            exact WL.done ⟨_, rfl, hGw59, rfl⟩
          · intro w60 hE
            rintro _ rfl
            rintro _ rfl
            intro R
            refine WL.lssD rfl rfl rfl ?_
            exact WL.done ⟨_, rfl, rfl, (show Value.bool (decide (((x % y : Nat) : Int) < ((q + x / y * s : Nat) : Int))) = Value.bool false from congrArg Value.bool (decide_eq_false (by omega)))⟩
          · intro w61 hE
            rintro _ rfl
            intro R
            refine WL.move rfl rfl ?_
            exact WL.done ⟨_, rfl, rfl, rfl⟩
          · intro w62 hE
            rintro _ rfl
            intro R
            refine WL.take rfl ?_
            refine WL.move rfl rfl ?_
            exact WL.done ⟨_, rfl, rfl, rfl⟩
          · intro w63 hE
            rintro _ rfl
            intro R
            refine WL.take rfl ?_
            refine WL.move rfl rfl ?_
            exact WL.done ⟨_, rfl, rfl, rfl⟩
          · intro w64 hE
            rintro _ rfl
            rintro _ rfl
            rintro _ rfl
            intro R
            refine WL.take rfl ?_
            refine WL.sub (r := ((y - (x % y) : Nat) : Int)) rfl rfl (wi64 (by omega) (by omega) (by omega)) rfl ?_
            exact WL.done ⟨_, rfl, rfl, rfl⟩
          · intro w65 hE
            rintro _ rfl
            intro R
            refine WL.take rfl ?_
            refine WL.fieldA (off := 1) Try.fla91_1 rfl rfl ?_
            exact WL.done ⟨_, rfl, rfl, rfl⟩
          · intro w66 hE
            have hE := hE rfl
            have hB := ext_trans hB hE
            have hVgn := hVgn.ext hE
            rintro _ rfl
            rintro _ rfl
            intro R
            refine WL.take rfl ?_
            refine WL.load Try.underlying2 rfl rfl (hVgn.vcells 1 _ rfl) rfl ?_
            exact WL.done ⟨_, rfl, ext_refl _, rfl⟩
          · intro w67 hE
            have hE := hE rfl
            have hB := ext_trans hB hE
            rintro _ rfl
            rintro _ rfl
            intro R
            refine WL.take rfl ?_
            refine WL.call Try.func102 rfl Try.nm102 rfl rfl (size_m (q + x / y * s) hsg rfl (by omega)) ?_
            rintro _ w68 ⟨rfl, hGw68⟩
            have hB := ext_trans hB hGw68
            exact WL.done ⟨_, rfl, hGw68, rfl⟩
          · intro w69 hE
            rintro _ rfl
            intro R
            refine WL.take rfl ?_
            refine WL.fieldA (off := 1) Try.fla91_1 rfl rfl ?_
            exact WL.done ⟨_, rfl, rfl, rfl⟩
          · intro w70 hE
            have hE := hE rfl
            have hB := ext_trans hB hE
            have hVgb := hVgb.ext hE
            rintro _ rfl
            rintro _ rfl
            intro R
            refine WL.take rfl ?_
            refine WL.load Try.underlying2 rfl rfl (hVgb.vcells 1 _ rfl) rfl ?_
            exact WL.done ⟨_, rfl, ext_refl _, rfl⟩
          · intro w71 hE
            have hE := hE rfl
            have hB := ext_trans hB hE
            rintro _ rfl
            rintro _ rfl
            intro R
            refine WL.take rfl ?_
            refine WL.call Try.func102 rfl Try.nm102 rfl rfl (size_p s hsg rfl (by omega)) ?_
            rintro _ w72 ⟨rfl, hGw72⟩
            have hB := ext_trans hB hGw72
            exact WL.done ⟨_, rfl, hGw72, rfl⟩
          · intro w73 hE
            rintro _ rfl
            rintro _ rfl
            rintro _ rfl
            intro R
            refine WL.take rfl ?_
            refine WL.add (r := (((q + x / y * s) + s : Nat) : Int)) rfl rfl (wi64 (by omega) (by omega) (by omega)) rfl ?_
            exact WL.done ⟨_, rfl, rfl, rfl⟩
          · intro w74 hE
            rintro _ rfl
            rintro _ rfl
            rintro _ rfl
            intro R
            refine WL.take rfl ?_
            refine WL.lssD rfl rfl rfl ?_
            exact WL.done ⟨_, rfl, rfl, rfl⟩
          · intro w75 hE
            rintro _ rfl
            rintro _ rfl
            intro R
            refine WL.pick rfl rfl rfl ?_
            exact WL.done ⟨_, rfl, rfl, rfl⟩
        · intro vals w76 hT hVs
          rw [if_neg (by decide)] at hT
          have hB := ext_trans hB hT
          have hVga := hVga.ext hT
          have hVgb := hVgb.ext hT
          have hVgn := hVgn.ext hT
          have hv0 : vals 0 = _ := hVs 0 (by decide) (by decide)
          have hv1 : vals 1 = _ := hVs 1 (by decide) (by decide)
          have hv2 : vals 2 = _ := hVs 2 (by decide) (by decide)
          have hv3 : vals 3 = _ := hVs 3 (by decide) (by decide)
          have hv4 : vals 4 = _ := hVs 4 (by decide) (by decide)
          have hv5 : vals 5 = _ := hVs 5 (by decide) (by decide)
          have hv6 : vals 6 = _ := hVs 6 (by decide) (by decide)
          have hv7 : vals 7 = _ := hVs 7 (by decide) (by decide)
          have hv8 : vals 8 = _ := hVs 8 (by decide) (by decide)
          have hv9 : vals 9 = _ := hVs 9 (by decide) (by decide)
          have hv10 : vals 10 = _ := hVs 10 (by decide) (by decide)
          have hv11 : vals 11 = _ := hVs 11 (by decide) (by decide)
          have hv12 : vals 12 = _ := hVs 12 (by decide) (by decide)
          have hv13 : vals 13 = _ := hVs 13 (by decide) (by decide)
          have hv14 : vals 14 = _ := hVs 14 (by decide) (by decide)
          have hv15 : vals 15 = _ := hVs 15 (by decide) (by decide)
          have hv16 : vals 16 = _ := hVs 16 (by decide) (by decide)
          have hv17 : vals 17 = _ := hVs 17 (by decide) (by decide)
          rw [show (List.filterMap (fun i => Option.map (fun t => (t, vals i)) (dstAt _ i)) (List.range _)) = [(36, .int .i64 ((x % y : Nat) : Int)), (37, .pointer (some ((⟨gn, 0, none⟩ : Addr).add 1))), (38, .int .i64 (-(e * ((q + x / y * s : Nat) : Int)))), (39, .int .i64 ((q + x / y * s : Nat) : Int)), (40, .bool false), (41, .bool false), (42, .int .i64 ((y : Nat) : Int)), (43, .int .i64 ((x % y : Nat) : Int)), (44, .int .i64 ((y - (x % y) : Nat) : Int)), (45, .pointer (some ((⟨gn, 0, none⟩ : Addr).add 1))), (46, .int .i64 (-(e * ((q + x / y * s : Nat) : Int)))), (47, .int .i64 ((q + x / y * s : Nat) : Int)), (48, .pointer (some ((⟨gb, 0, none⟩ : Addr).add 1))), (49, .int .i64 (e * (s : Int))), (50, .int .i64 ((s : Nat) : Int)), (51, .int .i64 (((q + x / y * s) + s : Nat) : Int)), (52, .bool (decide (((y - (x % y) : Nat) : Int) < (((q + x / y * s) + s : Nat) : Int)))), (53, .bool (decide (((y - (x % y) : Nat) : Int) < (((q + x / y * s) + s : Nat) : Int))))] from by
            show [(36, vals 0), (37, vals 1), (38, vals 2), (39, vals 3), (40, vals 4), (41, vals 5), (42, vals 6), (43, vals 7), (44, vals 8), (45, vals 9), (46, vals 10), (47, vals 11), (48, vals 12), (49, vals 13), (50, vals 14), (51, vals 15), (52, vals 16), (53, vals 17)] = _
            rw [hv0, hv1, hv2, hv3, hv4, hv5, hv6, hv7, hv8, hv9, hv10, hv11, hv12, hv13, hv14, hv15, hv16, hv17]]
          refine W.cond2 rfl (fun c77 => ?_) (fun c77 => ?_)
          · have c77 := of_decide_eq_true c77
            refine W.exit ?_
            refine W.seq ?_
            refine W.drawA Try.mixed ?_
            intro w78 hGw78 hhp
            have hB := ext_trans hB hGw78
            have hVga := hVga.ext hGw78
            have hVgb := hVgb.ext hGw78
            refine WA.step [0, 1] (by decide +kernel) rfl ?_
            intro iQ hQ
            simp only [List.mem_cons, List.not_mem_nil, or_false] at hQ
            rcases hQ with rfl | rfl
            · refine ⟨_, rfl, ?_⟩
              refine WL.loadV (cs := [.int .i64 (e * (p : Int)), .int .i64 (-(e * (q : Int)))]) Try.el91 Try.agg91 rfl rfl hVga.vcells rfl ?_
              refine WL.done ?_
              refine WA.step [1, 2] (by decide +kernel) rfl ?_
              intro iQ hQ
              simp only [List.mem_cons, List.not_mem_nil, or_false] at hQ
              rcases hQ with rfl | rfl
              · refine ⟨_, rfl, ?_⟩
                refine WL.loadV (cs := [.int .i64 (-(e * (r : Int))), .int .i64 (e * (s : Int))]) Try.el91 Try.agg91 rfl rfl hVgb.vcells rfl ?_
                refine WL.done ?_
                refine WA.step [2] (by decide +kernel) rfl ?_
                intro iQ hQ
                simp only [List.mem_cons, List.not_mem_nil, or_false] at hQ
                obtain rfl := hQ
                · refine ⟨_, rfl, ?_⟩
                  refine WL.storeV Try.el91 rfl rfl rfl rfl hVga ?_
                  have hOld80 := hVga
                  intro w79 hVga hGw79
                  change Own _ _ _ _ _ _ _ [.int .i64 (e * (p : Int)), .int .i64 (-(e * (q : Int)))] at hVga
                  have hB := ext_own hB hGw79 (fun g hg => (hOld80.bl_ge g hg).1)
                  have hVgb := hVgb.grown hGw79 (apart (by omega))
                  refine WL.done ?_
                  refine WA.step [3] (by decide +kernel) rfl ?_
                  intro iQ hQ
                  simp only [List.mem_cons, List.not_mem_nil, or_false] at hQ
                  obtain rfl := hQ
                  · refine ⟨_, rfl, ?_⟩
                    refine WL.storeV Try.el91 rfl rfl rfl rfl hVgb ?_
                    have hOld82 := hVgb
                    intro w81 hVgb hGw81
                    change Own _ _ _ _ _ _ _ [.int .i64 (-(e * (r : Int))), .int .i64 (e * (s : Int))] at hVgb
                    have hB := ext_own hB hGw81 (fun g hg => (hOld82.bl_ge g hg).1)
                    have hVga := hVga.grown hGw81 (apart (by omega))
                    refine WL.done ?_
                    refine WA.done (by decide +kernel) ?_
                    refine W.ret ?_
                    refine ⟨[.agg #[.int .i64 (e * (p : Int)), .int .i64 (-(e * (q : Int)))], .agg #[.int .i64 (-(e * (r : Int))), .int .i64 (e * (s : Int))]], ⟨_, _, _, rfl, rfl, run_loadV (cs := [.int .i64 (e * (p : Int)), .int .i64 (-(e * (q : Int)))]) Try.el91 Try.agg91 rfl hVga.vcells, ⟨_, _, _, rfl, rfl, run_loadV (cs := [.int .i64 (-(e * (r : Int))), .int .i64 (e * (s : Int))]) Try.el91 Try.agg91 rfl hVgb.vcells, rfl⟩⟩, ?_⟩
                    exact ⟨e, p, q, r, s, x, y, R0, R1, rfl, hB, hL⟩
              · refine ⟨_, rfl, ?_⟩
                refine WL.storeV Try.el91 rfl rfl rfl rfl hVga ?_
                have hOld84 := hVga
                intro w83 hVga hGw83
                change Own _ _ _ _ _ _ _ [.int .i64 (e * (p : Int)), .int .i64 (-(e * (q : Int)))] at hVga
                have hB := ext_own hB hGw83 (fun g hg => (hOld84.bl_ge g hg).1)
                have hVgb := hVgb.grown hGw83 (apart (by omega))
                refine WL.done ?_
                refine WA.step [1] (by decide +kernel) rfl ?_
                intro iQ hQ
                simp only [List.mem_cons, List.not_mem_nil, or_false] at hQ
                obtain rfl := hQ
                · refine ⟨_, rfl, ?_⟩
                  refine WL.loadV (cs := [.int .i64 (-(e * (r : Int))), .int .i64 (e * (s : Int))]) Try.el91 Try.agg91 rfl rfl hVgb.vcells rfl ?_
                  refine WL.done ?_
                  refine WA.step [3] (by decide +kernel) rfl ?_
                  intro iQ hQ
                  simp only [List.mem_cons, List.not_mem_nil, or_false] at hQ
                  obtain rfl := hQ
                  · refine ⟨_, rfl, ?_⟩
                    refine WL.storeV Try.el91 rfl rfl rfl rfl hVgb ?_
                    have hOld86 := hVgb
                    intro w85 hVgb hGw85
                    change Own _ _ _ _ _ _ _ [.int .i64 (-(e * (r : Int))), .int .i64 (e * (s : Int))] at hVgb
                    have hB := ext_own hB hGw85 (fun g hg => (hOld86.bl_ge g hg).1)
                    have hVga := hVga.grown hGw85 (apart (by omega))
                    refine WL.done ?_
                    refine WA.done (by decide +kernel) ?_
                    refine W.ret ?_
                    refine ⟨[.agg #[.int .i64 (e * (p : Int)), .int .i64 (-(e * (q : Int)))], .agg #[.int .i64 (-(e * (r : Int))), .int .i64 (e * (s : Int))]], ⟨_, _, _, rfl, rfl, run_loadV (cs := [.int .i64 (e * (p : Int)), .int .i64 (-(e * (q : Int)))]) Try.el91 Try.agg91 rfl hVga.vcells, ⟨_, _, _, rfl, rfl, run_loadV (cs := [.int .i64 (-(e * (r : Int))), .int .i64 (e * (s : Int))]) Try.el91 Try.agg91 rfl hVgb.vcells, rfl⟩⟩, ?_⟩
                    exact ⟨e, p, q, r, s, x, y, R0, R1, rfl, hB, hL⟩
            · refine ⟨_, rfl, ?_⟩
              refine WL.loadV (cs := [.int .i64 (-(e * (r : Int))), .int .i64 (e * (s : Int))]) Try.el91 Try.agg91 rfl rfl hVgb.vcells rfl ?_
              refine WL.done ?_
              refine WA.step [0] (by decide +kernel) rfl ?_
              intro iQ hQ
              simp only [List.mem_cons, List.not_mem_nil, or_false] at hQ
              obtain rfl := hQ
              · refine ⟨_, rfl, ?_⟩
                refine WL.loadV (cs := [.int .i64 (e * (p : Int)), .int .i64 (-(e * (q : Int)))]) Try.el91 Try.agg91 rfl rfl hVga.vcells rfl ?_
                refine WL.done ?_
                refine WA.step [2] (by decide +kernel) rfl ?_
                intro iQ hQ
                simp only [List.mem_cons, List.not_mem_nil, or_false] at hQ
                obtain rfl := hQ
                · refine ⟨_, rfl, ?_⟩
                  refine WL.storeV Try.el91 rfl rfl rfl rfl hVga ?_
                  have hOld88 := hVga
                  intro w87 hVga hGw87
                  change Own _ _ _ _ _ _ _ [.int .i64 (e * (p : Int)), .int .i64 (-(e * (q : Int)))] at hVga
                  have hB := ext_own hB hGw87 (fun g hg => (hOld88.bl_ge g hg).1)
                  have hVgb := hVgb.grown hGw87 (apart (by omega))
                  refine WL.done ?_
                  refine WA.step [3] (by decide +kernel) rfl ?_
                  intro iQ hQ
                  simp only [List.mem_cons, List.not_mem_nil, or_false] at hQ
                  obtain rfl := hQ
                  · refine ⟨_, rfl, ?_⟩
                    refine WL.storeV Try.el91 rfl rfl rfl rfl hVgb ?_
                    have hOld90 := hVgb
                    intro w89 hVgb hGw89
                    change Own _ _ _ _ _ _ _ [.int .i64 (-(e * (r : Int))), .int .i64 (e * (s : Int))] at hVgb
                    have hB := ext_own hB hGw89 (fun g hg => (hOld90.bl_ge g hg).1)
                    have hVga := hVga.grown hGw89 (apart (by omega))
                    refine WL.done ?_
                    refine WA.done (by decide +kernel) ?_
                    refine W.ret ?_
                    refine ⟨[.agg #[.int .i64 (e * (p : Int)), .int .i64 (-(e * (q : Int)))], .agg #[.int .i64 (-(e * (r : Int))), .int .i64 (e * (s : Int))]], ⟨_, _, _, rfl, rfl, run_loadV (cs := [.int .i64 (e * (p : Int)), .int .i64 (-(e * (q : Int)))]) Try.el91 Try.agg91 rfl hVga.vcells, ⟨_, _, _, rfl, rfl, run_loadV (cs := [.int .i64 (-(e * (r : Int))), .int .i64 (e * (s : Int))]) Try.el91 Try.agg91 rfl hVgb.vcells, rfl⟩⟩, ?_⟩
                    exact ⟨e, p, q, r, s, x, y, R0, R1, rfl, hB, hL⟩
          · have c77 := of_decide_eq_false c77
            refine W.skip ?_
            refine W.seq ?_
            refine W.drawA Try.mixed ?_
            intro w91 hGw91 hhp
            have hB := ext_trans hB hGw91
            have hVga := hVga.ext hGw91
            have hVgb := hVgb.ext hGw91
            have hVgn := hVgn.ext hGw91
            refine WA.step [0, 1] (by decide +kernel) rfl ?_
            intro iQ hQ
            simp only [List.mem_cons, List.not_mem_nil, or_false] at hQ
            rcases hQ with rfl | rfl
            · refine ⟨_, rfl, ?_⟩
              refine WL.loadV (cs := [.int .i64 (-(e * (r : Int))), .int .i64 (e * (s : Int))]) Try.el91 Try.agg91 rfl rfl hVgb.vcells rfl ?_
              refine WL.done ?_
              refine WA.step [1, 2] (by decide +kernel) rfl ?_
              intro iQ hQ
              simp only [List.mem_cons, List.not_mem_nil, or_false] at hQ
              rcases hQ with rfl | rfl
              · refine ⟨_, rfl, ?_⟩
                refine WL.loadV (cs := [.int .i64 (e * ((p + x / y * r : Nat) : Int)), .int .i64 (-(e * ((q + x / y * s : Nat) : Int)))]) Try.el91 Try.agg91 rfl rfl hVgn.vcells rfl ?_
                refine WL.done ?_
                refine WA.step [2] (by decide +kernel) rfl ?_
                intro iQ hQ
                simp only [List.mem_cons, List.not_mem_nil, or_false] at hQ
                obtain rfl := hQ
                · refine ⟨_, rfl, ?_⟩
                  refine WL.storeV Try.el91 rfl rfl rfl rfl hVga ?_
                  have hOld93 := hVga
                  intro w92 hVga hGw92
                  change Own _ _ _ _ _ _ _ [.int .i64 (-(e * (r : Int))), .int .i64 (e * (s : Int))] at hVga
                  have hB := ext_own hB hGw92 (fun g hg => (hOld93.bl_ge g hg).1)
                  have hVgb := hVgb.grown hGw92 (apart (by omega))
                  refine WL.done ?_
                  refine WA.step [3] (by decide +kernel) rfl ?_
                  intro iQ hQ
                  simp only [List.mem_cons, List.not_mem_nil, or_false] at hQ
                  obtain rfl := hQ
                  · refine ⟨_, rfl, ?_⟩
                    refine WL.storeV Try.el91 rfl rfl rfl rfl hVgb ?_
                    have hOld95 := hVgb
                    intro w94 hVgb hGw94
                    change Own _ _ _ _ _ _ _ [.int .i64 (e * ((p + x / y * r : Nat) : Int)), .int .i64 (-(e * ((q + x / y * s : Nat) : Int)))] at hVgb
                    have hB := ext_own hB hGw94 (fun g hg => (hOld95.bl_ge g hg).1)
                    have hVga := hVga.grown hGw94 (apart (by omega))
                    refine WL.done ?_
                    refine WA.done (by decide +kernel) ?_
                    refine W.region ?_
                    refine WL.move rfl rfl ?_
                    refine WL.move rfl rfl ?_
                    refine WL.assign rfl rfl ?_
                    refine WL.assign rfl rfl ?_
                    refine WL.done ?_
                    refine ⟨(-e, r, s, p + x / y * r, q + x / y * s, y, x % y, R1, R0 - x / y * R1), ⟨iv (by omega), iv (by omega), rfl, rfl, trivial⟩, by (dsimp only; exact Nat.mod_lt _ (by omega)), ?_⟩
                    exact ⟨hB, hL.step hX hD hBA (by omega) (by omega) (by omega), by rw [Int.neg_mul, Int.neg_mul, Int.neg_neg]; exact hVga, by rw [Int.neg_mul, Int.neg_mul, Int.neg_neg]; exact hVgb⟩
              · refine ⟨_, rfl, ?_⟩
                refine WL.storeV Try.el91 rfl rfl rfl rfl hVga ?_
                have hOld97 := hVga
                intro w96 hVga hGw96
                change Own _ _ _ _ _ _ _ [.int .i64 (-(e * (r : Int))), .int .i64 (e * (s : Int))] at hVga
                have hB := ext_own hB hGw96 (fun g hg => (hOld97.bl_ge g hg).1)
                have hVgb := hVgb.grown hGw96 (apart (by omega))
                have hVgn := hVgn.grown hGw96 (apart (by omega))
                refine WL.done ?_
                refine WA.step [1] (by decide +kernel) rfl ?_
                intro iQ hQ
                simp only [List.mem_cons, List.not_mem_nil, or_false] at hQ
                obtain rfl := hQ
                · refine ⟨_, rfl, ?_⟩
                  refine WL.loadV (cs := [.int .i64 (e * ((p + x / y * r : Nat) : Int)), .int .i64 (-(e * ((q + x / y * s : Nat) : Int)))]) Try.el91 Try.agg91 rfl rfl hVgn.vcells rfl ?_
                  refine WL.done ?_
                  refine WA.step [3] (by decide +kernel) rfl ?_
                  intro iQ hQ
                  simp only [List.mem_cons, List.not_mem_nil, or_false] at hQ
                  obtain rfl := hQ
                  · refine ⟨_, rfl, ?_⟩
                    refine WL.storeV Try.el91 rfl rfl rfl rfl hVgb ?_
                    have hOld99 := hVgb
                    intro w98 hVgb hGw98
                    change Own _ _ _ _ _ _ _ [.int .i64 (e * ((p + x / y * r : Nat) : Int)), .int .i64 (-(e * ((q + x / y * s : Nat) : Int)))] at hVgb
                    have hB := ext_own hB hGw98 (fun g hg => (hOld99.bl_ge g hg).1)
                    have hVga := hVga.grown hGw98 (apart (by omega))
                    refine WL.done ?_
                    refine WA.done (by decide +kernel) ?_
                    refine W.region ?_
                    refine WL.move rfl rfl ?_
                    refine WL.move rfl rfl ?_
                    refine WL.assign rfl rfl ?_
                    refine WL.assign rfl rfl ?_
                    refine WL.done ?_
                    refine ⟨(-e, r, s, p + x / y * r, q + x / y * s, y, x % y, R1, R0 - x / y * R1), ⟨iv (by omega), iv (by omega), rfl, rfl, trivial⟩, by (dsimp only; exact Nat.mod_lt _ (by omega)), ?_⟩
                    exact ⟨hB, hL.step hX hD hBA (by omega) (by omega) (by omega), by rw [Int.neg_mul, Int.neg_mul, Int.neg_neg]; exact hVga, by rw [Int.neg_mul, Int.neg_mul, Int.neg_neg]; exact hVgb⟩
            · refine ⟨_, rfl, ?_⟩
              refine WL.loadV (cs := [.int .i64 (e * ((p + x / y * r : Nat) : Int)), .int .i64 (-(e * ((q + x / y * s : Nat) : Int)))]) Try.el91 Try.agg91 rfl rfl hVgn.vcells rfl ?_
              refine WL.done ?_
              refine WA.step [0] (by decide +kernel) rfl ?_
              intro iQ hQ
              simp only [List.mem_cons, List.not_mem_nil, or_false] at hQ
              obtain rfl := hQ
              · refine ⟨_, rfl, ?_⟩
                refine WL.loadV (cs := [.int .i64 (-(e * (r : Int))), .int .i64 (e * (s : Int))]) Try.el91 Try.agg91 rfl rfl hVgb.vcells rfl ?_
                refine WL.done ?_
                refine WA.step [2] (by decide +kernel) rfl ?_
                intro iQ hQ
                simp only [List.mem_cons, List.not_mem_nil, or_false] at hQ
                obtain rfl := hQ
                · refine ⟨_, rfl, ?_⟩
                  refine WL.storeV Try.el91 rfl rfl rfl rfl hVga ?_
                  have hOld101 := hVga
                  intro w100 hVga hGw100
                  change Own _ _ _ _ _ _ _ [.int .i64 (-(e * (r : Int))), .int .i64 (e * (s : Int))] at hVga
                  have hB := ext_own hB hGw100 (fun g hg => (hOld101.bl_ge g hg).1)
                  have hVgb := hVgb.grown hGw100 (apart (by omega))
                  refine WL.done ?_
                  refine WA.step [3] (by decide +kernel) rfl ?_
                  intro iQ hQ
                  simp only [List.mem_cons, List.not_mem_nil, or_false] at hQ
                  obtain rfl := hQ
                  · refine ⟨_, rfl, ?_⟩
                    refine WL.storeV Try.el91 rfl rfl rfl rfl hVgb ?_
                    have hOld103 := hVgb
                    intro w102 hVgb hGw102
                    change Own _ _ _ _ _ _ _ [.int .i64 (e * ((p + x / y * r : Nat) : Int)), .int .i64 (-(e * ((q + x / y * s : Nat) : Int)))] at hVgb
                    have hB := ext_own hB hGw102 (fun g hg => (hOld103.bl_ge g hg).1)
                    have hVga := hVga.grown hGw102 (apart (by omega))
                    refine WL.done ?_
                    refine WA.done (by decide +kernel) ?_
                    refine W.region ?_
                    refine WL.move rfl rfl ?_
                    refine WL.move rfl rfl ?_
                    refine WL.assign rfl rfl ?_
                    refine WL.assign rfl rfl ?_
                    refine WL.done ?_
                    refine ⟨(-e, r, s, p + x / y * r, q + x / y * s, y, x % y, R1, R0 - x / y * R1), ⟨iv (by omega), iv (by omega), rfl, rfl, trivial⟩, by (dsimp only; exact Nat.mod_lt _ (by omega)), ?_⟩
                    exact ⟨hB, hL.step hX hD hBA (by omega) (by omega) (by omega), by rw [Int.neg_mul, Int.neg_mul, Int.neg_neg]; exact hVga, by rw [Int.neg_mul, Int.neg_mul, Int.neg_neg]; exact hVgb⟩
    · refine WL.done ?_
      refine W.condF rfl ?_
      refine W.exit ?_
      refine W.seq ?_
      refine W.drawA Try.mixed ?_
      intro w104 hGw104 hhp
      have hB := ext_trans hB hGw104
      have hVga := hVga.ext hGw104
      have hVgb := hVgb.ext hGw104
      refine WA.step [0, 1] (by decide +kernel) rfl ?_
      intro iQ hQ
      simp only [List.mem_cons, List.not_mem_nil, or_false] at hQ
      rcases hQ with rfl | rfl
      · refine ⟨_, rfl, ?_⟩
        refine WL.loadV (cs := [.int .i64 (e * (p : Int)), .int .i64 (-(e * (q : Int)))]) Try.el91 Try.agg91 rfl rfl hVga.vcells rfl ?_
        refine WL.done ?_
        refine WA.step [1, 2] (by decide +kernel) rfl ?_
        intro iQ hQ
        simp only [List.mem_cons, List.not_mem_nil, or_false] at hQ
        rcases hQ with rfl | rfl
        · refine ⟨_, rfl, ?_⟩
          refine WL.loadV (cs := [.int .i64 (-(e * (r : Int))), .int .i64 (e * (s : Int))]) Try.el91 Try.agg91 rfl rfl hVgb.vcells rfl ?_
          refine WL.done ?_
          refine WA.step [2] (by decide +kernel) rfl ?_
          intro iQ hQ
          simp only [List.mem_cons, List.not_mem_nil, or_false] at hQ
          obtain rfl := hQ
          · refine ⟨_, rfl, ?_⟩
            refine WL.storeV Try.el91 rfl rfl rfl rfl hVga ?_
            have hOld106 := hVga
            intro w105 hVga hGw105
            change Own _ _ _ _ _ _ _ [.int .i64 (e * (p : Int)), .int .i64 (-(e * (q : Int)))] at hVga
            have hB := ext_own hB hGw105 (fun g hg => (hOld106.bl_ge g hg).1)
            have hVgb := hVgb.grown hGw105 (apart (by omega))
            refine WL.done ?_
            refine WA.step [3] (by decide +kernel) rfl ?_
            intro iQ hQ
            simp only [List.mem_cons, List.not_mem_nil, or_false] at hQ
            obtain rfl := hQ
            · refine ⟨_, rfl, ?_⟩
              refine WL.storeV Try.el91 rfl rfl rfl rfl hVgb ?_
              have hOld108 := hVgb
              intro w107 hVgb hGw107
              change Own _ _ _ _ _ _ _ [.int .i64 (-(e * (r : Int))), .int .i64 (e * (s : Int))] at hVgb
              have hB := ext_own hB hGw107 (fun g hg => (hOld108.bl_ge g hg).1)
              have hVga := hVga.grown hGw107 (apart (by omega))
              refine WL.done ?_
              refine WA.done (by decide +kernel) ?_
              refine W.ret ?_
              refine ⟨[.agg #[.int .i64 (e * (p : Int)), .int .i64 (-(e * (q : Int)))], .agg #[.int .i64 (-(e * (r : Int))), .int .i64 (e * (s : Int))]], ⟨_, _, _, rfl, rfl, run_loadV (cs := [.int .i64 (e * (p : Int)), .int .i64 (-(e * (q : Int)))]) Try.el91 Try.agg91 rfl hVga.vcells, ⟨_, _, _, rfl, rfl, run_loadV (cs := [.int .i64 (-(e * (r : Int))), .int .i64 (e * (s : Int))]) Try.el91 Try.agg91 rfl hVgb.vcells, rfl⟩⟩, ?_⟩
              exact ⟨e, p, q, r, s, x, y, R0, R1, rfl, hB, hL⟩
        · refine ⟨_, rfl, ?_⟩
          refine WL.storeV Try.el91 rfl rfl rfl rfl hVga ?_
          have hOld110 := hVga
          intro w109 hVga hGw109
          change Own _ _ _ _ _ _ _ [.int .i64 (e * (p : Int)), .int .i64 (-(e * (q : Int)))] at hVga
          have hB := ext_own hB hGw109 (fun g hg => (hOld110.bl_ge g hg).1)
          have hVgb := hVgb.grown hGw109 (apart (by omega))
          refine WL.done ?_
          refine WA.step [1] (by decide +kernel) rfl ?_
          intro iQ hQ
          simp only [List.mem_cons, List.not_mem_nil, or_false] at hQ
          obtain rfl := hQ
          · refine ⟨_, rfl, ?_⟩
            refine WL.loadV (cs := [.int .i64 (-(e * (r : Int))), .int .i64 (e * (s : Int))]) Try.el91 Try.agg91 rfl rfl hVgb.vcells rfl ?_
            refine WL.done ?_
            refine WA.step [3] (by decide +kernel) rfl ?_
            intro iQ hQ
            simp only [List.mem_cons, List.not_mem_nil, or_false] at hQ
            obtain rfl := hQ
            · refine ⟨_, rfl, ?_⟩
              refine WL.storeV Try.el91 rfl rfl rfl rfl hVgb ?_
              have hOld112 := hVgb
              intro w111 hVgb hGw111
              change Own _ _ _ _ _ _ _ [.int .i64 (-(e * (r : Int))), .int .i64 (e * (s : Int))] at hVgb
              have hB := ext_own hB hGw111 (fun g hg => (hOld112.bl_ge g hg).1)
              have hVga := hVga.grown hGw111 (apart (by omega))
              refine WL.done ?_
              refine WA.done (by decide +kernel) ?_
              refine W.ret ?_
              refine ⟨[.agg #[.int .i64 (e * (p : Int)), .int .i64 (-(e * (q : Int)))], .agg #[.int .i64 (-(e * (r : Int))), .int .i64 (e * (s : Int))]], ⟨_, _, _, rfl, rfl, run_loadV (cs := [.int .i64 (e * (p : Int)), .int .i64 (-(e * (q : Int)))]) Try.el91 Try.agg91 rfl hVga.vcells, ⟨_, _, _, rfl, rfl, run_loadV (cs := [.int .i64 (-(e * (r : Int))), .int .i64 (e * (s : Int))]) Try.el91 Try.agg91 rfl hVgb.vcells, rfl⟩⟩, ?_⟩
              exact ⟨e, p, q, r, s, x, y, R0, R1, rfl, hB, hL⟩
      · refine ⟨_, rfl, ?_⟩
        refine WL.loadV (cs := [.int .i64 (-(e * (r : Int))), .int .i64 (e * (s : Int))]) Try.el91 Try.agg91 rfl rfl hVgb.vcells rfl ?_
        refine WL.done ?_
        refine WA.step [0] (by decide +kernel) rfl ?_
        intro iQ hQ
        simp only [List.mem_cons, List.not_mem_nil, or_false] at hQ
        obtain rfl := hQ
        · refine ⟨_, rfl, ?_⟩
          refine WL.loadV (cs := [.int .i64 (e * (p : Int)), .int .i64 (-(e * (q : Int)))]) Try.el91 Try.agg91 rfl rfl hVga.vcells rfl ?_
          refine WL.done ?_
          refine WA.step [2] (by decide +kernel) rfl ?_
          intro iQ hQ
          simp only [List.mem_cons, List.not_mem_nil, or_false] at hQ
          obtain rfl := hQ
          · refine ⟨_, rfl, ?_⟩
            refine WL.storeV Try.el91 rfl rfl rfl rfl hVga ?_
            have hOld114 := hVga
            intro w113 hVga hGw113
            change Own _ _ _ _ _ _ _ [.int .i64 (e * (p : Int)), .int .i64 (-(e * (q : Int)))] at hVga
            have hB := ext_own hB hGw113 (fun g hg => (hOld114.bl_ge g hg).1)
            have hVgb := hVgb.grown hGw113 (apart (by omega))
            refine WL.done ?_
            refine WA.step [3] (by decide +kernel) rfl ?_
            intro iQ hQ
            simp only [List.mem_cons, List.not_mem_nil, or_false] at hQ
            obtain rfl := hQ
            · refine ⟨_, rfl, ?_⟩
              refine WL.storeV Try.el91 rfl rfl rfl rfl hVgb ?_
              have hOld116 := hVgb
              intro w115 hVgb hGw115
              change Own _ _ _ _ _ _ _ [.int .i64 (-(e * (r : Int))), .int .i64 (e * (s : Int))] at hVgb
              have hB := ext_own hB hGw115 (fun g hg => (hOld116.bl_ge g hg).1)
              have hVga := hVga.grown hGw115 (apart (by omega))
              refine WL.done ?_
              refine WA.done (by decide +kernel) ?_
              refine W.ret ?_
              refine ⟨[.agg #[.int .i64 (e * (p : Int)), .int .i64 (-(e * (q : Int)))], .agg #[.int .i64 (-(e * (r : Int))), .int .i64 (e * (s : Int))]], ⟨_, _, _, rfl, rfl, run_loadV (cs := [.int .i64 (e * (p : Int)), .int .i64 (-(e * (q : Int)))]) Try.el91 Try.agg91 rfl hVga.vcells, ⟨_, _, _, rfl, rfl, run_loadV (cs := [.int .i64 (-(e * (r : Int))), .int .i64 (e * (s : Int))]) Try.el91 Try.agg91 rfl hVgb.vcells, rfl⟩⟩, ?_⟩
              exact ⟨e, p, q, r, s, x, y, R0, R1, rfl, hB, hL⟩

theorem comb_c {w : World} {Ba : Nat} {Aa : Option Addr} {ma ca : Nat} {xa : List Nat} (ha : Rd Ba w 1 Aa ma ca (us xa)) {Bb : Nat} {Ab : Option Addr} {mb cb : Nat} {xb : List Nat} (hb : Rd Bb w 1 Ab mb cb (us xb)) (hLa : Lim xa) (hLb : Lim xb) {pa pb : Int} (hu : Un pa pb) (R : Nat) (hR : (R : Int) = pa * (nv xa : Int) + pb * (nv xb : Int)) (hRa : R ≤ nv xa) (hmb : mb ≤ ma) (hsa : ma ≤ 1073741824) :
    Calls Try.prog 98 #[.slice Aa ma ca, .slice Ab mb cb, .agg #[.int .i64 pa, .int .i64 pb]] w fun e w2 => ∃ v, e = .returned v ∧ (fun v w2 => ∃ A2 m2 c2, v = .slice A2 m2 c2 ∧ w.grownBy w2 none ∧ Own w.heap.size w2 43 1 A2 m2 c2 (us (digs R)) ∧ m2 ≤ ma) v w2 := by
  have ha := ha.norm
  have ha_l := ha.ulen
  have ha_x := ha.max
  simp only [maxLen] at ha_x
  have ha_c := ha.cap
  have hb := hb.norm
  have hb_l := hb.ulen
  have hb_x := hb.max
  simp only [maxLen] at hb_x
  have hb_c := hb.cap
  have ha0 := ha
  have hb0 := hb
  have hB := ext_refl w
  refine calls_of_W (vs := [.slice Aa ma ca, .slice Ab mb cb, .agg #[.int .i64 pa, .int .i64 pb]]) [6] Try.func98 rfl rfl rfl rfl ?_
  refine W.seq ?_
  refine W.region ?_
  refine WL.box Try.el91 rfl rfl rfl ?_
  intro gb w11 hg_gb hVgb hGw11
  change Own _ _ _ _ _ _ _ [.int .i64 pa, .int .i64 pb] at hVgb
  have hVgb := hVgb.low (b' := w.heap.size) hB.size
  have hB := ext_trans hB hGw11
  have ha := ha0.ext hB
  have hb := hb0.ext hB
  refine WL.assign rfl rfl ?_
  refine WL.done ?_
  refine W.seq ?_
  refine W.region ?_
  refine WL.move rfl rfl ?_
  refine WL.len Try.underlying23 rfl rfl ?_
  refine WL.make (w11.heap.size) (ma) Try.underlying23 Try.el43 rfl rfl (by omega) (by omega) (by simp only [maxLen]; omega) (Nat.le_of_eq rfl) rfl ?_
  rintro Ao w12 - ho hGw12
  rw [made_us] at ho
  have hap_ho_gb := ap_new ho (hVgb.bl_ge _ rfl).2
  have ho := ho.low (b' := w.heap.size) hB.size
  have hB := ext_trans hB hGw12
  have ha := ha0.ext hB
  have hb := hb0.ext hB
  have hVgb := hVgb.ext hGw12
  refine WL.assign rfl rfl ?_
  refine WL.done ?_
  refine W.seq ?_
  refine W.region ?_
  refine WL.assign rfl rfl ?_
  refine WL.done ?_
  refine W.seq ?_
  refine W.seq ?_
  refine W.region ?_
  refine WL.move rfl rfl ?_
  refine WL.len Try.underlying23 rfl rfl ?_
  refine WL.move rfl rfl ?_
  refine WL.done ?_
  refine W.block ?_
  refine W.loop (σ := Nat × Int × List Nat) (fun s w1 => match s with | (i, c, zs) => w.grownBy w1 none ∧ i ≤ ma ∧ (-2147483647 ≤ c ∧ c ≤ 2147483647) ∧ Lim zs ∧ zs.length = ma ∧ (∀ t, i ≤ t → zs.getD t 0 = 0) ∧ (nv zs : Int) + 4294967296 ^ i * c = pa * (nv (xa.take i) : Int) + pb * (nv (xb.take i) : Int) ∧ Own w.heap.size w1 91 2 (some ⟨gb, 0, none⟩) 1 1 [.int .i64 pa, .int .i64 pb] ∧ Own w.heap.size w1 43 1 Ao ma ma (us zs)) (fun s => match s with | (i, c, zs) => [(1, .slice Ab mb cb), (5, .pointer (some ⟨gb, 0, none⟩)), (7, .slice Ao ma ma), (8, .int .i64 c), (14, .slice Aa ma ca), (15, .int .i64 ((ma : Nat) : Int)), (16, .int .i64 ((i : Nat) : Int))]) (fun s => match s with | (i, c, zs) => ma - i) (0, 0, List.replicate ma 0) ?_ ?_ ?_
  · exact ⟨hB, by omega, by omega, Lim.zeros _, by simp, fun t _ => zeros_getD _ _, by simp [nv_zeros], hVgb, ho⟩
  · exact ⟨rfl, rfl, rfl, iv (by omega), rfl, iv (by omega), iv (by omega), trivial⟩
  · rintro ⟨i, c, zs⟩ w13 ⟨hB, hi, hc, hLz, hlz, h0z, heq, hVgb, ho⟩
    have ha := ha0.ext hB
    have hb := hb0.ext hB
    have hxa := hLa.getD i
    have hxb := hLb.getD i
    obtain ⟨hu1, hu2, hu3⟩ := un_room hxa hxb hu
    refine W.seq ?_
    refine W.region ?_
    refine WL.lss rfl rfl rfl (fun c14 => ?_) (fun c14 => ?_)
    · refine WL.done ?_
      refine W.seq ?_
      refine W.condT rfl ?_
      refine W.skip ?_
      refine W.seq ?_
      refine W.block ?_
      refine W.seq ?_
      refine W.region ?_
      refine WL.move rfl rfl ?_
      refine WL.index1 (i) Try.underlying23 Try.el43 rfl rfl (by omega) (by omega) ha rfl ?_
      refine WL.load Try.underlying43 rfl rfl (Rd.at_ ha (us_at (by omega))) rfl ?_
      refine WL.assign rfl rfl ?_
      refine WL.assign rfl rfl ?_
      refine WL.done ?_
      refine W.seq ?_
      refine W.drawT 14 [⟨[], [8], true⟩, ⟨[], [10], true⟩, ⟨[1], [], true⟩, ⟨[], [5], true⟩, ⟨[3], [], false⟩, ⟨[2, 4], [], true⟩, ⟨[], [1], true⟩, ⟨[], [9], true⟩, ⟨[6, 7], [], false⟩, ⟨[8], [], true⟩, ⟨[], [5], true⟩, ⟨[10], [], false⟩, ⟨[9, 11], [], true⟩, ⟨[5, 12], [], true⟩] [[(8, .int .i64 c)], [(10, .int .u32 ((xa.getD i 0 : Nat) : Int))], [], [(5, .pointer (some ⟨gb, 0, none⟩))], [], [], [(1, .slice Ab mb cb)], [(9, .int .i64 ((i : Nat) : Int))], [], [], [(5, .pointer (some ⟨gb, 0, none⟩))], [], [], []] (fun iQ => [fun v wQ => v = .int .i64 c, fun v wQ => v = .int .u32 ((xa.getD i 0 : Nat) : Int), fun v wQ => v = .int .i64 ((xa.getD i 0 : Nat) : Int), fun v wQ => v = .pointer (some ((⟨gb, 0, none⟩ : Addr).add 0)), fun v wQ => v = .int .i64 pa, fun v wQ => v = .int .i64 (((xa.getD i 0 : Nat) : Int) * pa), fun v wQ => v = .slice Ab mb cb, fun v wQ => v = .int .i64 ((i : Nat) : Int), fun v wQ => v = .int .u32 ((xb.getD i 0 : Nat) : Int), fun v wQ => v = .int .i64 ((xb.getD i 0 : Nat) : Int), fun v wQ => v = .pointer (some ((⟨gb, 0, none⟩ : Addr).add 1)), fun v wQ => v = .int .i64 pb, fun v wQ => v = .int .i64 (((xb.getD i 0 : Nat) : Int) * pb), fun v wQ => v = .int .i64 ((((xa.getD i 0 : Nat) : Int) * pa) + (((xb.getD i 0 : Nat) : Int) * pb))].getD iQ (fun _ _ => True)) Try.mixed (by kernel_rfl) ?_ ?_ ?_
      · refine Vs_monoT _ ?_
        intro VQ hVQ vQ wQ1 wQ2 hQ1 hQ2
        simp only [List.mem_cons, List.not_mem_nil, or_false] at hVQ
        rcases hVQ with rfl | rfl | rfl | rfl | rfl | rfl | rfl | rfl | rfl | rfl | rfl | rfl | rfl | rfl
        · exact hQ1
        · exact hQ1
        · exact hQ1
        · exact hQ1
        · exact hQ1
        · exact hQ1
        · exact hQ1
        · exact hQ1
        · exact hQ1
        · exact hQ1
        · exact hQ1
        · exact hQ1
        · exact hQ1
        · exact hQ1
      · refine ⟨⟨rfl, ⟨rfl, trivial⟩, ?_⟩, ⟨rfl, ⟨rfl, trivial⟩, ?_⟩, ⟨rfl, trivial, ?_⟩, ⟨rfl, ⟨rfl, trivial⟩, ?_⟩, ⟨rfl, trivial, ?_⟩, ⟨rfl, trivial, ?_⟩, ⟨rfl, ⟨rfl, trivial⟩, ?_⟩, ⟨rfl, ⟨rfl, trivial⟩, ?_⟩, ⟨rfl, trivial, ?_⟩, ⟨rfl, trivial, ?_⟩, ⟨rfl, ⟨rfl, trivial⟩, ?_⟩, ⟨rfl, trivial, ?_⟩, ⟨rfl, trivial, ?_⟩, ⟨rfl, trivial, ?_⟩, trivial⟩
        · intro w15 hE
          intro R
          refine WL.move rfl rfl ?_
          exact WL.done ⟨_, rfl, rfl, rfl⟩
        · intro w16 hE
          intro R
          refine WL.move rfl rfl ?_
          exact WL.done ⟨_, rfl, rfl, rfl⟩
        · intro w17 hE
          rintro _ rfl
          intro R
          refine WL.conv (r := ((xa.getD i 0 : Nat) : Int)) Try.underlying43 Try.underlying2 rfl (wi64 (by omega) (by omega) (by omega)) rfl ?_
          exact WL.done ⟨_, rfl, rfl, rfl⟩
        · intro w18 hE
          intro R
          refine WL.fieldA (off := 0) Try.fla91_0 rfl rfl ?_
          exact WL.done ⟨_, rfl, rfl, rfl⟩
        · intro w19 hE
          have hE := hE rfl
          have hB := ext_trans hB hE
          have hVgb := hVgb.ext hE
          rintro _ rfl
          intro R
          refine WL.load Try.underlying2 rfl rfl (hVgb.vcells 0 _ rfl) rfl ?_
          exact WL.done ⟨_, rfl, ext_refl _, rfl⟩
        · intro w20 hE
          rintro _ rfl
          rintro _ rfl
          intro R
          refine WL.mul (r := (((xa.getD i 0 : Nat) : Int) * pa)) rfl rfl (wi64 (by omega) (by omega) rfl) rfl ?_
          exact WL.done ⟨_, rfl, rfl, rfl⟩
        · intro w21 hE
          intro R
          refine WL.move rfl rfl ?_
          exact WL.done ⟨_, rfl, rfl, rfl⟩
        · intro w22 hE
          intro R
          refine WL.move rfl rfl ?_
          exact WL.done ⟨_, rfl, rfl, rfl⟩
        · intro w23 hE
          have hE := hE rfl
          have hB := ext_trans hB hE
          have hb := hb0.ext hB
          rintro _ rfl
          rintro _ rfl
          intro R
          refine WL.call Try.func79 rfl Try.nm79 rfl rfl (limbAt_c hb (i) (by omega)) ?_
          rintro _ w24 ⟨rfl, hGw24⟩
          have hB := ext_trans hB hGw24
          exact WL.done ⟨_, rfl, hGw24, rfl⟩
        · intro w25 hE
          rintro _ rfl
          intro R
          refine WL.conv (r := ((xb.getD i 0 : Nat) : Int)) Try.underlying43 Try.underlying2 rfl (wi64 (by omega) (by omega) (by omega)) rfl ?_
          exact WL.done ⟨_, rfl, rfl, rfl⟩
        · intro w26 hE
          intro R
          refine WL.fieldA (off := 1) Try.fla91_1 rfl rfl ?_
          exact WL.done ⟨_, rfl, rfl, rfl⟩
        · intro w27 hE
          have hE := hE rfl
          have hB := ext_trans hB hE
          have hVgb := hVgb.ext hE
          rintro _ rfl
          intro R
          refine WL.load Try.underlying2 rfl rfl (hVgb.vcells 1 _ rfl) rfl ?_
          exact WL.done ⟨_, rfl, ext_refl _, rfl⟩
        · intro w28 hE
          rintro _ rfl
          rintro _ rfl
          intro R
          refine WL.mul (r := (((xb.getD i 0 : Nat) : Int) * pb)) rfl rfl (wi64 (by omega) (by omega) rfl) rfl ?_
          exact WL.done ⟨_, rfl, rfl, rfl⟩
        · intro w29 hE
          rintro _ rfl
          rintro _ rfl
          intro R
          refine WL.add (r := ((((xa.getD i 0 : Nat) : Int) * pa) + (((xb.getD i 0 : Nat) : Int) * pb))) rfl rfl (wi64 (by omega) (by omega) rfl) rfl ?_
          exact WL.done ⟨_, rfl, rfl, rfl⟩
      · intro vals w30 hT hVs
        have hB := ext_trans hB hT
        have hVgb := hVgb.ext hT
        have ho := ho.ext hT
        have hv0 : vals 0 = _ := hVs 0 (by decide)
        have hv1 : vals 1 = _ := hVs 1 (by decide)
        have hv2 : vals 2 = _ := hVs 2 (by decide)
        have hv3 : vals 3 = _ := hVs 3 (by decide)
        have hv4 : vals 4 = _ := hVs 4 (by decide)
        have hv5 : vals 5 = _ := hVs 5 (by decide)
        have hv6 : vals 6 = _ := hVs 6 (by decide)
        have hv7 : vals 7 = _ := hVs 7 (by decide)
        have hv8 : vals 8 = _ := hVs 8 (by decide)
        have hv9 : vals 9 = _ := hVs 9 (by decide)
        have hv10 : vals 10 = _ := hVs 10 (by decide)
        have hv11 : vals 11 = _ := hVs 11 (by decide)
        have hv12 : vals 12 = _ := hVs 12 (by decide)
        have hv13 : vals 13 = _ := hVs 13 (by decide)
        rw [show (List.filterMap (fun i => Option.map (fun t => (t, vals i)) (dstAt _ i)) (List.range _)) = [(21, .int .i64 c), (22, .int .u32 ((xa.getD i 0 : Nat) : Int)), (23, .int .i64 ((xa.getD i 0 : Nat) : Int)), (24, .pointer (some ((⟨gb, 0, none⟩ : Addr).add 0))), (25, .int .i64 pa), (26, .int .i64 (((xa.getD i 0 : Nat) : Int) * pa)), (27, .slice Ab mb cb), (28, .int .i64 ((i : Nat) : Int)), (29, .int .u32 ((xb.getD i 0 : Nat) : Int)), (30, .int .i64 ((xb.getD i 0 : Nat) : Int)), (31, .pointer (some ((⟨gb, 0, none⟩ : Addr).add 1))), (32, .int .i64 pb), (33, .int .i64 (((xb.getD i 0 : Nat) : Int) * pb)), (34, .int .i64 ((((xa.getD i 0 : Nat) : Int) * pa) + (((xb.getD i 0 : Nat) : Int) * pb)))] from by
          show [(21, vals 0), (22, vals 1), (23, vals 2), (24, vals 3), (25, vals 4), (26, vals 5), (27, vals 6), (28, vals 7), (29, vals 8), (30, vals 9), (31, vals 10), (32, vals 11), (33, vals 12), (34, vals 13)] = _
          rw [hv0, hv1, hv2, hv3, hv4, hv5, hv6, hv7, hv8, hv9, hv10, hv11, hv12, hv13]]
        refine WA.step [14] (by decide +kernel) rfl ?_
        intro iQ hQ
        simp only [List.mem_cons, List.not_mem_nil, or_false] at hQ
        obtain rfl := hQ
        · refine ⟨_, rfl, ?_⟩
          refine WL.add (r := (c + ((((xa.getD i 0 : Nat) : Int) * pa) + (((xb.getD i 0 : Nat) : Int) * pb)))) rfl rfl (wi64 (by omega) (by omega) rfl) rfl ?_
          refine WL.done ?_
          refine WA.step [15] (by decide +kernel) rfl ?_
          intro iQ hQ
          simp only [List.mem_cons, List.not_mem_nil, or_false] at hQ
          obtain rfl := hQ
          · refine ⟨_, rfl, ?_⟩
            refine WL.assign rfl rfl ?_
            refine WL.done ?_
            refine WA.done (by decide +kernel) ?_
            refine W.seq ?_
            refine W.region ?_
            refine WL.move rfl rfl ?_
            refine WL.move rfl rfl ?_
            refine WL.move rfl rfl ?_
            refine WL.conv (r := ((((c + (((xa.getD i 0 : Nat) : Int) * pa + ((xb.getD i 0 : Nat) : Int) * pb)) % 4294967296).toNat : Nat) : Int)) Try.underlying2 Try.underlying43 rfl (wu32i _) rfl ?_
            refine WL.index1 (i) Try.underlying23 Try.el43 rfl rfl (by omega) (by omega) ho.rd rfl ?_
            refine WL.store Try.el43 rfl rfl rfl (by omega) ho ?_
            have hOld32 := ho
            intro w31 ho hGw31
            change Own _ _ _ _ _ _ _ ((us zs).set i (.int .u32 ((((c + (((xa.getD i 0 : Nat) : Int) * pa + ((xb.getD i 0 : Nat) : Int) * pb)) % 4294967296).toNat : Nat) : Int))) at ho
            rw [us_set] at ho
            have hB := ext_own hB hGw31 (fun g hg => (hOld32.bl_ge g hg).1)
            have hVgb := hVgb.grown hGw31 (ap_var hap_ho_gb)
            have := ho.rd.ulen
            refine WL.done ?_
            refine W.region ?_
            refine WL.move rfl rfl ?_
            refine WL.shr (r := ((c + (((xa.getD i 0 : Nat) : Int) * pa + ((xb.getD i 0 : Nat) : Int) * pb)) / 4294967296)) rfl rfl (by omega) (shr32 _) rfl ?_
            refine WL.assign rfl rfl ?_
            refine WL.done ?_
            refine W.region ?_
            refine WL.add (r := ((i + 1 : Nat) : Int)) rfl rfl (wi64 (by omega) (by omega) (by omega)) rfl ?_
            refine WL.move rfl rfl ?_
            refine WL.done ?_
            refine ⟨(i + 1, (c + (((xa.getD i 0 : Nat) : Int) * pa + ((xb.getD i 0 : Nat) : Int) * pb)) / 4294967296, zs.set i ((c + (((xa.getD i 0 : Nat) : Int) * pa + ((xb.getD i 0 : Nat) : Int) * pb)) % 4294967296).toNat), ⟨rfl, rfl, rfl, iv (by omega), rfl, iv (by omega), iv (by omega), trivial⟩, by (dsimp only; omega), ?_⟩
            exact ⟨hB, by omega, by omega, hLz.set _ (by omega), by simp [hlz], fun t ht => by rw [getD_set_ne (by omega)]; exact h0z t (by omega), by rw [← cmb_take, ← heq]; exact cmb_step (by omega) (h0z i (Nat.le_refl i)) rfl rfl, hVgb, ho⟩
    · refine WL.done ?_
      refine W.seq ?_
      refine W.condF rfl ?_
      refine W.exit ?_
      refine W.seq ?_
      refine W.region ?_
      refine WL.move rfl rfl ?_
      have hi2 : i = ma := by omega
      refine WL.call Try.func44 rfl Try.nm44 rfl rfl (sig_c ho.rd) ?_
      rintro _ w33 ⟨rfl, hGw33⟩
      have hB := ext_trans hB hGw33
      have ho := ho.ext hGw33
      refine WL.assign rfl rfl ?_
      refine WL.done ?_
      refine W.ret ?_
      refine ⟨_, rfl, ?_⟩
      subst hi2
      rw [nv_take_all (l := xa) (by omega), nv_take_all (l := xb) (by omega), ← hR] at heq
      have hna := nv_lt hLa
      rw [ha_l] at hna
      have hnz := nv_lt hLz
      rw [hlz] at hnz
      have hend : (nv zs : Int) = R := cmb_end (M := 4294967296 ^ i) (by rw [Int.natCast_pow]; exact heq) hnz (by omega) (by omega)
      have hend2 : nv zs = R := by omega
      have hsl := sigL_le zs
      have hO : Own w.heap.size w33 43 1 Ao (sigL zs) i (us (trimL zs)) := ho.sig
      rw [digs_trim hLz, hend2] at hO
      exact ⟨_, _, _, rfl, hB, hO, by omega⟩

theorem lr4 (e p q A B : Int) : e * (p * A - q * B) = e * p * A + -(e * q) * B := by grind
theorem lr5 (e r s A B : Int) : e * (s * B - r * A) = -(e * r) * A + e * s * B := by grind
theorem ne_zero_of {e : Int} {q : Nat} (he : e = 1 ∨ e = -1) (h : -(e * (q : Int)) ≠ 0) : q ≠ 0 := by rcases he with rfl | rfl <;> omega
theorem nv_lt2 {l : List Nat} (h : Lim l) (hl : l.length ≤ 2) : nv l < 18446744073709551616 :=
  Nat.lt_of_lt_of_le (nv_lt h) (Nat.pow_le_pow_right (n := 4294967296) (j := 2) (by decide) hl)
theorem gcd_lt64 {a b : Nat} (ha : a < 18446744073709551616) (hb : b < 18446744073709551616) : Nat.gcd a b < 18446744073709551616 :=
  Nat.lt_of_le_of_lt gcd_le_max (by omega)
theorem gcd_step2 (x y : Nat) : Nat.gcd y (x % y) = Nat.gcd x y := by
  have h1 := Nat.gcd_rec y x
  rw [Nat.gcd_comm x y, h1, Nat.gcd_comm]

theorem reduce_c {w : World} {Ba : Nat} {Aa : Option Addr} {ma ca : Nat} {xa : List Nat} (ha : Rd Ba w 1 Aa ma ca (us xa)) {Bb : Nat} {Ab : Option Addr} {mb cb : Nat} {xb : List Nat} (hb : Rd Bb w 1 Ab mb cb (us xb)) (hLa : Lim xa) (hLb : Lim xb) (hca : trimL xa = xa) (hcb : trimL xb = xb) (hba : nv xb ≤ nv xa) (hmb : 2 < mb) (hsa : ma ≤ 67108864) :
    Calls Try.prog 82 #[.slice Aa ma ca, .slice Ab mb cb] w fun e w2 => ∃ v, e = .returned v ∧ (fun v w2 => ∃ A2 m2 c2 x2 A3 m3 c3 x3, v = .tuple #[.slice A2 m2 c2, .slice A3 m3 c3] ∧ w.grownBy w2 none ∧ Rd w2.heap.size w2 1 A2 m2 c2 (us x2) ∧ Rd w2.heap.size w2 1 A3 m3 c3 (us x3) ∧ Lim x2 ∧ Lim x3 ∧ trimL x2 = x2 ∧ trimL x3 = x3 ∧ nv x3 < nv x2 ∧ nv x3 < nv xb ∧ nv x2 ≤ nv xa ∧ Nat.gcd (nv x2) (nv x3) = Nat.gcd (nv xa) (nv xb) ∧ m2 ≤ ma ∧ m3 ≤ ma) v w2 := by
  have ha := ha.norm
  have ha_l := ha.ulen
  have ha_x := ha.max
  simp only [maxLen] at ha_x
  have ha_c := ha.cap
  have hb := hb.norm
  have hb_l := hb.ulen
  have hb_x := hb.max
  simp only [maxLen] at hb_x
  have hb_c := hb.cap
  have ha0 := ha
  have hb0 := hb
  have hta : (trimL xa).length = sigL xa := rfl
  rw [hca] at hta
  have htb : (trimL xb).length = sigL xb := rfl
  rw [hcb] at htb
  have hsm := sigL_mono hLa hLb hba
  have hbig := nv_big hLb (by omega)
  have hbn : 64 < bitn (nv xa) := bitn_lt.2 (by omega)
  have hbl := bitn_len hLa
  obtain ⟨i, hi⟩ : ∃ i, i = (bitn (nv xa) - 62) / 32 := ⟨_, rfl⟩
  obtain ⟨s, hs⟩ : ∃ s, s = (bitn (nv xa) - 62) % 32 := ⟨_, rfl⟩
  have hs31 : s ≤ 31 := by omega
  have hlow : 32 * i + s + 62 = bitn (nv xa) := by omega
  have hlta : nv xa < 2 ^ (32 * i + s + 62) := by rw [hlow]; exact bitn_le.1 (Nat.le_refl _)
  have hltb : nv xb < 2 ^ (32 * i + s + 62) := by omega
  have hDp : 0 < 2 ^ (32 * i + s) := Nat.pow_pos (by decide)
  have hX62 : nv xa / 2 ^ (32 * i + s) < 4611686018427387904 := by rw [Nat.div_lt_iff_lt_mul hDp]; rw [Nat.pow_add, Nat.mul_comm] at hlta; exact hlta
  have hB := ext_refl w
  refine calls_of_W (vs := [.slice Aa ma ca, .slice Ab mb cb]) [4, 5] Try.func82 rfl rfl rfl rfl ?_
  refine W.seq ?_
  refine W.region ?_
  refine WL.assign rfl rfl ?_
  refine WL.assign rfl rfl ?_
  refine WL.done ?_
  refine W.seq ?_
  refine W.region ?_
  refine WL.move rfl rfl ?_
  refine WL.call Try.func81 rfl Try.nm81 rfl rfl (Bits_c ha hLa (by omega)) ?_
  rintro _ w11 ⟨rfl, hGw11⟩
  have hB := ext_trans hB hGw11
  have ha := ha0.ext hB
  have hb := hb0.ext hB
  refine WL.sub (r := ((32 * i + s : Nat) : Int)) rfl rfl (wi64 (by omega) (by omega) (by omega)) rfl ?_
  refine WL.assign rfl rfl ?_
  refine WL.done ?_
  refine W.seq ?_
  refine W.region ?_
  refine WL.move rfl rfl ?_
  refine WL.move rfl rfl ?_
  refine WL.call Try.func97 rfl Try.nm97 rfl rfl (lead_c ha hLa i s rfl hs31 (by omega) hlta) ?_
  rintro _ w12 ⟨rfl, hGw12⟩
  have hB := ext_trans hB hGw12
  have ha := ha0.ext hB
  have hb := hb0.ext hB
  refine WL.move rfl rfl ?_
  refine WL.move rfl rfl ?_
  refine WL.call Try.func97 rfl Try.nm97 rfl rfl (lead_c hb hLb i s rfl hs31 (by omega) hltb) ?_
  rintro _ w13 ⟨rfl, hGw13⟩
  have hB := ext_trans hB hGw13
  have ha := ha0.ext hB
  have hb := hb0.ext hB
  refine WL.call Try.func96 rfl Try.nm96 rfl rfl (cof_c (A := nv xa) (B := nv xb) (D := 2 ^ (32 * i + s)) hba hDp hX62 rfl rfl) ?_
  rintro _ w14 ⟨e, p, q, r, s9, x, y, R0, R1, rfl, hGw14, hL⟩
  have hB := ext_trans hB hGw14
  have ha := ha0.ext hB
  have hb := hb0.ext hB
  have hdn := hL.dn
  have hsg := hL.sg
  refine WL.move rfl rfl ?_
  refine WL.extract rfl rfl rfl ?_
  refine WL.extract rfl rfl rfl ?_
  refine WL.alloc Try.el91 rfl ?_
  intro ga w15 hg_ga hVga hGw15
  change Own _ _ _ _ _ _ _ [.int .i64 (0 : Int), .int .i64 (0 : Int)] at hVga
  have hVga := hVga.low (b' := w.heap.size) hB.size
  have hB := ext_trans hB hGw15
  have ha := ha0.ext hB
  have hb := hb0.ext hB
  refine WL.alloc Try.el91 rfl ?_
  intro gb w16 hg_gb hVgb hGw16
  change Own _ _ _ _ _ _ _ [.int .i64 (0 : Int), .int .i64 (0 : Int)] at hVgb
  have hlt_ga_gb : ga < gb := by rw [hg_gb]; exact (hVga.bl_ge _ rfl).2
  have hVgb := hVgb.low (b' := w.heap.size) hB.size
  have hB := ext_trans hB hGw16
  have ha := ha0.ext hB
  have hb := hb0.ext hB
  have hVga := hVga.ext hGw16
  refine WL.storeV Try.el91 rfl rfl rfl rfl hVga ?_
  have hOld18 := hVga
  intro w17 hVga hGw17
  change Own _ _ _ _ _ _ _ [.int .i64 (e * (p : Int)), .int .i64 (-(e * (q : Int)))] at hVga
  have hB := ext_own hB hGw17 (fun g hg => (hOld18.bl_ge g hg).1)
  have ha := ha0.ext hB
  have hb := hb0.ext hB
  have hVgb := hVgb.grown hGw17 (apart (by omega))
  refine WL.storeV Try.el91 rfl rfl rfl rfl hVgb ?_
  have hOld20 := hVgb
  intro w19 hVgb hGw19
  change Own _ _ _ _ _ _ _ [.int .i64 (-(e * (r : Int))), .int .i64 (e * (s9 : Int))] at hVgb
  have hB := ext_own hB hGw19 (fun g hg => (hOld20.bl_ge g hg).1)
  have ha := ha0.ext hB
  have hb := hb0.ext hB
  have hVga := hVga.grown hGw19 (apart (by omega))
  refine WL.done ?_
  refine W.seq ?_
  refine W.seq ?_
  refine W.region ?_
  refine WL.fieldA (off := 1) Try.fla91_1 rfl rfl ?_
  refine WL.load Try.underlying2 rfl rfl (hVga.vcells 1 _ rfl) rfl ?_
  refine WL.eql rfl rfl rfl (fun hz => ?_) (fun hz => ?_)
  · refine WL.done ?_
    refine W.condT rfl ?_
    refine W.seq ?_
    refine W.region ?_
    refine WL.move rfl rfl ?_
    refine WL.move rfl rfl ?_
    refine WL.call Try.func83 rfl Try.nm83 rfl rfl (DivMod_ok ha hb hLa hLb (by omega) (by omega)) ?_
    rintro _ w22 ⟨A23, m24, cp25, A26, m27, cp28, rfl, hGw22, hdq, hdr, hm29, hm30⟩
    have hdq := hdq.low (b' := w.heap.size) hB.size
    have hdr := hdr.low (b' := w.heap.size) hB.size
    have hB := ext_trans hB hGw22
    have hb := hb0.ext hB
    have hdq_l := hdq.rd.ulen
    have hdr_l := hdr.rd.ulen
    refine WL.move rfl rfl ?_
    refine WL.extract rfl rfl rfl ?_
    refine WL.extract rfl rfl rfl ?_
    refine WL.extract rfl rfl rfl ?_
    refine WL.assign rfl rfl ?_
    refine WL.assign rfl rfl ?_
    refine WL.assign rfl rfl ?_
    refine WL.done ?_
    refine W.seq ?_
    refine W.region ?_
    refine WL.move rfl rfl ?_
    refine WL.move rfl rfl ?_
    refine WL.assign rfl rfl ?_
    refine WL.assign rfl rfl ?_
    refine WL.done ?_
    refine W.ret ?_
    refine ⟨_, rfl, ?_⟩
    have hmo : nv xa % nv xb < nv xb := Nat.mod_lt _ (by omega)
    have hdk := hdr.rd.ulen
    have hbl2 := nv_lt hLb
    have hdk2 := digs_len (Nat.lt_trans hmo hbl2)
    exact ⟨_, _, _, xb, _, _, _, _, rfl, hB, hb.norm, hdr.rd.norm, hLb, digs_lim _, hcb, trimL_digs_self _, by rw [nv_digs]; exact hmo, by rw [nv_digs]; exact hmo, hba, by rw [nv_digs]; exact gcd_step2 _ _, by omega, by omega⟩
  · refine WL.done ?_
    refine W.condF rfl ?_
    refine W.skip ?_
    refine W.seq ?_
    refine W.drawT 7 [⟨[], [0], true⟩, ⟨[], [1], true⟩, ⟨[], [7], false⟩, ⟨[0, 1, 2], [], false⟩, ⟨[], [0], true⟩, ⟨[], [1], true⟩, ⟨[], [8], false⟩] [[(0, .slice Aa ma ca)], [(1, .slice Ab mb cb)], [(7, .pointer (some ⟨ga, 0, none⟩))], [], [(0, .slice Aa ma ca)], [(1, .slice Ab mb cb)], [(8, .pointer (some ⟨gb, 0, none⟩))]] (fun iQ => [fun v wQ => v = .slice Aa ma ca, fun v wQ => v = .slice Ab mb cb, fun v wQ => v = .agg #[.int .i64 (e * (p : Int)), .int .i64 (-(e * (q : Int)))], fun v wQ => ∃ A36 m37 cp38, v = .slice A36 m37 cp38 ∧ (Own w.heap.size wQ 43 1 A36 m37 cp38 (us (digs R0))) ∧ (m37 ≤ ma) ∧ (∀ k, bl A36 = some k → k ≠ ga) ∧ (∀ k, bl A36 = some k → k ≠ gb), fun v wQ => v = .slice Aa ma ca, fun v wQ => v = .slice Ab mb cb, fun v wQ => v = .agg #[.int .i64 (-(e * (r : Int))), .int .i64 (e * (s9 : Int))]].getD iQ (fun _ _ => True)) Try.mixed (by kernel_rfl) ?_ ?_ ?_
    · refine Vs_monoT _ ?_
      intro VQ hVQ vQ wQ1 wQ2 hQ1 hQ2
      simp only [List.mem_cons, List.not_mem_nil, or_false] at hVQ
      rcases hVQ with rfl | rfl | rfl | rfl | rfl | rfl | rfl
      · exact hQ1
      · exact hQ1
      · exact hQ1
      · obtain ⟨A36, m37, cp38, hQe, h0, hmm37, hap_h0_ga, hap_h0_gb⟩ := hQ1
        exact ⟨A36, m37, cp38, hQe, h0.ext hQ2, hmm37, hap_h0_ga, hap_h0_gb⟩
      · exact hQ1
      · exact hQ1
      · exact hQ1
    · refine ⟨⟨rfl, ⟨rfl, trivial⟩, ?_⟩, ⟨rfl, ⟨rfl, trivial⟩, ?_⟩, ⟨rfl, ⟨rfl, trivial⟩, ?_⟩, ⟨rfl, trivial, ?_⟩, ⟨rfl, ⟨rfl, trivial⟩, ?_⟩, ⟨rfl, ⟨rfl, trivial⟩, ?_⟩, ⟨rfl, ⟨rfl, trivial⟩, ?_⟩, trivial⟩
      · intro w31 hE
        intro R
        refine WL.move rfl rfl ?_
        exact WL.done ⟨_, rfl, rfl, rfl⟩
      · intro w32 hE
        intro R
        refine WL.move rfl rfl ?_
        exact WL.done ⟨_, rfl, rfl, rfl⟩
      · intro w33 hE
        have hE := hE rfl
        have hB := ext_trans hB hE
        have hVga := hVga.ext hE
        intro R
        refine WL.loadV (cs := [.int .i64 (e * (p : Int)), .int .i64 (-(e * (q : Int)))]) Try.el91 Try.agg91 rfl rfl hVga.vcells rfl ?_
        exact WL.done ⟨_, rfl, ext_refl _, rfl⟩
      · intro w34 hE
        have hE := hE rfl
        have hB := ext_trans hB hE
        have ha := ha0.ext hB
        have hb := hb0.ext hB
        have hVga := hVga.ext hE
        have hVgb := hVgb.ext hE
        rintro _ rfl
        rintro _ rfl
        rintro _ rfl
        intro R
        refine WL.call Try.func98 rfl Try.nm98 rfl rfl (comb_c ha hb hLa hLb hL.un0 R0 (by rw [hL.r0]; exact lr4 ..) (by have := hdn (ne_zero_of hsg hz); omega) (by omega) (by omega)) ?_
        rintro _ w35 ⟨A36, m37, cp38, rfl, hGw35, h0, hmm37⟩
        have hap_h0_ga := ap_new h0 (hVga.bl_ge _ rfl).2
        have hap_h0_gb := ap_new h0 (hVgb.bl_ge _ rfl).2
        have h0 := h0.low (b' := w.heap.size) hB.size
        have hB := ext_trans hB hGw35
        have h0_l := h0.rd.ulen
        exact WL.done ⟨_, rfl, hGw35, ⟨A36, m37, cp38, rfl, h0, hmm37, hap_h0_ga, hap_h0_gb⟩⟩
      · intro w39 hE
        intro R
        refine WL.move rfl rfl ?_
        exact WL.done ⟨_, rfl, rfl, rfl⟩
      · intro w40 hE
        intro R
        refine WL.move rfl rfl ?_
        exact WL.done ⟨_, rfl, rfl, rfl⟩
      · intro w41 hE
        have hE := hE rfl
        have hB := ext_trans hB hE
        have hVgb := hVgb.ext hE
        intro R
        refine WL.loadV (cs := [.int .i64 (-(e * (r : Int))), .int .i64 (e * (s9 : Int))]) Try.el91 Try.agg91 rfl rfl hVgb.vcells rfl ?_
        exact WL.done ⟨_, rfl, ext_refl _, rfl⟩
    · intro vals w42 hT hVs
      have hB := ext_trans hB hT
      have ha := ha0.ext hB
      have hb := hb0.ext hB
      have hv0 : vals 0 = _ := hVs 0 (by decide)
      have hv1 : vals 1 = _ := hVs 1 (by decide)
      have hv2 : vals 2 = _ := hVs 2 (by decide)
      obtain ⟨A36, m37, cp38, hv3, h0, hmm37, hap_h0_ga, hap_h0_gb⟩ := hVs 3 (by decide)
      have hv4 : vals 4 = _ := hVs 4 (by decide)
      have hv5 : vals 5 = _ := hVs 5 (by decide)
      have hv6 : vals 6 = _ := hVs 6 (by decide)
      rw [show (List.filterMap (fun i => Option.map (fun t => (t, vals i)) (dstAt _ i)) (List.range _)) = [(37, .slice Aa ma ca), (38, .slice Ab mb cb), (39, .agg #[.int .i64 (e * (p : Int)), .int .i64 (-(e * (q : Int)))]), (40, .slice A36 m37 cp38), (41, .slice Aa ma ca), (42, .slice Ab mb cb), (43, .agg #[.int .i64 (-(e * (r : Int))), .int .i64 (e * (s9 : Int))])] from by
        show [(37, vals 0), (38, vals 1), (39, vals 2), (40, vals 3), (41, vals 4), (42, vals 5), (43, vals 6)] = _
        rw [hv0, hv1, hv2, hv3, hv4, hv5, hv6]]
      refine WA.step [7] (by decide +kernel) rfl ?_
      intro iQ hQ
      simp only [List.mem_cons, List.not_mem_nil, or_false] at hQ
      obtain rfl := hQ
      · refine ⟨_, rfl, ?_⟩
        refine WL.call Try.func98 rfl Try.nm98 rfl rfl (comb_c ha hb hLa hLb hL.un1 R1 (by rw [hL.r1]; exact lr5 ..) (by have := hdn (ne_zero_of hsg hz); omega) (by omega) (by omega)) ?_
        rintro _ w43 ⟨A44, m45, cp46, rfl, hGw43, h1, hmm45⟩
        have h1 := h1.low (b' := w.heap.size) hB.size
        have hB := ext_trans hB hGw43
        have h0 := h0.ext hGw43
        have h1_l := h1.rd.ulen
        refine WL.done ?_
        refine WA.step [8] (by decide +kernel) rfl ?_
        intro iQ hQ
        simp only [List.mem_cons, List.not_mem_nil, or_false] at hQ
        obtain rfl := hQ
        · refine ⟨_, rfl, ?_⟩
          refine WL.assign rfl rfl ?_
          refine WL.done ?_
          refine WA.step [9] (by decide +kernel) rfl ?_
          intro iQ hQ
          simp only [List.mem_cons, List.not_mem_nil, or_false] at hQ
          obtain rfl := hQ
          · refine ⟨_, rfl, ?_⟩
            refine WL.assign rfl rfl ?_
            refine WL.done ?_
            refine WA.done (by decide +kernel) ?_
            refine W.ret ?_
            refine ⟨_, rfl, ?_⟩
            have hdn2 := hdn (ne_zero_of hsg hz)
            exact ⟨_, _, _, _, _, _, _, _, rfl, hB, h0.rd.norm, h1.rd.norm, digs_lim _, digs_lim _, trimL_digs_self _, trimL_digs_self _, by rw [nv_digs, nv_digs]; omega, by rw [nv_digs]; omega, by rw [nv_digs]; omega, by rw [nv_digs, nv_digs]; exact hL.g, by omega, by omega⟩

theorem word_n {w : World} {Ba : Nat} {Aa : Option Addr} {ma ca : Nat} {xa : List Nat} (ha : Rd Ba w 1 Aa ma ca (us xa)) (hLa : Lim xa) (h2 : sigL xa ≤ 2) : Calls Try.prog 86 #[.slice Aa ma ca] w fun e w2 => ∃ v, e = .returned v ∧ (fun v w2 => v = .int .u64 ((nv xa : Nat) : Int) ∧ w.grownBy w2 none) v w2 := by
  rw [nv_two h2]; exact word_c ha hLa

theorem Gcd_c {w : World} {Ba : Nat} {Aa : Option Addr} {ma ca : Nat} {xa : List Nat} (ha : Rd Ba w 1 Aa ma ca (us xa)) {Bb : Nat} {Ab : Option Addr} {mb cb : Nat} {xb : List Nat} (hb : Rd Bb w 1 Ab mb cb (us xb)) (hLa : Lim xa) (hLb : Lim xb) (hsa : ma ≤ 67108864) (hsb : mb ≤ 67108864) :
    Calls Try.prog 56 #[.slice Aa ma ca, .slice Ab mb cb] w fun e w2 => ∃ v, e = .returned v ∧ (fun v w2 => ∃ A2 m2 c2, v = .slice A2 m2 c2 ∧ w.grownBy w2 none ∧ Own w.heap.size w2 43 1 A2 m2 c2 (us (digs (Nat.gcd (nv xa) (nv xb)))) ∧ m2 ≤ max ma mb) v w2 := by
  have ha := ha.norm
  have ha_l := ha.ulen
  have ha_x := ha.max
  simp only [maxLen] at ha_x
  have ha_c := ha.cap
  have hb := hb.norm
  have hb_l := hb.ulen
  have hb_x := hb.max
  simp only [maxLen] at hb_x
  have hb_c := hb.cap
  have ha0 := ha
  have hb0 := hb
  have hcc := cmpI_cases (nv xa) (nv xb)
  have hB := ext_refl w
  refine calls_of_W (vs := [.slice Aa ma ca, .slice Ab mb cb]) [4] Try.func56 rfl rfl rfl rfl ?_
  refine W.seq ?_
  refine W.region ?_
  refine WL.assign rfl rfl ?_
  refine WL.done ?_
  refine W.cut (σ := List Nat × List Nat × Option Addr × Nat × Nat × Option Addr × Nat × Nat) (fun s w1 => match s with | (ys, zs, Ay, my, cy, Az, mz, cz) => w.grownBy w1 none ∧ Lim ys ∧ Lim zs ∧ nv zs ≤ nv ys ∧ Nat.gcd (nv ys) (nv zs) = Nat.gcd (nv xa) (nv xb) ∧ my ≤ max ma mb ∧ mz ≤ max ma mb ∧ Rd w1.heap.size w1 1 Ay my cy (us ys) ∧ Rd w1.heap.size w1 1 Az mz cz (us zs)) (fun s => match s with | (ys, zs, Ay, my, cy, Az, mz, cz) => [(0, .slice Ay my cy), (1, .slice Az mz cz)]) ?_ ?_
  · refine W.seq ?_
    refine W.region ?_
    refine WL.move rfl rfl ?_
    refine WL.move rfl rfl ?_
    refine WL.call Try.func72 rfl Try.nm72 rfl rfl (Cmp_c ha hb hLa hLb) ?_
    rintro _ w11 ⟨rfl, hGw11⟩
    have hB := ext_trans hB hGw11
    have ha := ha0.ext hB
    have hb := hb0.ext hB
    refine WL.lss rfl rfl rfl (fun c12 => ?_) (fun c12 => ?_)
    · refine WL.done ?_
      refine W.condT rfl ?_
      refine W.region ?_
      refine WL.move rfl rfl ?_
      refine WL.move rfl rfl ?_
      refine WL.assign rfl rfl ?_
      refine WL.assign rfl rfl ?_
      refine WL.done ?_
      refine ⟨(xb, xa, Ab, mb, cb, Aa, ma, ca), ⟨rfl, rfl, trivial⟩, ?_⟩
      exact ⟨hB, hLb, hLa, by omega, Nat.gcd_comm _ _, by omega, by omega, hb.norm, ha.norm⟩
    · refine WL.done ?_
      refine W.condF rfl ?_
      refine W.skip ?_
      refine ⟨(xa, xb, Aa, ma, ca, Ab, mb, cb), ⟨rfl, rfl, trivial⟩, ?_⟩
      exact ⟨hB, hLa, hLb, by omega, rfl, by omega, by omega, ha.norm, hb.norm⟩
  · rintro ⟨ys, zs, Ay, my, cy, Az, mz, cz⟩ w13 ⟨hB, hLy, hLz, hle, hg, hmy, hmz, hy, hz⟩
    have hy_l := hy.ulen
    have hz_l := hz.ulen
    have hsy := sigL_le ys
    have hsz := sigL_le zs
    refine W.seq ?_
    refine W.region ?_
    refine WL.move rfl rfl ?_
    refine WL.call Try.func44 rfl Try.nm44 rfl rfl (sig_c hy) ?_
    rintro _ w14 ⟨rfl, hGw14⟩
    have hB := ext_trans hB hGw14
    have hy := hy.ext hGw14
    have hz := hz.ext hGw14
    refine WL.move rfl rfl ?_
    refine WL.call Try.func44 rfl Try.nm44 rfl rfl (sig_c hz) ?_
    rintro _ w15 ⟨rfl, hGw15⟩
    have hB := ext_trans hB hGw15
    have hy := hy.ext hGw15
    have hz := hz.ext hGw15
    refine WL.assign rfl rfl ?_
    refine WL.assign rfl rfl ?_
    refine WL.done ?_
    refine W.seq ?_
    refine W.block ?_
    refine W.loop (σ := List Nat × List Nat × Option Addr × Nat × Nat × Option Addr × Nat × Nat) (fun s w1 => match s with | (ps, qs, Ap, mp, cp, Aq, mq, cq) => w.grownBy w1 none ∧ Lim ps ∧ Lim qs ∧ nv qs ≤ nv ps ∧ Nat.gcd (nv ps) (nv qs) = Nat.gcd (nv xa) (nv xb) ∧ mp ≤ max ma mb ∧ mq ≤ max ma mb ∧ Rd w1.heap.size w1 1 Ap mp cp (us ps) ∧ Rd w1.heap.size w1 1 Aq mq cq (us qs) ∧ trimL ps = ps ∧ trimL qs = qs) (fun s => match s with | (ps, qs, Ap, mp, cp, Aq, mq, cq) => [(0, .slice Ap mp cp), (1, .slice Aq mq cq)]) (fun s => match s with | (ps, qs, Ap, mp, cp, Aq, mq, cq) => nv qs) (trimL ys, trimL zs, Ay, sigL ys, cy, Az, sigL zs, cz) ?_ ?_ ?_
    · exact ⟨hB, hLy.trim, hLz.trim, by rw [nv_trimL, nv_trimL]; exact hle, by rw [nv_trimL, nv_trimL]; exact hg, by omega, by omega, hy.norm.sig, hz.norm.sig, trimL_trimL hLy, trimL_trimL hLz⟩
    · exact ⟨rfl, rfl, trivial⟩
    · rintro ⟨ps, qs, Ap, mp, cp, Aq, mq, cq⟩ w16 ⟨hB, hLp, hLq, hle, hg, hmp, hmq, hp, hq, hcp, hcq⟩
      have hp_l := hp.ulen
      have hq_l := hq.ulen
      have htq : (trimL qs).length = sigL qs := rfl
      rw [hcq] at htq
      have hqp := @sig_pos qs
      refine W.seq ?_
      refine W.seq ?_
      refine W.region ?_
      refine WL.move rfl rfl ?_
      refine WL.len Try.underlying23 rfl rfl ?_
      refine WL.gtr rfl rfl rfl (fun c17 => ?_) (fun c17 => ?_)
      · refine WL.done ?_
        refine W.condT rfl ?_
        refine W.skip ?_
        refine W.block ?_
        refine W.region ?_
        refine WL.move rfl rfl ?_
        refine WL.move rfl rfl ?_
        refine WL.call Try.func82 rfl Try.nm82 rfl rfl (reduce_c hp hq hLp hLq hcp hcq hle (by omega) (by omega)) ?_
        rintro _ w18 ⟨A2, m2, c2, x2, A3, m3, c3, x3, rfl, hGw18, h2r, h3r, hL2, hL3, hc2, hc3, hlt32, hlt3, hle2, hgr, hm2, hm3⟩
        have hB := ext_trans hB hGw18
        refine WL.move rfl rfl ?_
        refine WL.extract rfl rfl rfl ?_
        refine WL.extract rfl rfl rfl ?_
        refine WL.assign rfl rfl ?_
        refine WL.assign rfl rfl ?_
        refine WL.done ?_
        refine ⟨(x2, x3, A2, m2, c2, A3, m3, c3), ⟨rfl, rfl, trivial⟩, by (dsimp only; exact hlt3), ?_⟩
        exact ⟨hB, hL2, hL3, by omega, by rw [hgr]; exact hg, by omega, by omega, h2r.norm, h3r.norm, hc2, hc3⟩
      · refine WL.done ?_
        refine W.condF rfl ?_
        refine W.exit ?_
        refine W.seq ?_
        refine W.seq ?_
        refine W.region ?_
        refine WL.move rfl rfl ?_
        refine WL.len Try.underlying23 rfl rfl ?_
        refine WL.eql rfl rfl rfl (fun c19 => ?_) (fun c19 => ?_)
        · refine WL.done ?_
          refine W.condT rfl ?_
          refine W.seq ?_
          refine W.region ?_
          refine WL.move rfl rfl ?_
          refine WL.call Try.func46 rfl Try.nm46 rfl rfl (Trim_c hp (by omega)) ?_
          rintro _ w20 ⟨A21, m22, cp23, rfl, hGw20, hO, hm24⟩
          have hO := hO.low (b' := w.heap.size) hB.size
          have hB := ext_trans hB hGw20
          have hO_l := hO.rd.ulen
          refine WL.assign rfl rfl ?_
          refine WL.done ?_
          refine W.ret ?_
          refine ⟨_, rfl, ?_⟩
          have hq0 : qs = [] := List.eq_nil_of_length_eq_zero (by omega)
          subst hq0
          rw [nv_nil, Nat.gcd_zero_right] at hg
          rw [digs_trim hLp, hg] at hO
          have hgl9 := gcd_len hLa hLb
          have hO9 := hO.rd.ulen
          exact ⟨_, _, _, rfl, hB, hO, by omega⟩
        · refine WL.done ?_
          refine W.condF rfl ?_
          refine W.skip ?_
          refine W.seq ?_
          refine W.seq ?_
          refine W.region ?_
          refine WL.move rfl rfl ?_
          refine WL.len Try.underlying23 rfl rfl ?_
          refine WL.gtr rfl rfl rfl (fun c25 => ?_) (fun c25 => ?_)
          · refine WL.done ?_
            refine W.condT rfl ?_
            refine W.seq ?_
            refine W.region ?_
            refine WL.move rfl rfl ?_
            refine WL.move rfl rfl ?_
            refine WL.call Try.func83 rfl Try.nm83 rfl rfl (DivMod_ok hp hq hLp hLq (by omega) (by omega)) ?_
            rintro _ w26 ⟨A27, m28, cp29, A30, m31, cp32, rfl, hGw26, hdq, hdr, hm33, hm34⟩
            have hdq := hdq.low (b' := w.heap.size) hB.size
            have hdr := hdr.low (b' := w.heap.size) hB.size
            have hB := ext_trans hB hGw26
            have hq := hq.ext hGw26
            have hdq_l := hdq.rd.ulen
            have hdr_l := hdr.rd.ulen
            refine WL.move rfl rfl ?_
            refine WL.extract rfl rfl rfl ?_
            refine WL.extract rfl rfl rfl ?_
            refine WL.extract rfl rfl rfl ?_
            refine WL.assign rfl rfl ?_
            refine WL.assign rfl rfl ?_
            refine WL.assign rfl rfl ?_
            refine WL.done ?_
            refine W.region ?_
            refine WL.move rfl rfl ?_
            refine WL.move rfl rfl ?_
            refine WL.assign rfl rfl ?_
            refine WL.assign rfl rfl ?_
            refine WL.done ?_
            refine W.seq ?_
            refine W.region ?_
            refine WL.move rfl rfl ?_
            have hq64 := nv_lt2 hLq (by omega)
            have hmo : nv ps % nv qs < nv qs := Nat.mod_lt _ (hqp (by omega))
            have hdl2 := digs_len (n := nv ps % nv qs) (k := 2) (by rw [show 4294967296 ^ 2 = 18446744073709551616 by decide]; omega)
            have hnd := nv_digs (nv ps % nv qs)
            refine WL.call Try.func86 rfl Try.nm86 rfl rfl (word_n hq hLq (Nat.le_trans (sigL_le _) (by omega))) ?_
            rintro _ w35 ⟨rfl, hGw35⟩
            have hB := ext_trans hB hGw35
            have hdr := hdr.ext hGw35
            refine WL.move rfl rfl ?_
            refine WL.call Try.func86 rfl Try.nm86 rfl rfl (word_n hdr.rd (digs_lim _) (Nat.le_trans (sigL_le _) (by omega))) ?_
            rintro _ w36 ⟨rfl, hGw36⟩
            have hB := ext_trans hB hGw36
            refine WL.call Try.func85 rfl Try.nm85 rfl rfl (wordGcd_c (nv qs) (nv (digs (nv ps % nv qs))) (by omega) (by omega) (by omega) (by omega)) ?_
            rintro _ w37 ⟨rfl, hGw37⟩
            have hB := ext_trans hB hGw37
            have hgl := gcd_lt64 (a := nv qs) (b := nv (digs (nv ps % nv qs))) (by omega) (by omega)
            refine WL.call Try.func84 rfl Try.nm84 rfl rfl (Of_c (Nat.gcd (nv qs) (nv (digs (nv ps % nv qs)))) (by omega) (by omega)) ?_
            rintro _ w38 ⟨A39, m40, cp41, rfl, hGw38, hO, hm42⟩
            have hO := hO.low (b' := w.heap.size) hB.size
            have hB := ext_trans hB hGw38
            have hO_l := hO.rd.ulen
            refine WL.assign rfl rfl ?_
            refine WL.done ?_
            refine W.ret ?_
            refine ⟨_, rfl, ?_⟩
            rw [nv_digs, gcd_step2, hg] at hO
            have hgl9 := gcd_len hLa hLb
            have hO9 := hO.rd.ulen
            exact ⟨_, _, _, rfl, hB, hO, by omega⟩
          · refine WL.done ?_
            refine W.condF rfl ?_
            refine W.skip ?_
            refine W.seq ?_
            refine W.region ?_
            refine WL.move rfl rfl ?_
            have hq64 := nv_lt2 hLq (by omega)
            have hp64 := nv_lt2 hLp (by omega)
            refine WL.call Try.func86 rfl Try.nm86 rfl rfl (word_n hp hLp (Nat.le_trans (sigL_le _) (by omega))) ?_
            rintro _ w43 ⟨rfl, hGw43⟩
            have hB := ext_trans hB hGw43
            have hq := hq.ext hGw43
            refine WL.move rfl rfl ?_
            refine WL.call Try.func86 rfl Try.nm86 rfl rfl (word_n hq hLq (Nat.le_trans (sigL_le _) (by omega))) ?_
            rintro _ w44 ⟨rfl, hGw44⟩
            have hB := ext_trans hB hGw44
            refine WL.call Try.func85 rfl Try.nm85 rfl rfl (wordGcd_c (nv ps) (nv qs) (by omega) (by omega) (by omega) (by omega)) ?_
            rintro _ w45 ⟨rfl, hGw45⟩
            have hB := ext_trans hB hGw45
            have hgl := gcd_lt64 (a := nv ps) (b := nv qs) (by omega) (by omega)
            refine WL.call Try.func84 rfl Try.nm84 rfl rfl (Of_c (Nat.gcd (nv ps) (nv qs)) (by omega) (by omega)) ?_
            rintro _ w46 ⟨A47, m48, cp49, rfl, hGw46, hO, hm50⟩
            have hO := hO.low (b' := w.heap.size) hB.size
            have hB := ext_trans hB hGw46
            have hO_l := hO.rd.ulen
            refine WL.assign rfl rfl ?_
            refine WL.done ?_
            refine W.ret ?_
            refine ⟨_, rfl, ?_⟩
            rw [hg] at hO
            have hgl9 := gcd_len hLa hLb
            have hO9 := hO.rd.ulen
            exact ⟨_, _, _, rfl, hB, hO, by omega⟩

end Go.Proofs.Ythfpcebcfjlkmab
set_option linter.unusedSimpArgs false
set_option linter.unusedVariables false
namespace Go.Proofs.Ythfpcebcfjlkmab
/-- The number n, with a sign. -/
def sgn (b : Bool) (n : Nat) : Int := if b then -(n : Int) else n
/-- The value of a fraction; 0 where the denominator is 0. -/
def val (b : Bool) (n d : Nat) : Rat := mkRat (sgn b n) d
def qneg (q : Rat) : Bool := decide (q.num < 0)
def qnum (q : Rat) : Nat := q.num.natAbs
theorem sgn_abs (b : Bool) (n : Nat) : (sgn b n).natAbs = n := by cases b <;> simp [sgn]
theorem sgn_zero (b : Bool) : sgn b 0 = 0 := by cases b <;> rfl
theorem sgn_eq_zero {b : Bool} {n : Nat} : sgn b n = 0 ↔ n = 0 := by cases b <;> simp [sgn]
theorem sgn_q (q : Rat) : sgn (qneg q) (qnum q) = q.num := by
  unfold sgn qneg qnum
  by_cases h : q.num < 0
  · simp only [h, decide_true, if_true]; omega
  · simp only [h, decide_false]; simp; omega
theorem val_q (q : Rat) : val (qneg q) (qnum q) q.den = q := by
  unfold val; rw [sgn_q]; exact Rat.mkRat_self q
theorem val_canon (q : Rat) : val (qneg q) (nv (digs (qnum q))) (nv (digs q.den)) = q := by
  rw [nv_digs, nv_digs]; exact val_q q
theorem val_n0 (b : Bool) (d : Nat) : val b 0 d = 0 := by unfold val; rw [sgn_zero]; exact Rat.zero_mkRat d
theorem val_d0 (b : Bool) (n : Nat) : val b n 0 = 0 := by unfold val; exact Rat.mkRat_zero _
theorem val_ne {b : Bool} {n d : Nat} (hn : n ≠ 0) (hd : d ≠ 0) : val b n d ≠ 0 := by
  unfold val; exact (Rat.mkRat_ne_zero hd).2 (fun h => hn (sgn_eq_zero.1 h))
theorem qnum_zero : qnum 0 = 0 := rfl
theorem qnum_eq_zero {q : Rat} : qnum q = 0 ↔ q = 0 := by
  unfold qnum; rw [Int.natAbs_eq_zero]; exact Rat.num_eq_zero
theorem val_num {b : Bool} {n d : Nat} (hd : d ≠ 0) : (val b n d).num = sgn b (n / Nat.gcd n d) := by
  unfold val
  rw [Rat.num_mkRat, if_neg hd, sgn_abs, Nat.gcd_comm]
  cases b
  · simp [sgn]
  · simp only [sgn, if_true]
    rw [Int.neg_ediv_of_dvd (Int.ofNat_dvd.2 (Nat.gcd_dvd_left n d))]
    simp
theorem val_den {b : Bool} {n d : Nat} (hd : d ≠ 0) : (val b n d).den = d / Nat.gcd n d := by
  unfold val
  rw [Rat.den_mkRat, if_neg hd, sgn_abs, Nat.gcd_comm]
theorem val_qnum {b : Bool} {n d : Nat} (hd : d ≠ 0) : qnum (val b n d) = n / Nat.gcd n d := by
  unfold qnum; rw [val_num hd, sgn_abs]
theorem val_qneg {b : Bool} {n d : Nat} (hn : n ≠ 0) (hd : d ≠ 0) : qneg (val b n d) = b := by
  unfold qneg
  rw [val_num hd]
  have h : 0 < n / Nat.gcd n d := Nat.div_gcd_pos_of_pos_left _ (by omega)
  cases b
  · simp [sgn]; omega
  · simp only [sgn, if_true]; rw [decide_eq_true]; omega
/-! ### operations -/
theorem sgn_mul (a b : Bool) (n m : Nat) : sgn a n * sgn b m = sgn (a != b) (n * m) := by
  cases a <;> cases b <;> simp [sgn, Int.neg_mul, Int.mul_neg]
theorem val_mul (a b : Bool) (n d m e : Nat) : val a n d * val b m e = val (a != b) (n * m) (d * e) := by
  unfold val; rw [Rat.mkRat_mul_mkRat, sgn_mul]
theorem val_inv {a : Bool} {n d : Nat} (hn : n ≠ 0) (hd : d ≠ 0) : val a d n = (val a n d)⁻¹ := by
  symm
  apply Rat.inv_eq_of_mul_eq_one
  rw [val_mul, Nat.mul_comm d n]
  unfold val
  rw [show (a != a) = false by cases a <;> rfl]
  rw [Rat.mkRat_eq_div]
  have h : ((n * d : Nat) : Rat) ≠ 0 := by
    intro h
    have h2 : n * d = 0 := by exact_mod_cast h
    rcases Nat.mul_eq_zero.1 h2 with h | h <;> omega
  have e1 : ((sgn false (n * d) : Int) : Rat) = ((n * d : Nat) : Rat) := by simp only [sgn]; rfl
  rw [e1, Rat.div_def, Rat.mul_inv_cancel _ h]
/-- The sign of a value. -/
def sg (q : Rat) : Int := if q.num < 0 then -1 else if q.num = 0 then 0 else 1
theorem sg_zero {q : Rat} : sg q = 0 ↔ q = 0 := by
  unfold sg; rw [← Rat.num_eq_zero (q := q)]
  by_cases h1 : q.num < 0
  · rw [if_pos h1]; omega
  · by_cases h2 : q.num = 0
    · simp [h2]
    · simp [h1, h2]
theorem sg_neg {q : Rat} (h : qneg q = true) : sg q = -1 := by
  unfold sg; unfold qneg at h; rw [if_pos (of_decide_eq_true h)]
theorem sg_pos {q : Rat} (h : qneg q = false) (h0 : q ≠ 0) : sg q = 1 := by
  unfold sg; unfold qneg at h
  rw [if_neg (of_decide_eq_false h), if_neg (fun e => h0 (Rat.num_eq_zero.1 e))]
end Go.Proofs.Ythfpcebcfjlkmab
