/- Contracts of functions of the program, and what they lean on: Draw2, Draw3, N1, N2. -/
import Derived.Test.YtdmgbahognfhbaaG2
set_option linter.unusedSimpArgs false
set_option linter.unusedVariables false
namespace Go.Proofs.Ytdmgbahognfhbaa
open Go.RowKit
/-- All that the operations of a list wait for, some steps back. -/
def reach (l : List Oper) : Nat → List Nat → List Nat
  | 0, js => js
  | f + 1, js => reach l f ((List.range l.length).filter fun j => js.contains j || js.any fun k => (anyOn l k).contains j)
theorem reach_all {l : List Oper} {p : Nat → Prop} (hcl : ∀ k, p k → ∀ j ∈ anyOn l k, p j) : ∀ (f : Nat) (js : List Nat), (∀ j ∈ js, p j) → ∀ j ∈ reach l f js, p j
  | 0, _, h => h
  | f + 1, js, h => reach_all hcl f _ fun j hj => by
    simp only [List.mem_filter, Bool.or_eq_true, List.contains_iff_mem, List.any_eq_true] at hj
    rcases hj.2 with hj | ⟨k, hk, hj⟩
    · exact h j hj
    · exact hcl k (h k hk) j hj
/-- A region of which all operations from m on wait for all that stand ahead of m. -/
def tailB (n : Nat) (l : List Oper) (ps : List Plan) (m : Nat) : Bool :=
  ps.length == m && Nat.ble m l.length && (List.range l.length).all (fun i => (anyOn l i).all (fun j => Nat.blt j i)) &&
    (List.range l.length).all (fun i => Nat.blt i m || (List.range m).all (fun j => (reach l 6 (anyOn l i)).contains j)) && (List.range m).all fun i =>
    (match ps[i]? with
     | none => false
     | some p => p.on.all (fun j => (anyOn l i).contains j) && p.slots.all (fun t => (List.range m).all fun k => k == i || dstAt l k != some t || (anyOn l k).contains i)) &&
    (match dstAt l i with
     | none => false
     | some d => Nat.blt d n && (List.range m).all fun k => k == i || dstAt l k != some d)
/-! ### all orders, one by one -/
/-- What is left of a region, in whatever order, when those in 'listed' have been carried out. -/
structure WA (P : Program) (n : Nat) (l : List Oper) (N : Post) (fuel : Nat) (listed : List Bool) (L : Fr) (w : World) : Prop where
  out : ∀ a, Has n a L → ∀ B, wpAny P .any l.toArray (fin n N B) fuel listed.toArray a w
theorem WA.done {P : Program} {n : Nat} {l : List Oper} {N : Post} {listed : List Bool} {L : Fr} {w : World} (hr : Region.ready .any l.toArray listed.toArray = []) (h : N L w) : WA P n l N 0 listed L w :=
  ⟨fun a ha B => ⟨hr, L, ha, h⟩⟩
theorem WA.step {P : Program} {n : Nat} {l : List Oper} {N : Post} {fuel : Nat} {listed : List Bool} {L : Fr} {w : World} (r : List Nat) (hr : Region.ready .any l.toArray listed.toArray = r) (hne : r.isEmpty = false)
    (h : ∀ i ∈ r, ∃ o, l[i]? = some o ∧ WL P n l.toArray [o] (fun L' w' => WA P n l N fuel (listed.set i true) L' w') L w) : WA P n l N (fuel + 1) listed L w := by
  refine ⟨fun a ha B => ⟨fun e => ?_, fun i hi => ?_⟩⟩
  · rw [hr] at e; rw [e] at hne; cases hne
  · rw [hr] at hi
    obtain ⟨o, ho, hW⟩ := h i hi
    have hW2 := hW.out a ha B
    have hend : ∀ a' w', wpList P l.toArray (fin n (fun L' w' => WA P n l N fuel (listed.set i true) L' w') B) [] a' w' → wpAny P .any l.toArray (fin n N B) fuel (listed.toArray.setIfInBounds i true) a' w' := fun a' w' hq => by
      obtain ⟨L', hL', hq⟩ := hq
      have := hq.out a' hL' B
      simpa using this
    unfold wpOp
    simp only [List.getElem?_toArray, ho]
    simp only [wpList] at hW2
    by_cases hwant : Region.wanted o (yielded l.toArray a.tmps) = true
    · rw [if_pos hwant] at hW2
      simp only [hwant, if_true]
      rcases hW2 with hW2 | hW2
      · refine .inl (oper_wp_mono hend (fun e a w hne h => ?_) hW2)
        cases e <;> first | exact absurd rfl hne | exact h
      · refine .inr ⟨hW2.1, ?_⟩
        obtain ⟨a1, w1, h1⟩ := hW2.2
        exact ⟨a1, w1, h1⟩
    · rw [if_neg hwant] at hW2
      simp only [hwant, if_false, Bool.false_eq_true]
      exact hend _ _ hW2
theorem W.drawA {P : Program} {n id : Nat} {l : List Oper} {N : Post} {B : BPost} {L : Fr} {w0 : World} (hm : P.follows .mixedOrders = true)
    (h : ∀ w, w0.grownBy w none → w.heap = w0.heap → WA P n l N l.length (List.replicate l.length false) L w) : W P n (.region id l.toArray true) N B L w0 := by
  refine ⟨fun a ha => wp_region_any hm ?_⟩
  have := (h { w0 with drawn := w0.drawn + 1 } ⟨rfl, rfl, rfl, Nat.le_refl _, fun _ _ _ => rfl⟩ rfl).out a ha B
  simpa using this
theorem W.drawT {P : Program} {n id : Nat} {l : List Oper} {N : Post} {B : BPost} {L : Fr} {w0 : World} (m : Nat) (ps : List Plan) (bs : List Fr) (V : Nat → Value → World → Prop)
    (hm : P.follows .mixedOrders = true) (hB : tailB n l ps m = true)
    (hV : ∀ j v w1 w2, V j v w1 → w1.grownBy w2 none → V j v w2)
    (hobs : obs P n l V (fun _ => True) w0 L (l.length + 1) 0 (l.take m) ps bs)
    (hN : ∀ (vals : Nat → Value) w', w0.grownBy w' none → (∀ i, i < m → V i (vals i) w') →
      WA P n l N (l.length - m) (List.replicate m true ++ List.replicate (l.length - m) false) ((((List.range m).filterMap fun i => (dstAt l i).map fun t => (t, vals i))) ++ L) w') : W P n (.region id l.toArray true) N B L w0 := by
  simp only [tailB, Bool.and_eq_true, Bool.or_eq_true, List.all_eq_true, List.mem_range, beq_iff_eq, List.contains_iff_mem] at hB
  obtain ⟨⟨⟨⟨hlen, hlm0⟩, hlt0⟩, htail⟩, hB⟩ := hB
  have hlm : m ≤ l.length := by simpa [Nat.ble_eq] using hlm0
  refine ⟨fun a ha => wp_region_any hm ?_⟩
  have hon_lt : ∀ k, k < l.length → ∀ j ∈ anyOn l k, j < k := fun k hk j hj => by simpa [Nat.blt_eq] using hlt0 k hk j hj
  have key : ∀ (fuel : Nat) (listed : Array Bool) (vals : Nat → Value) (a : Act) (w : World), listed.size = l.length → (listed.toList.filter (!·)).length = fuel + (l.length - m) → (∀ k, listed.getD k false = true → k < m) →
      DInv n l ps V (fun _ => True) w0 L (l.length + 1) (fun k => listed.getD k false) vals a w → wpAny P .any l.toArray (fin n N B) (fuel + (l.length - m)) listed a w := by
    intro fuel
    induction fuel with
    | zero =>
      intro listed vals a w hsz hf hnm I
      have hall : ∀ k, k < m → listed.getD k false = true := fun k hk => by
        cases hb : listed.getD k false with
        | true => rfl
        | false =>
          exfalso
          have hcnt : ∀ (x : List Bool) (m : Nat), m ≤ x.length → (∀ j, m ≤ j → j < x.length → x[j]? = some false) → (x.length - m) + ((x.take m).filter (!·)).length = (x.filter (!·)).length := by
            intro x m hmx hfalse
            have h1 : x = x.take m ++ x.drop m := (List.take_append_drop m x).symm
            have h2 : (x.drop m).filter (!·) = x.drop m := by
              rw [List.filter_eq_self]
              intro b hb
              obtain ⟨j, hj, rfl⟩ := List.mem_iff_getElem.1 hb
              have := hfalse (m + j) (by omega) (by simp at hj; omega)
              rw [List.getElem_drop]
              rw [List.getElem?_eq_getElem (by simp at hj; omega)] at this
              simpa using this
            conv => rhs; rw [h1]
            rw [List.filter_append, List.length_append, h2, List.length_drop]
            omega
          have hx := hcnt listed.toList m (by simp; omega) (fun j h1 h2 => by
            have hj : j < listed.size := by simpa using h2
            cases hbj : listed.getD j false with
            | true => have := hnm j hbj; omega
            | false =>
              simp [Array.getD_eq_getD_getElem?, hj] at hbj
              simp [hj, hbj])
          have hsz2 : listed.toList.length = l.length := by simpa using hsz
          have hzero : ((listed.toList.take m).filter (!·)).length = 0 := by omega
          have hz := filter_zero hzero k (by simp; omega)
          rw [List.getElem?_take, if_pos hk] at hz
          have hk2 : k < listed.size := by omega
          simp [Array.getD_eq_getD_getElem?, hk2] at hb
          simp [hk2, hb] at hz
      have hlist : listed = (List.replicate m true ++ List.replicate (l.length - m) false).toArray := by
        apply Array.ext
        · simp [hsz]; omega
        · intro k h1 h2
          have hk : k < l.length := by omega
          rcases Nat.lt_or_ge k m with h | h
          · have := hall k h
            simp [Array.getD_eq_getD_getElem?, h1] at this
            simp [this, List.getElem_append, h]
          · have hb : listed.getD k false = false := by
              cases hb : listed.getD k false with
              | false => rfl
              | true => have := hnm k hb; omega
            simp [Array.getD_eq_getD_getElem?, h1] at hb
            simp [hb, List.getElem_append, show ¬ k < m by omega]
      have hw := I.wd (by simp [Array.getD_eq_getD_getElem?, show ¬ l.length + 1 < listed.size by omega])
      have hvs : ∀ j, j < m → V j (vals j) w := fun j hj => I.vs j (hall j hj) (by omega)
      have hW := hN vals w hw hvs
      have hHas : Has n a ((((List.range m).filterMap fun i => (dstAt l i).map fun t => (t, vals i))) ++ L) := by
        refine ⟨I.nd, I.sz, fun t v hv => ?_⟩
        rw [lk_append] at hv
        cases hc : lk ((List.range m).filterMap fun i => (dstAt l i).map fun t => (t, vals i)) t with
        | some u =>
          rw [hc] at hv
          cases hv
          have := lk_mem hc
          simp only [List.mem_filterMap, List.mem_range, Option.map_eq_some_iff] at this
          obtain ⟨k, hk, t', ht', he⟩ := this
          cases he
          exact I.new k t (hall k hk) ht'
        | none =>
          rw [hc] at hv
          refine I.old t v hv fun k hk hd => ?_
          have hm2 : (t, vals k) ∈ (List.range m).filterMap fun i => (dstAt l i).map fun t => (t, vals i) := by
            simp only [List.mem_filterMap, List.mem_range, Option.map_eq_some_iff]
            exact ⟨k, hnm k hk, t, hd, rfl⟩
          obtain ⟨u, hu⟩ := lk_of_mem hm2
          rw [hc] at hu; cases hu
      rw [hlist, Nat.zero_add]
      exact hW.out a hHas B
    | succ fuel ih =>
      intro listed vals a w hsz hf hnm I
      rw [show fuel + 1 + (l.length - m) = (fuel + (l.length - m)) + 1 by omega] at hf ⊢
      have hlist : ∀ k, listed.getD k true = false → k < l.length ∧ listed.getD k false = false := fun k hk => by
        rcases Nat.lt_or_ge k listed.size with h | h
        · simp [Array.getD_eq_getD_getElem?, h] at hk ⊢
          exact ⟨by omega, hk⟩
        · simp [Array.getD_eq_getD_getElem?, Array.getElem?_eq_none h] at hk
      refine ⟨?_, ?_⟩
      · intro hr
        -- the first that has not come up yet is ready
        exfalso
        have hex : ∃ k, k < l.length ∧ listed.getD k false = false := by
          by_cases hc : ∃ k, k < l.length ∧ listed.getD k false = false
          · exact hc
          · have hfe : listed.toList.filter (!·) = [] := by
              rw [List.filter_eq_nil_iff]
              intro b hb
              obtain ⟨k, hk, rfl⟩ := List.mem_iff_getElem.1 hb
              have hk' : k < listed.size := by simpa using hk
              have : ¬ listed.getD k false = false := fun h => hc ⟨k, by omega, h⟩
              simp [Array.getD_eq_getD_getElem?, hk'] at this
              simp [this]
            rw [hfe] at hf; simp at hf
        have hmin : ∀ m, (∃ k, k ≤ m ∧ k < l.length ∧ listed.getD k false = false) → ∃ k, k < l.length ∧ listed.getD k false = false ∧ ∀ j, j < k → listed.getD j false = true := by
          intro m
          induction m with
          | zero => rintro ⟨k, hk, h1, h2⟩; exact ⟨k, h1, h2, fun j hj => by omega⟩
          | succ m ihm =>
            rintro ⟨k, hk, h1, h2⟩
            by_cases hc : ∃ j, j ≤ m ∧ j < l.length ∧ listed.getD j false = false
            · exact ihm hc
            · refine ⟨k, h1, h2, fun j hj => ?_⟩
              cases hb : listed.getD j false with
              | true => rfl
              | false => exact absurd ⟨j, by omega, by omega, hb⟩ hc
        obtain ⟨k0, hk0, hk0'⟩ := hex
        obtain ⟨k, h1, h2, h3⟩ := hmin k0 ⟨k0, Nat.le_refl _, hk0, hk0'⟩
        have hin : k ∈ Region.ready .any l.toArray listed := by
          refine mem_ready.2 ⟨?_, l[k], by simp [h1], fun e he hb => ?_⟩
          · have : k < listed.size := by omega
            simp [Array.getD_eq_getD_getElem?, this] at h2 ⊢
            exact h2
          · have hon : e.on ∈ anyOn l k := by
              simp only [anyOn, List.getElem?_eq_getElem h1, List.mem_map, List.mem_filter]
              exact ⟨e, ⟨by simpa using he, hb⟩, rfl⟩
            exact h3 e.on (hon_lt k h1 _ hon)
        rw [hr] at hin; cases hin
      · intro i hi
        obtain ⟨h1, o, ho, hpre⟩ := mem_ready.1 hi
        obtain ⟨hil0, hun⟩ := hlist i h1
        have ho' : l[i]? = some o := by simpa using ho
        have hpre' : ∀ j ∈ anyOn l i, listed.getD j false = true := fun j hj => by
          simp only [anyOn, ho', List.mem_map, List.mem_filter] at hj
          obtain ⟨e, ⟨he, hb⟩, rfl⟩ := hj
          exact hpre e (by simpa using he) hb
        have hil : i < m := by
          rcases Nat.lt_or_ge i m with h | h
          · exact h
          · exfalso
            have hall : ∀ k, k < m → listed.getD k false = true := fun k hk => by
              rcases htail i hil0 with h2 | h2
              · simp [Nat.blt_eq] at h2; omega
              · exact reach_all (p := fun k => listed.getD k false = true) I.cl 6 (anyOn l i) hpre' k (h2 k hk)
            have hcnt : ∀ (x : List Bool) (m : Nat), (∀ j, j < m → x[j]? = some true) → (x.filter (!·)).length ≤ x.length - m := by
              intro x m
              induction m generalizing x with
              | zero => intro _; exact List.length_filter_le _ _
              | succ m ih =>
                intro h
                cases x with
                | nil => simp
                | cons b x =>
                  have hb := h 0 (by omega)
                  simp at hb
                  subst hb
                  have := ih x (fun j hj => by have := h (j + 1) (by omega); simpa using this)
                  simpa using this
            have := hcnt listed.toList m (fun j hj => by
              have h3 := hall j hj
              have hj2 : j < listed.size := by omega
              simp [Array.getD_eq_getD_getElem?, hj2] at h3
              simp [hj2, h3])
            have hsz2 : listed.toList.length = l.length := by simpa using hsz
            omega
        obtain ⟨hp, hd⟩ := hB i hil
        have hpi : i < ps.length := by omega
        rw [List.getElem?_eq_getElem hpi] at hp
        generalize hpe : ps[i] = p at hp
        simp only [Bool.and_eq_true, List.all_eq_true, Bool.or_eq_true, List.mem_range, beq_iff_eq, bne_iff_ne, ne_eq, List.contains_iff_mem] at hp
        obtain ⟨hon, hsl⟩ := hp
        obtain ⟨b, hbs, hsub, hob⟩ := obs_at (l.take m) ps bs 0 hobs i o p (by rw [List.getElem?_take, if_pos hil]; exact ho') (by rw [List.getElem?_eq_getElem hpi, hpe])
        rw [Nat.zero_add] at hob
        have hw0 : p.pure = false → w0.grownBy w none := fun _ => I.wd (by
          cases hb : listed.getD (l.length + 1) false with
          | false => rfl
          | true => have := I.lt _ hb; omega)
        have hT := told_at vals p.on b (hob w hw0) (fun j hj => I.vs j (hpre' j (hon j hj)) (by have := hon_lt i hil0 j (hon j hj); omega))
        generalize hF : (List.map (fun j => ((dstAt l j).getD 0, vals j)) p.on).reverse ++ b = F at hT
        have hdst : ∀ j, j < m → ∃ d, dstAt l j = some d ∧ d < n := fun j hj => by
          have := (hB j hj).2
          cases hd : dstAt l j with
          | none => rw [hd] at this; simp at this
          | some d => rw [hd] at this; simp only [Bool.and_eq_true] at this; exact ⟨d, rfl, by simpa [Nat.blt_eq] using this.1⟩
        have hHF : Has n a (F ++ (List.range n).map fun t => (t, a.tmps.getD t undef)) := by
          refine ⟨I.nd, I.sz, fun t v hv => ?_⟩
          rw [lk_append] at hv
          cases hc : lk F t with
          | some u =>
            rw [hc] at hv; cases hv
            have hm := lk_mem hc
            rw [← hF] at hm
            rcases List.mem_append.1 hm with hm | hm
            · simp only [List.mem_reverse, List.mem_map] at hm
              obtain ⟨j, hj, he⟩ := hm
              cases he
              obtain ⟨d, hd', _⟩ := hdst j (hnm j (hpre' j (hon j hj)))
              rw [hd']
              exact I.new j d (hpre' j (hon j hj)) hd'
            · have hL := sub_at hsub hm
              have hts : t ∈ p.slots := by rw [← hbs]; exact List.mem_map.2 ⟨_, hm, rfl⟩
              refine I.old t v hL fun k hk hdk => ?_
              rcases hsl t hts k (hnm k hk) with (h | h) | h
              · subst h; rw [hun] at hk; cases hk
              · exact h hdk
              · have := I.cl k hk i h; rw [hun] at this; cases this
          | none =>
            rw [hc] at hv
            have hm := lk_mem hv
            simp only [List.mem_map, List.mem_range] at hm
            obtain ⟨t', ht', he⟩ := hm
            cases he
            have : t < a.tmps.size := by rw [I.sz]; exact ht'
            simp [Array.getD_eq_getD_getElem?, this]
        have hW := (hT ((List.range n).map fun t => (t, a.tmps.getD t undef))).out a hHF (fun _ _ _ => False)
        have hne1 : i ≠ l.length + 1 := by omega
        have fin' : ∀ a' w', wpList P l.toArray (fin n (fun L' w' => if i = l.length + 1 then L' = F ++ (List.range n).map (fun t => (t, a.tmps.getD t undef)) ∧ True else ∃ u, L' = ((dstAt l i).getD 0, u) :: (F ++ (List.range n).map fun t => (t, a.tmps.getD t undef)) ∧ (if p.pure then w' = w else w.grownBy w' none) ∧ V i u w') (fun _ _ _ => False)) [] a' w' →
            wpAny P .any l.toArray (fin n N B) (fuel + (l.length - m)) (listed.setIfInBounds i true) a' w' := by
          intro a' w' hq
          obtain ⟨L', hL', hq⟩ := hq
          rw [if_neg hne1] at hq
          have hisz : i < listed.size := by omega
          have hset : ∀ k, (listed.setIfInBounds i true).getD k false = true → k = i ∨ listed.getD k false = true := fun k hk => by
            rw [getD_set _ _ _ hisz] at hk
            simp only [Bool.or_eq_true, decide_eq_true_eq] at hk
            exact hk.imp Eq.symm (fun h => h)
          have hset' : ∀ k, k = i ∨ listed.getD k false = true → (listed.setIfInBounds i true).getD k false = true := fun k hk => by
            rw [getD_set _ _ _ hisz]
            simp only [Bool.or_eq_true, decide_eq_true_eq]
            exact hk.imp Eq.symm (fun h => h)
          have hcount : ((listed.setIfInBounds i true).toList.filter (!·)).length = fuel + (l.length - m) := by
            have hg : listed.toList[i]? = some false := by
              simp [Array.getD_eq_getD_getElem?, hisz] at hun
              simp [hisz, hun]
            have := filter_set listed.toList i hg
            rw [Array.toList_setIfInBounds]
            omega
          have hm0' : ∀ k, (listed.setIfInBounds i true).getD k false = true → k < m := fun k hk => by
            rcases hset k hk with rfl | h
            · exact hil
            · exact hnm k h
          have hcl : ∀ k, (listed.setIfInBounds i true).getD k false = true → ∀ j ∈ anyOn l k, (listed.setIfInBounds i true).getD j false = true := fun k hk j hj => by
            rcases hset k hk with rfl | h
            · exact hset' j (.inr (hpre' j hj))
            · exact hset' j (.inr (I.cl k h j hj))
          have hlt : ∀ k, (listed.setIfInBounds i true).getD k false = true → k < l.length := fun k hk => by
            rcases hset k hk with rfl | h
            · exact hil0
            · exact I.lt k h
          have hsome : ∀ t, t < n → ∃ v, lk (F ++ (List.range n).map fun t => (t, a.tmps.getD t undef)) t = some v := fun t ht => by
            rw [lk_append]
            cases lk F t with
            | some u => exact ⟨u, rfl⟩
            | none => exact ⟨_, lk_full a n t ht⟩
          obtain ⟨u, rfl, hww, hVu⟩ := hq
          obtain ⟨d, hdd, hdn⟩ := hdst i hil
          rw [hdd] at hL' hd
          simp only [Option.getD_some] at hL'
          simp only [Bool.and_eq_true, List.all_eq_true, List.mem_range, Bool.or_eq_true, beq_iff_eq, bne_iff_ne, ne_eq] at hd
          have hsame' : ∀ t v, t ≠ d → a.tmps[t]? = some v → a'.tmps[t]? = some v := fun t v hne hv => by
            have ht : t < n := by have := (Array.getElem?_eq_some_iff.1 hv).1; rw [I.sz] at this; exact this
            obtain ⟨v', hv'⟩ := hsome t ht
            have h2 := hHF.at_ t v' hv'
            rw [hv] at h2; cases h2
            exact hL'.at_ t v (by rw [lk_ne (Ne.symm hne)]; exact hv')
          have hnew : a'.tmps[d]? = some u := hL'.at_ d u (lk_self _ _ _)
          have hgw : w.grownBy w' none := by
            by_cases hp' : p.pure = true
            · rw [if_pos hp'] at hww; subst hww; exact ext_refl _
            · rw [if_neg hp'] at hww; exact hww
          have hVk : ∀ k, listed.getD k false = true → k ≠ l.length + 1 → V k (vals k) w' := fun k h hne => hV k _ w w' (I.vs k h hne) hgw
          refine ih _ (fun k => if k = i then u else vals k) a' w' (by simpa using hsz) hcount hm0' ⟨hL'.nd, hL'.sz, fun t v ht hk => ?_, fun k t hk ht => ?_, fun h => ?_, fun h => trivial, fun k hk hne => ?_, hcl, hlt⟩
          · exact hsame' t v (fun e' => hk i (hset' i (.inl rfl)) (by rw [hdd, e'])) (I.old t v ht fun k h => hk k (hset' k (.inr h)))
          · by_cases ek : k = i
            · subst ek; rw [hdd] at ht; cases ht; simpa using hnew
            · rw [if_neg ek]
              rcases hset k hk with h | h
              · exact absurd h ek
              · refine hsame' t _ (fun e' => ?_) (I.new k t h ht)
                rcases hd.2 k (hnm k h) with h' | h'
                · exact ek h'
                · exact h' (by rw [ht, e'])
          · refine ext_trans (I.wd ?_) hgw
            cases hb : listed.getD (l.length + 1) false with
            | false => rfl
            | true => have := I.lt _ hb; omega
          · by_cases ek : k = i
            · subst ek; simpa using hVu
            · rw [if_neg ek]
              rcases hset k hk with h | h
              · exact absurd h ek
              · exact hVk k h hne
        unfold wpOp
        rw [ho]
        simp only [wpList] at hW
        by_cases hwant : Region.wanted o (yielded l.toArray a.tmps) = true
        · rw [if_pos hwant] at hW
          simp only [hwant, if_true]
          rcases hW with hW | ⟨_, a', w', L', _, hF'⟩
          · exact .inl (oper_wp_mono fin' (fun e a w hne h => by cases e <;> first | exact absurd rfl hne | (obtain ⟨_, _, h⟩ := h; exact h.elim)) hW)
          · exact hF'.elim
        · rw [if_neg hwant] at hW
          simp only [hwant, if_false, Bool.false_eq_true]
          exact fin' _ _ hW
  have hsz0 : ((Array.replicate l.toArray.size false).toList.filter (!·)).length = m + (l.length - m) := by simp; omega
  have := key m (Array.replicate l.toArray.size false) (fun _ => undef) a { w0 with drawn := w0.drawn + 1 } (by simp) hsz0 (fun k h => by rw [getD_rep] at h; cases h) {
    nd := ha.nd, sz := ha.sz
    old := fun t v h _ => ha.at_ t v h
    new := fun k t h => by rw [getD_rep] at h; cases h
    wd := fun _ => ⟨rfl, rfl, rfl, Nat.le_refl _, fun _ _ _ => rfl⟩
    ws := fun h => trivial
    vs := fun k h => by rw [getD_rep] at h; cases h
    cl := fun k h => by rw [getD_rep] at h; cases h
    lt := fun k h => by rw [getD_rep] at h; cases h }
  rw [show m + (l.length - m) = l.toArray.size by simp; omega] at this
  exact this
theorem Vs_monoT (Vs : List (Value → World → Prop)) (h : ∀ V ∈ Vs, ∀ v w1 w2, V v w1 → w1.grownBy w2 none → V v w2) :
    ∀ j v w1 w2, (Vs.getD j (fun _ _ => True)) v w1 → w1.grownBy w2 none → (Vs.getD j (fun _ _ => True)) v w2 := by
  intro j v w1 w2 h1 h2
  rw [List.getD_eq_getElem?_getD] at h1 ⊢
  cases hj : Vs[j]? with
  | none => trivial
  | some V => rw [hj] at h1; exact h V (List.mem_of_getElem? hj) v w1 w2 h1 h2
end Go.Proofs.Ytdmgbahognfhbaa
set_option linter.unusedSimpArgs false
set_option linter.unusedVariables false
namespace Go.Proofs.Ytdmgbahognfhbaa
open Go.RowKit
/-- The same, where one operation ahead of m may come late. -/
def tailF (n : Nat) (l : List Oper) (ps : List Plan) (m f : Nat) : Bool :=
  ps.length == m && Nat.ble m l.length && (List.range l.length).all (fun i => (anyOn l i).all (fun j => Nat.blt j i)) &&
    (List.range l.length).all (fun i => Nat.blt i m || (List.range m).all (fun j => j == f || (reach l 6 (anyOn l i)).contains j)) && (List.range m).all fun i =>
    (match ps[i]? with
     | none => false
     | some p => p.on.all (fun j => (anyOn l i).contains j) && p.slots.all (fun t => (List.range m).all fun k => k == i || dstAt l k != some t || (anyOn l k).contains i)) &&
    (match dstAt l i with
     | none => false
     | some d => Nat.blt d n && (List.range m).all fun k => k == i || dstAt l k != some d)
theorem cnt_le : ∀ (x : List Bool) (m : Nat), (∀ j, j < m → x[j]? = some true) → (x.filter (!·)).length ≤ x.length - m := by
  intro x m
  induction m generalizing x with
  | zero => intro _; exact List.length_filter_le _ _
  | succ m ih =>
    intro h
    cases x with
    | nil => simp
    | cons b x =>
      have hb := h 0 (by omega)
      simp at hb
      subst hb
      have := ih x (fun j hj => by have := h (j + 1) (by omega); simpa using this)
      simpa using this
theorem W.drawF {P : Program} {n id : Nat} {l : List Oper} {N : Post} {B : BPost} {L : Fr} {w0 : World} (m f : Nat) (ps : List Plan) (bs : List Fr) (V : Nat → Value → World → Prop)
    (hm : P.follows .mixedOrders = true) (hB : tailF n l ps m f = true)
    (hV : ∀ j v w1 w2, V j v w1 → w1.grownBy w2 none → V j v w2)
    (hobs : obs P n l V (fun _ => True) w0 L (l.length + 1) 0 (l.take m) ps bs)
    (hN : ∀ (vals : Nat → Value) w', w0.grownBy w' none → (∀ i, i < m → V i (vals i) w') →
      WA P n l N (l.length - m) (List.replicate m true ++ List.replicate (l.length - m) false) ((((List.range m).filterMap fun i => (dstAt l i).map fun t => (t, vals i))) ++ L) w')
    (hN2 : ∀ (vals : Nat → Value) w', w0.grownBy w' none → (∀ i, i < m → i ≠ f → V i (vals i) w') → ∀ q, q = (((List.range l.length).map fun k => Nat.blt k m && !(Nat.beq k f)).filter (!·)).length →
      WA P n l N q ((List.range l.length).map fun k => Nat.blt k m && !(Nat.beq k f)) ((((List.range m).filterMap fun i => if i = f then none else (dstAt l i).map fun t => (t, vals i))) ++ L) w') : W P n (.region id l.toArray true) N B L w0 := by
  simp only [tailF, Bool.and_eq_true, Bool.or_eq_true, List.all_eq_true, List.mem_range, beq_iff_eq, List.contains_iff_mem] at hB
  obtain ⟨⟨⟨⟨hlen, hlm0⟩, hlt0⟩, htail⟩, hB⟩ := hB
  have hlm : m ≤ l.length := by simpa [Nat.ble_eq] using hlm0
  refine ⟨fun a ha => wp_region_any hm ?_⟩
  have hon_lt : ∀ k, k < l.length → ∀ j ∈ anyOn l k, j < k := fun k hk j hj => by simpa [Nat.blt_eq] using hlt0 k hk j hj
  have key : ∀ (fuel : Nat) (listed : Array Bool) (vals : Nat → Value) (a : Act) (w : World), listed.size = l.length → (listed.toList.filter (!·)).length = fuel + (l.length - m) → (∀ k, listed.getD k false = true → k < m) →
      DInv n l ps V (fun _ => True) w0 L (l.length + 1) (fun k => listed.getD k false) vals a w → wpAny P .any l.toArray (fin n N B) (fuel + (l.length - m)) listed a w := by
    intro fuel
    induction fuel with
    | zero =>
      intro listed vals a w hsz hf hnm I
      have hall : ∀ k, k < m → listed.getD k false = true := fun k hk => by
        cases hb : listed.getD k false with
        | true => rfl
        | false =>
          exfalso
          have hcnt : ∀ (x : List Bool) (m : Nat), m ≤ x.length → (∀ j, m ≤ j → j < x.length → x[j]? = some false) → (x.length - m) + ((x.take m).filter (!·)).length = (x.filter (!·)).length := by
            intro x m hmx hfalse
            have h1 : x = x.take m ++ x.drop m := (List.take_append_drop m x).symm
            have h2 : (x.drop m).filter (!·) = x.drop m := by
              rw [List.filter_eq_self]
              intro b hb
              obtain ⟨j, hj, rfl⟩ := List.mem_iff_getElem.1 hb
              have := hfalse (m + j) (by omega) (by simp at hj; omega)
              rw [List.getElem_drop]
              rw [List.getElem?_eq_getElem (by simp at hj; omega)] at this
              simpa using this
            conv => rhs; rw [h1]
            rw [List.filter_append, List.length_append, h2, List.length_drop]
            omega
          have hx := hcnt listed.toList m (by simp; omega) (fun j h1 h2 => by
            have hj : j < listed.size := by simpa using h2
            cases hbj : listed.getD j false with
            | true => have := hnm j hbj; omega
            | false =>
              simp [Array.getD_eq_getD_getElem?, hj] at hbj
              simp [hj, hbj])
          have hsz2 : listed.toList.length = l.length := by simpa using hsz
          have hzero : ((listed.toList.take m).filter (!·)).length = 0 := by omega
          have hz := filter_zero hzero k (by simp; omega)
          rw [List.getElem?_take, if_pos hk] at hz
          have hk2 : k < listed.size := by omega
          simp [Array.getD_eq_getD_getElem?, hk2] at hb
          simp [hk2, hb] at hz
      have hlist : listed = (List.replicate m true ++ List.replicate (l.length - m) false).toArray := by
        apply Array.ext
        · simp [hsz]; omega
        · intro k h1 h2
          have hk : k < l.length := by omega
          rcases Nat.lt_or_ge k m with h | h
          · have := hall k h
            simp [Array.getD_eq_getD_getElem?, h1] at this
            simp [this, List.getElem_append, h]
          · have hb : listed.getD k false = false := by
              cases hb : listed.getD k false with
              | false => rfl
              | true => have := hnm k hb; omega
            simp [Array.getD_eq_getD_getElem?, h1] at hb
            simp [hb, List.getElem_append, show ¬ k < m by omega]
      have hw := I.wd (by simp [Array.getD_eq_getD_getElem?, show ¬ l.length + 1 < listed.size by omega])
      have hvs : ∀ j, j < m → V j (vals j) w := fun j hj => I.vs j (hall j hj) (by omega)
      have hW := hN vals w hw hvs
      have hHas : Has n a ((((List.range m).filterMap fun i => (dstAt l i).map fun t => (t, vals i))) ++ L) := by
        refine ⟨I.nd, I.sz, fun t v hv => ?_⟩
        rw [lk_append] at hv
        cases hc : lk ((List.range m).filterMap fun i => (dstAt l i).map fun t => (t, vals i)) t with
        | some u =>
          rw [hc] at hv
          cases hv
          have := lk_mem hc
          simp only [List.mem_filterMap, List.mem_range, Option.map_eq_some_iff] at this
          obtain ⟨k, hk, t', ht', he⟩ := this
          cases he
          exact I.new k t (hall k hk) ht'
        | none =>
          rw [hc] at hv
          refine I.old t v hv fun k hk hd => ?_
          have hm2 : (t, vals k) ∈ (List.range m).filterMap fun i => (dstAt l i).map fun t => (t, vals i) := by
            simp only [List.mem_filterMap, List.mem_range, Option.map_eq_some_iff]
            exact ⟨k, hnm k hk, t, hd, rfl⟩
          obtain ⟨u, hu⟩ := lk_of_mem hm2
          rw [hc] at hu; cases hu
      rw [hlist, Nat.zero_add]
      exact hW.out a hHas B
    | succ fuel ih =>
      intro listed vals a w hsz hf hnm I
      rw [show fuel + 1 + (l.length - m) = (fuel + (l.length - m)) + 1 by omega] at hf ⊢
      have hlist : ∀ k, listed.getD k true = false → k < l.length ∧ listed.getD k false = false := fun k hk => by
        rcases Nat.lt_or_ge k listed.size with h | h
        · simp [Array.getD_eq_getD_getElem?, h] at hk ⊢
          exact ⟨by omega, hk⟩
        · simp [Array.getD_eq_getD_getElem?, Array.getElem?_eq_none h] at hk
      by_cases hcase : ∀ k, k < m → k ≠ f → listed.getD k false = true
      · by_cases hfl : f < m ∧ listed.getD f false = false
        · have hX : listed = ((List.range l.length).map fun k => Nat.blt k m && !(Nat.beq k f)).toArray := by
            apply Array.ext
            · simp [hsz]
            · intro k h1 h2
              have hk : k < l.length := by omega
              have hv : listed.getD k false = listed[k] := by simp [Array.getD_eq_getD_getElem?, h1]
              rw [← hv]
              simp only [List.getElem_toArray, List.getElem_map, List.getElem_range]
              by_cases hkf : k = f
              · subst hkf; rw [hfl.2]; simp [beq_self]
              · rcases Nat.lt_or_ge k m with h | h
                · rw [hcase k h hkf, beq_ne hkf]; simp [Nat.blt_eq, h]
                · have hb : listed.getD k false = false := by
                    cases hb : listed.getD k false with
                    | false => rfl
                    | true => have := hnm k hb; omega
                  rw [hb, beq_ne hkf]
                  have : Nat.blt k m = false := by
                    cases hc : Nat.blt k m with
                    | false => rfl
                    | true => rw [Nat.blt_eq] at hc; omega
                  rw [this]; rfl
          have hw := I.wd (by simp [Array.getD_eq_getD_getElem?, show ¬ l.length + 1 < listed.size by omega])
          have hvs : ∀ j, j < m → j ≠ f → V j (vals j) w := fun j hj hne => I.vs j (hcase j hj hne) (by omega)
          have hW := hN2 vals w hw hvs (fuel + 1 + (l.length - m)) (by rw [← @List.toList_toArray _ ((List.range l.length).map fun k => Nat.blt k m && !(Nat.beq k f)), ← hX]; omega)
          have hHas : Has n a ((((List.range m).filterMap fun i => if i = f then none else (dstAt l i).map fun t => (t, vals i))) ++ L) := by
            refine ⟨I.nd, I.sz, fun t v hv => ?_⟩
            rw [lk_append] at hv
            cases hc : lk ((List.range m).filterMap fun i => if i = f then none else (dstAt l i).map fun t => (t, vals i)) t with
            | some u =>
              rw [hc] at hv
              cases hv
              have := lk_mem hc
              simp only [List.mem_filterMap, List.mem_range] at this
              obtain ⟨k, hk, he⟩ := this
              by_cases hkf : k = f
              · rw [if_pos hkf] at he; cases he
              · rw [if_neg hkf] at he
                simp only [Option.map_eq_some_iff] at he
                obtain ⟨t', ht', he⟩ := he
                cases he
                exact I.new k t (hcase k hk hkf) ht'
            | none =>
              rw [hc] at hv
              refine I.old t v hv fun k hk hd => ?_
              have hkf : k ≠ f := fun e => by subst e; rw [hfl.2] at hk; cases hk
              have hm2 : (t, vals k) ∈ (List.range m).filterMap fun i => if i = f then none else (dstAt l i).map fun t => (t, vals i) := by
                simp only [List.mem_filterMap, List.mem_range]
                exact ⟨k, hnm k hk, by rw [if_neg hkf]; simp [hd]⟩
              obtain ⟨u, hu⟩ := lk_of_mem hm2
              rw [hc] at hu; cases hu
          rw [hX, show fuel + (l.length - m) + 1 = fuel + 1 + (l.length - m) by omega]
          exact hW.out a hHas B
        · exfalso
          have hall : ∀ k, k < m → listed.getD k false = true := fun k hk => by
            by_cases hkf : k = f
            · subst hkf
              cases hb : listed.getD k false with
              | true => rfl
              | false => exact absurd ⟨hk, hb⟩ hfl
            · exact hcase k hk hkf
          have := cnt_le listed.toList m (fun j hj => by
            have h3 := hall j hj
            have hj2 : j < listed.size := by omega
            simp [Array.getD_eq_getD_getElem?, hj2] at h3
            simp [hj2, h3])
          have hsz2 : listed.toList.length = l.length := by simpa using hsz
          omega
      · refine ⟨?_, ?_⟩
        · intro hr
          -- the first that has not come up yet is ready
          exfalso
          have hex : ∃ k, k < l.length ∧ listed.getD k false = false := by
            by_cases hc : ∃ k, k < l.length ∧ listed.getD k false = false
            · exact hc
            · have hfe : listed.toList.filter (!·) = [] := by
                rw [List.filter_eq_nil_iff]
                intro b hb
                obtain ⟨k, hk, rfl⟩ := List.mem_iff_getElem.1 hb
                have hk' : k < listed.size := by simpa using hk
                have : ¬ listed.getD k false = false := fun h => hc ⟨k, by omega, h⟩
                simp [Array.getD_eq_getD_getElem?, hk'] at this
                simp [this]
              rw [hfe] at hf; simp at hf
          have hmin : ∀ m, (∃ k, k ≤ m ∧ k < l.length ∧ listed.getD k false = false) → ∃ k, k < l.length ∧ listed.getD k false = false ∧ ∀ j, j < k → listed.getD j false = true := by
            intro m
            induction m with
            | zero => rintro ⟨k, hk, h1, h2⟩; exact ⟨k, h1, h2, fun j hj => by omega⟩
            | succ m ihm =>
              rintro ⟨k, hk, h1, h2⟩
              by_cases hc : ∃ j, j ≤ m ∧ j < l.length ∧ listed.getD j false = false
              · exact ihm hc
              · refine ⟨k, h1, h2, fun j hj => ?_⟩
                cases hb : listed.getD j false with
                | true => rfl
                | false => exact absurd ⟨j, by omega, by omega, hb⟩ hc
          obtain ⟨k0, hk0, hk0'⟩ := hex
          obtain ⟨k, h1, h2, h3⟩ := hmin k0 ⟨k0, Nat.le_refl _, hk0, hk0'⟩
          have hin : k ∈ Region.ready .any l.toArray listed := by
            refine mem_ready.2 ⟨?_, l[k], by simp [h1], fun e he hb => ?_⟩
            · have : k < listed.size := by omega
              simp [Array.getD_eq_getD_getElem?, this] at h2 ⊢
              exact h2
            · have hon : e.on ∈ anyOn l k := by
                simp only [anyOn, List.getElem?_eq_getElem h1, List.mem_map, List.mem_filter]
                exact ⟨e, ⟨by simpa using he, hb⟩, rfl⟩
              exact h3 e.on (hon_lt k h1 _ hon)
          rw [hr] at hin; cases hin
        · intro i hi
          obtain ⟨h1, o, ho, hpre⟩ := mem_ready.1 hi
          obtain ⟨hil0, hun⟩ := hlist i h1
          have ho' : l[i]? = some o := by simpa using ho
          have hpre' : ∀ j ∈ anyOn l i, listed.getD j false = true := fun j hj => by
            simp only [anyOn, ho', List.mem_map, List.mem_filter] at hj
            obtain ⟨e, ⟨he, hb⟩, rfl⟩ := hj
            exact hpre e (by simpa using he) hb
          have hil : i < m := by
            rcases Nat.lt_or_ge i m with h | h
            · exact h
            · exfalso
              refine hcase fun k hk hkf => ?_
              rcases htail i hil0 with h2 | h2
              · simp [Nat.blt_eq] at h2; omega
              · rcases h2 k hk with h3 | h3
                · exact absurd h3 hkf
                · exact reach_all (p := fun k => listed.getD k false = true) I.cl 6 (anyOn l i) hpre' k h3
          obtain ⟨hp, hd⟩ := hB i hil
          have hpi : i < ps.length := by omega
          rw [List.getElem?_eq_getElem hpi] at hp
          generalize hpe : ps[i] = p at hp
          simp only [Bool.and_eq_true, List.all_eq_true, Bool.or_eq_true, List.mem_range, beq_iff_eq, bne_iff_ne, ne_eq, List.contains_iff_mem] at hp
          obtain ⟨hon, hsl⟩ := hp
          obtain ⟨b, hbs, hsub, hob⟩ := obs_at (l.take m) ps bs 0 hobs i o p (by rw [List.getElem?_take, if_pos hil]; exact ho') (by rw [List.getElem?_eq_getElem hpi, hpe])
          rw [Nat.zero_add] at hob
          have hw0 : p.pure = false → w0.grownBy w none := fun _ => I.wd (by
            cases hb : listed.getD (l.length + 1) false with
            | false => rfl
            | true => have := I.lt _ hb; omega)
          have hT := told_at vals p.on b (hob w hw0) (fun j hj => I.vs j (hpre' j (hon j hj)) (by have := hon_lt i hil0 j (hon j hj); omega))
          generalize hF : (List.map (fun j => ((dstAt l j).getD 0, vals j)) p.on).reverse ++ b = F at hT
          have hdst : ∀ j, j < m → ∃ d, dstAt l j = some d ∧ d < n := fun j hj => by
            have := (hB j hj).2
            cases hd : dstAt l j with
            | none => rw [hd] at this; simp at this
            | some d => rw [hd] at this; simp only [Bool.and_eq_true] at this; exact ⟨d, rfl, by simpa [Nat.blt_eq] using this.1⟩
          have hHF : Has n a (F ++ (List.range n).map fun t => (t, a.tmps.getD t undef)) := by
            refine ⟨I.nd, I.sz, fun t v hv => ?_⟩
            rw [lk_append] at hv
            cases hc : lk F t with
            | some u =>
              rw [hc] at hv; cases hv
              have hm := lk_mem hc
              rw [← hF] at hm
              rcases List.mem_append.1 hm with hm | hm
              · simp only [List.mem_reverse, List.mem_map] at hm
                obtain ⟨j, hj, he⟩ := hm
                cases he
                obtain ⟨d, hd', _⟩ := hdst j (hnm j (hpre' j (hon j hj)))
                rw [hd']
                exact I.new j d (hpre' j (hon j hj)) hd'
              · have hL := sub_at hsub hm
                have hts : t ∈ p.slots := by rw [← hbs]; exact List.mem_map.2 ⟨_, hm, rfl⟩
                refine I.old t v hL fun k hk hdk => ?_
                rcases hsl t hts k (hnm k hk) with (h | h) | h
                · subst h; rw [hun] at hk; cases hk
                · exact h hdk
                · have := I.cl k hk i h; rw [hun] at this; cases this
            | none =>
              rw [hc] at hv
              have hm := lk_mem hv
              simp only [List.mem_map, List.mem_range] at hm
              obtain ⟨t', ht', he⟩ := hm
              cases he
              have : t < a.tmps.size := by rw [I.sz]; exact ht'
              simp [Array.getD_eq_getD_getElem?, this]
          have hW := (hT ((List.range n).map fun t => (t, a.tmps.getD t undef))).out a hHF (fun _ _ _ => False)
          have hne1 : i ≠ l.length + 1 := by omega
          have fin' : ∀ a' w', wpList P l.toArray (fin n (fun L' w' => if i = l.length + 1 then L' = F ++ (List.range n).map (fun t => (t, a.tmps.getD t undef)) ∧ True else ∃ u, L' = ((dstAt l i).getD 0, u) :: (F ++ (List.range n).map fun t => (t, a.tmps.getD t undef)) ∧ (if p.pure then w' = w else w.grownBy w' none) ∧ V i u w') (fun _ _ _ => False)) [] a' w' →
              wpAny P .any l.toArray (fin n N B) (fuel + (l.length - m)) (listed.setIfInBounds i true) a' w' := by
            intro a' w' hq
            obtain ⟨L', hL', hq⟩ := hq
            rw [if_neg hne1] at hq
            have hisz : i < listed.size := by omega
            have hset : ∀ k, (listed.setIfInBounds i true).getD k false = true → k = i ∨ listed.getD k false = true := fun k hk => by
              rw [getD_set _ _ _ hisz] at hk
              simp only [Bool.or_eq_true, decide_eq_true_eq] at hk
              exact hk.imp Eq.symm (fun h => h)
            have hset' : ∀ k, k = i ∨ listed.getD k false = true → (listed.setIfInBounds i true).getD k false = true := fun k hk => by
              rw [getD_set _ _ _ hisz]
              simp only [Bool.or_eq_true, decide_eq_true_eq]
              exact hk.imp Eq.symm (fun h => h)
            have hcount : ((listed.setIfInBounds i true).toList.filter (!·)).length = fuel + (l.length - m) := by
              have hg : listed.toList[i]? = some false := by
                simp [Array.getD_eq_getD_getElem?, hisz] at hun
                simp [hisz, hun]
              have := filter_set listed.toList i hg
              rw [Array.toList_setIfInBounds]
              omega
            have hm0' : ∀ k, (listed.setIfInBounds i true).getD k false = true → k < m := fun k hk => by
              rcases hset k hk with rfl | h
              · exact hil
              · exact hnm k h
            have hcl : ∀ k, (listed.setIfInBounds i true).getD k false = true → ∀ j ∈ anyOn l k, (listed.setIfInBounds i true).getD j false = true := fun k hk j hj => by
              rcases hset k hk with rfl | h
              · exact hset' j (.inr (hpre' j hj))
              · exact hset' j (.inr (I.cl k h j hj))
            have hlt : ∀ k, (listed.setIfInBounds i true).getD k false = true → k < l.length := fun k hk => by
              rcases hset k hk with rfl | h
              · exact hil0
              · exact I.lt k h
            have hsome : ∀ t, t < n → ∃ v, lk (F ++ (List.range n).map fun t => (t, a.tmps.getD t undef)) t = some v := fun t ht => by
              rw [lk_append]
              cases lk F t with
              | some u => exact ⟨u, rfl⟩
              | none => exact ⟨_, lk_full a n t ht⟩
            obtain ⟨u, rfl, hww, hVu⟩ := hq
            obtain ⟨d, hdd, hdn⟩ := hdst i hil
            rw [hdd] at hL' hd
            simp only [Option.getD_some] at hL'
            simp only [Bool.and_eq_true, List.all_eq_true, List.mem_range, Bool.or_eq_true, beq_iff_eq, bne_iff_ne, ne_eq] at hd
            have hsame' : ∀ t v, t ≠ d → a.tmps[t]? = some v → a'.tmps[t]? = some v := fun t v hne hv => by
              have ht : t < n := by have := (Array.getElem?_eq_some_iff.1 hv).1; rw [I.sz] at this; exact this
              obtain ⟨v', hv'⟩ := hsome t ht
              have h2 := hHF.at_ t v' hv'
              rw [hv] at h2; cases h2
              exact hL'.at_ t v (by rw [lk_ne (Ne.symm hne)]; exact hv')
            have hnew : a'.tmps[d]? = some u := hL'.at_ d u (lk_self _ _ _)
            have hgw : w.grownBy w' none := by
              by_cases hp' : p.pure = true
              · rw [if_pos hp'] at hww; subst hww; exact ext_refl _
              · rw [if_neg hp'] at hww; exact hww
            have hVk : ∀ k, listed.getD k false = true → k ≠ l.length + 1 → V k (vals k) w' := fun k h hne => hV k _ w w' (I.vs k h hne) hgw
            refine ih _ (fun k => if k = i then u else vals k) a' w' (by simpa using hsz) hcount hm0' ⟨hL'.nd, hL'.sz, fun t v ht hk => ?_, fun k t hk ht => ?_, fun h => ?_, fun h => trivial, fun k hk hne => ?_, hcl, hlt⟩
            · exact hsame' t v (fun e' => hk i (hset' i (.inl rfl)) (by rw [hdd, e'])) (I.old t v ht fun k h => hk k (hset' k (.inr h)))
            · by_cases ek : k = i
              · subst ek; rw [hdd] at ht; cases ht; simpa using hnew
              · rw [if_neg ek]
                rcases hset k hk with h | h
                · exact absurd h ek
                · refine hsame' t _ (fun e' => ?_) (I.new k t h ht)
                  rcases hd.2 k (hnm k h) with h' | h'
                  · exact ek h'
                  · exact h' (by rw [ht, e'])
            · refine ext_trans (I.wd ?_) hgw
              cases hb : listed.getD (l.length + 1) false with
              | false => rfl
              | true => have := I.lt _ hb; omega
            · by_cases ek : k = i
              · subst ek; simpa using hVu
              · rw [if_neg ek]
                rcases hset k hk with h | h
                · exact absurd h ek
                · exact hVk k h hne
          unfold wpOp
          rw [ho]
          simp only [wpList] at hW
          by_cases hwant : Region.wanted o (yielded l.toArray a.tmps) = true
          · rw [if_pos hwant] at hW
            simp only [hwant, if_true]
            rcases hW with hW | ⟨_, a', w', L', _, hF'⟩
            · exact .inl (oper_wp_mono fin' (fun e a w hne h => by cases e <;> first | exact absurd rfl hne | (obtain ⟨_, _, h⟩ := h; exact h.elim)) hW)
            · exact hF'.elim
          · rw [if_neg hwant] at hW
            simp only [hwant, if_false, Bool.false_eq_true]
            exact fin' _ _ hW
  have hsz0 : ((Array.replicate l.toArray.size false).toList.filter (!·)).length = m + (l.length - m) := by simp; omega
  have := key m (Array.replicate l.toArray.size false) (fun _ => undef) a { w0 with drawn := w0.drawn + 1 } (by simp) hsz0 (fun k h => by rw [getD_rep] at h; cases h) {
    nd := ha.nd, sz := ha.sz
    old := fun t v h _ => ha.at_ t v h
    new := fun k t h => by rw [getD_rep] at h; cases h
    wd := fun _ => ⟨rfl, rfl, rfl, Nat.le_refl _, fun _ _ _ => rfl⟩
    ws := fun h => trivial
    vs := fun k h => by rw [getD_rep] at h; cases h
    cl := fun k h => by rw [getD_rep] at h; cases h
    lt := fun k h => by rw [getD_rep] at h; cases h }
  rw [show m + (l.length - m) = l.toArray.size by simp; omega] at this
  exact this
end Go.Proofs.Ytdmgbahognfhbaa
set_option linter.unusedSimpArgs false
set_option linter.unusedVariables false
namespace Go.Proofs.Ytdmgbahognfhbaa
open Go.RowKit
theorem isPos_c {w : World} {X : Int} (hX : -9223372036854775808 ≤ X ∧ X ≤ 9223372036854775807) :
    Calls Try.prog 48 #[.int .i64 X] w fun e w2 => ∃ v, e = .returned v ∧ (fun v w2 => ∃ b : Bool, v = .bool b ∧ w.grownBy w2 none ∧ (b = true → (1 ≤ X ∧ X ≤ 2147483647)) ∧ (b = false → ¬ (1 ≤ X ∧ X ≤ 2147483647))) v w2 := by
  have hB := ext_refl w
  refine calls_of_W (vs := [.int .i64 X]) [2] Try.func48 rfl rfl rfl rfl ?_
  refine W.seq ?_
  refine W.region ?_
  refine WL.assign rfl rfl ?_
  refine WL.done ?_
  refine W.seq ?_
  refine W.region ?_
  refine WL.move rfl rfl ?_
  refine WL.geq rfl rfl rfl (fun c11 => ?_) (fun c11 => ?_)
  · refine WL.move rfl rfl ?_
    refine WL.take rfl ?_
    refine WL.move rfl rfl ?_
    refine WL.take rfl ?_
    refine WL.leq rfl rfl rfl (fun c12 => ?_) (fun c12 => ?_)
    · refine WL.pick rfl rfl rfl ?_
      refine WL.assign rfl rfl ?_
      refine WL.done ?_
      refine W.ret ?_
      refine ⟨_, rfl, ?_⟩
      exact ⟨true, rfl, hB, (fun _ => by omega), fun h => by cases h⟩
    · refine WL.pick rfl rfl rfl ?_
      refine WL.assign rfl rfl ?_
      refine WL.done ?_
      refine W.ret ?_
      refine ⟨_, rfl, ?_⟩
      exact ⟨false, rfl, hB, (fun h => by cases h), fun _ => by omega⟩
  · refine WL.move rfl rfl ?_
    refine WL.pass rfl rfl rfl ?_
    refine WL.pass rfl rfl rfl ?_
    refine WL.pick rfl rfl rfl ?_
    refine WL.assign rfl rfl ?_
    refine WL.done ?_
    refine W.ret ?_
    refine ⟨_, rfl, ?_⟩
    exact ⟨false, rfl, hB, (fun h => by cases h), fun _ => by omega⟩

theorem rin_c {w : World} {X : Int} (hX : -9223372036854775808 ≤ X ∧ X ≤ 9223372036854775807) :
    Calls Try.prog 50 #[.int .i64 X] w fun e w2 => ∃ v, e = .returned v ∧ (fun v w2 => ∃ b : Bool, v = .bool b ∧ w.grownBy w2 none ∧ (b = true → (1 ≤ X ∧ X ≤ 2147483647)) ∧ (b = false → ¬ (1 ≤ X ∧ X ≤ 2147483647))) v w2 := by
  have hB := ext_refl w
  refine calls_of_W (vs := [.int .i64 X]) [2] Try.func50 rfl rfl rfl rfl ?_
  refine W.seq ?_
  refine W.region ?_
  refine WL.assign rfl rfl ?_
  refine WL.done ?_
  refine W.seq ?_
  refine W.region ?_
  refine WL.move rfl rfl ?_
  refine WL.geq rfl rfl rfl (fun c11 => ?_) (fun c11 => ?_)
  · refine WL.move rfl rfl ?_
    refine WL.take rfl ?_
    refine WL.move rfl rfl ?_
    refine WL.take rfl ?_
    refine WL.leq rfl rfl rfl (fun c12 => ?_) (fun c12 => ?_)
    · refine WL.pick rfl rfl rfl ?_
      refine WL.assign rfl rfl ?_
      refine WL.done ?_
      refine W.ret ?_
      refine ⟨_, rfl, ?_⟩
      exact ⟨true, rfl, hB, (fun _ => by omega), fun h => by cases h⟩
    · refine WL.pick rfl rfl rfl ?_
      refine WL.assign rfl rfl ?_
      refine WL.done ?_
      refine W.ret ?_
      refine ⟨_, rfl, ?_⟩
      exact ⟨false, rfl, hB, (fun h => by cases h), fun _ => by omega⟩
  · refine WL.move rfl rfl ?_
    refine WL.pass rfl rfl rfl ?_
    refine WL.pass rfl rfl rfl ?_
    refine WL.pick rfl rfl rfl ?_
    refine WL.assign rfl rfl ?_
    refine WL.done ?_
    refine W.ret ?_
    refine ⟨_, rfl, ?_⟩
    exact ⟨false, rfl, hB, (fun h => by cases h), fun _ => by omega⟩

theorem isSmall_c {w : World} {X : Int} (hX : -9223372036854775808 ≤ X ∧ X ≤ 9223372036854775807) :
    Calls Try.prog 54 #[.int .i64 X] w fun e w2 => ∃ v, e = .returned v ∧ (fun v w2 => ∃ b : Bool, v = .bool b ∧ w.grownBy w2 none ∧ (b = true → (-2147483647 ≤ X ∧ X ≤ 2147483647)) ∧ (b = false → ¬ (-2147483647 ≤ X ∧ X ≤ 2147483647))) v w2 := by
  have hB := ext_refl w
  refine calls_of_W (vs := [.int .i64 X]) [2] Try.func54 rfl rfl rfl rfl ?_
  refine W.seq ?_
  refine W.region ?_
  refine WL.assign rfl rfl ?_
  refine WL.done ?_
  refine W.seq ?_
  refine W.region ?_
  refine WL.move rfl rfl ?_
  refine WL.geq rfl rfl rfl (fun c11 => ?_) (fun c11 => ?_)
  · refine WL.move rfl rfl ?_
    refine WL.take rfl ?_
    refine WL.move rfl rfl ?_
    refine WL.take rfl ?_
    refine WL.leq rfl rfl rfl (fun c12 => ?_) (fun c12 => ?_)
    · refine WL.pick rfl rfl rfl ?_
      refine WL.assign rfl rfl ?_
      refine WL.done ?_
      refine W.ret ?_
      refine ⟨_, rfl, ?_⟩
      exact ⟨true, rfl, hB, (fun _ => by omega), fun h => by cases h⟩
    · refine WL.pick rfl rfl rfl ?_
      refine WL.assign rfl rfl ?_
      refine WL.done ?_
      refine W.ret ?_
      refine ⟨_, rfl, ?_⟩
      exact ⟨false, rfl, hB, (fun h => by cases h), fun _ => by omega⟩
  · refine WL.move rfl rfl ?_
    refine WL.pass rfl rfl rfl ?_
    refine WL.pass rfl rfl rfl ?_
    refine WL.pick rfl rfl rfl ?_
    refine WL.assign rfl rfl ?_
    refine WL.done ?_
    refine W.ret ?_
    refine ⟨_, rfl, ?_⟩
    exact ⟨false, rfl, hB, (fun h => by cases h), fun _ => by omega⟩

theorem rsmall_c {w : World} {X : Int} (hX : -9223372036854775808 ≤ X ∧ X ≤ 9223372036854775807) :
    Calls Try.prog 57 #[.int .i64 X] w fun e w2 => ∃ v, e = .returned v ∧ (fun v w2 => ∃ b : Bool, v = .bool b ∧ w.grownBy w2 none ∧ (b = true → (-2147483647 ≤ X ∧ X ≤ 2147483647)) ∧ (b = false → ¬ (-2147483647 ≤ X ∧ X ≤ 2147483647))) v w2 := by
  have hB := ext_refl w
  refine calls_of_W (vs := [.int .i64 X]) [2] Try.func57 rfl rfl rfl rfl ?_
  refine W.seq ?_
  refine W.region ?_
  refine WL.assign rfl rfl ?_
  refine WL.done ?_
  refine W.seq ?_
  refine W.region ?_
  refine WL.move rfl rfl ?_
  refine WL.geq rfl rfl rfl (fun c11 => ?_) (fun c11 => ?_)
  · refine WL.move rfl rfl ?_
    refine WL.take rfl ?_
    refine WL.move rfl rfl ?_
    refine WL.take rfl ?_
    refine WL.leq rfl rfl rfl (fun c12 => ?_) (fun c12 => ?_)
    · refine WL.pick rfl rfl rfl ?_
      refine WL.assign rfl rfl ?_
      refine WL.done ?_
      refine W.ret ?_
      refine ⟨_, rfl, ?_⟩
      exact ⟨true, rfl, hB, (fun _ => by omega), fun h => by cases h⟩
    · refine WL.pick rfl rfl rfl ?_
      refine WL.assign rfl rfl ?_
      refine WL.done ?_
      refine W.ret ?_
      refine ⟨_, rfl, ?_⟩
      exact ⟨false, rfl, hB, (fun h => by cases h), fun _ => by omega⟩
  · refine WL.move rfl rfl ?_
    refine WL.pass rfl rfl rfl ?_
    refine WL.pass rfl rfl rfl ?_
    refine WL.pick rfl rfl rfl ?_
    refine WL.assign rfl rfl ?_
    refine WL.done ?_
    refine W.ret ?_
    refine ⟨_, rfl, ?_⟩
    exact ⟨false, rfl, hB, (fun h => by cases h), fun _ => by omega⟩

theorem size_c {w : World} {X : Int} (hX : -9223372036854775808 < X ∧ X ≤ 9223372036854775807) :
    Calls Try.prog 56 #[.int .i64 X] w fun e w2 => ∃ v, e = .returned v ∧ (fun v w2 => v = .int .i64 ((X.natAbs : Nat) : Int) ∧ w.grownBy w2 none) v w2 := by
  have hB := ext_refl w
  refine calls_of_W (vs := [.int .i64 X]) [2] Try.func56 rfl rfl rfl rfl ?_
  refine W.seq ?_
  refine W.region ?_
  refine WL.assign rfl rfl ?_
  refine WL.done ?_
  refine W.seq ?_
  refine W.seq ?_
  refine W.region ?_
  refine WL.move rfl rfl ?_
  refine WL.lss rfl rfl rfl (fun c11 => ?_) (fun c11 => ?_)
  · refine WL.done ?_
    refine W.condT rfl ?_
    refine W.seq ?_
    refine W.region ?_
    refine WL.move rfl rfl ?_
    refine WL.neg (r := -X) rfl (wi64 (by omega) (by omega) (by omega)) rfl ?_
    refine WL.assign rfl rfl ?_
    refine WL.done ?_
    refine W.ret ?_
    refine ⟨_, rfl, ?_⟩
    exact ⟨by congr 1; omega, hB⟩
  · refine WL.done ?_
    refine W.condF rfl ?_
    refine W.skip ?_
    refine W.seq ?_
    refine W.region ?_
    refine WL.move rfl rfl ?_
    refine WL.assign rfl rfl ?_
    refine WL.done ?_
    refine W.ret ?_
    refine ⟨_, rfl, ?_⟩
    exact ⟨by congr 1; omega, hB⟩

theorem rabs_c {w : World} {X : Int} (hX : -9223372036854775808 < X ∧ X ≤ 9223372036854775807) :
    Calls Try.prog 59 #[.int .i64 X] w fun e w2 => ∃ v, e = .returned v ∧ (fun v w2 => v = .int .i64 ((X.natAbs : Nat) : Int) ∧ w.grownBy w2 none) v w2 := by
  have hB := ext_refl w
  refine calls_of_W (vs := [.int .i64 X]) [2] Try.func59 rfl rfl rfl rfl ?_
  refine W.seq ?_
  refine W.region ?_
  refine WL.assign rfl rfl ?_
  refine WL.done ?_
  refine W.seq ?_
  refine W.seq ?_
  refine W.region ?_
  refine WL.move rfl rfl ?_
  refine WL.lss rfl rfl rfl (fun c11 => ?_) (fun c11 => ?_)
  · refine WL.done ?_
    refine W.condT rfl ?_
    refine W.seq ?_
    refine W.region ?_
    refine WL.move rfl rfl ?_
    refine WL.neg (r := -X) rfl (wi64 (by omega) (by omega) (by omega)) rfl ?_
    refine WL.assign rfl rfl ?_
    refine WL.done ?_
    refine W.ret ?_
    refine ⟨_, rfl, ?_⟩
    exact ⟨by congr 1; omega, hB⟩
  · refine WL.done ?_
    refine W.condF rfl ?_
    refine W.skip ?_
    refine W.seq ?_
    refine W.region ?_
    refine WL.move rfl rfl ?_
    refine WL.assign rfl rfl ?_
    refine WL.done ?_
    refine W.ret ?_
    refine ⟨_, rfl, ?_⟩
    exact ⟨by congr 1; omega, hB⟩

theorem sign_c {w : World} {X : Int} (hX : -9223372036854775808 ≤ X ∧ X ≤ 9223372036854775807) :
    Calls Try.prog 60 #[.int .i64 X] w fun e w2 => ∃ v, e = .returned v ∧ (fun v w2 => v = .int .i64 (sgI X) ∧ w.grownBy w2 none) v w2 := by
  have hB := ext_refl w
  refine calls_of_W (vs := [.int .i64 X]) [2] Try.func60 rfl rfl rfl rfl ?_
  refine W.seq ?_
  refine W.region ?_
  refine WL.assign rfl rfl ?_
  refine WL.done ?_
  refine W.seq ?_
  refine W.block ?_
  refine W.seq ?_
  refine W.region ?_
  refine WL.move rfl rfl ?_
  refine WL.gtr rfl rfl rfl (fun c11 => ?_) (fun c11 => ?_)
  · refine WL.assign rfl rfl ?_
    refine WL.done ?_
    refine W.condT rfl ?_
    refine W.seq ?_
    refine W.region ?_
    refine WL.assign rfl rfl ?_
    refine WL.done ?_
    refine W.ret ?_
    refine ⟨_, rfl, ?_⟩
    exact ⟨by unfold sgI; congr 1; split <;> first | omega | (split <;> omega), hB⟩
  · refine WL.assign rfl rfl ?_
    refine WL.done ?_
    refine W.condF rfl ?_
    refine W.seq ?_
    refine W.region ?_
    refine WL.move rfl rfl ?_
    refine WL.lss rfl rfl rfl (fun c12 => ?_) (fun c12 => ?_)
    · refine WL.assign rfl rfl ?_
      refine WL.done ?_
      refine W.condT rfl ?_
      refine W.seq ?_
      refine W.region ?_
      refine WL.assign rfl rfl ?_
      refine WL.done ?_
      refine W.ret ?_
      refine ⟨_, rfl, ?_⟩
      exact ⟨by unfold sgI; congr 1; split <;> first | omega | (split <;> omega), hB⟩
    · refine WL.assign rfl rfl ?_
      refine WL.done ?_
      refine W.condF rfl ?_
      refine W.skip ?_
      refine W.seq ?_
      refine W.region ?_
      refine WL.assign rfl rfl ?_
      refine WL.done ?_
      refine W.ret ?_
      refine ⟨_, rfl, ?_⟩
      exact ⟨by unfold sgI; congr 1; split <;> first | omega | (split <;> omega), hB⟩

theorem residue_c {w : World} {X : Int} (hX : -9223372036854775808 ≤ X ∧ X ≤ 9223372036854775807) (n : Nat) {N : Int} (hN : N = n) (hn0 : 0 < n) (hn : n < 9223372036854775808) :
    Calls Try.prog 61 #[.int .i64 X, .int .i64 N] w fun e w2 => ∃ v, e = .returned v ∧ (fun v w2 => v = .int .i64 (((X % (n : Int)).toNat : Nat) : Int) ∧ w.grownBy w2 none) v w2 := by
  have hr := @tmod_range X n (by omega)
  have hr1 := @tmod_neg X n (by omega)
  have hr2 := @tmod_nn X n (by omega)
  have hr3 := Int.emod_nonneg X (show (n : Int) ≠ 0 by omega)
  have hB := ext_refl w
  refine calls_of_W (vs := [.int .i64 X, .int .i64 N]) [4] Try.func61 rfl rfl rfl rfl ?_
  refine W.seq ?_
  refine W.region ?_
  refine WL.assign rfl rfl ?_
  refine WL.done ?_
  refine W.seq ?_
  refine W.region ?_
  refine WL.move rfl rfl ?_
  refine WL.move rfl rfl ?_
  refine WL.rem (r := (X.tmod (n : Int))) rfl rfl (by omega) (by rw [hN]) rfl ?_
  refine WL.assign rfl rfl ?_
  refine WL.done ?_
  refine W.seq ?_
  refine W.seq ?_
  refine W.region ?_
  refine WL.move rfl rfl ?_
  refine WL.lss rfl rfl rfl (fun c11 => ?_) (fun c11 => ?_)
  · refine WL.done ?_
    refine W.condT rfl ?_
    refine W.region ?_
    refine WL.move rfl rfl ?_
    refine WL.move rfl rfl ?_
    refine WL.add (r := ((X.tmod (n : Int)) + N)) rfl rfl (wi64 (by omega) (by omega) (by omega)) rfl ?_
    refine WL.assign rfl rfl ?_
    refine WL.done ?_
    refine W.seq ?_
    refine W.region ?_
    refine WL.move rfl rfl ?_
    refine WL.assign rfl rfl ?_
    refine WL.done ?_
    refine W.ret ?_
    refine ⟨_, rfl, ?_⟩
    exact ⟨by congr 1; omega, hB⟩
  · refine WL.done ?_
    refine W.condF rfl ?_
    refine W.skip ?_
    refine W.seq ?_
    refine W.region ?_
    refine WL.move rfl rfl ?_
    refine WL.assign rfl rfl ?_
    refine WL.done ?_
    refine W.ret ?_
    refine ⟨_, rfl, ?_⟩
    exact ⟨by congr 1; omega, hB⟩

theorem rMod_c {w : World} {X : Int} (hX : -9223372036854775808 ≤ X ∧ X ≤ 9223372036854775807) (n : Nat) {N : Int} (hN : N = n) (hn0 : 0 < n) (hn : n < 9223372036854775808) :
    Calls Try.prog 38 #[.int .i64 X, .int .i64 N] w fun e w2 => ∃ v, e = .returned v ∧ (fun v w2 => v = .int .i64 (((X % (n : Int)).toNat : Nat) : Int) ∧ w.grownBy w2 none) v w2 := by
  have hr := @tmod_range X n (by omega)
  have hr1 := @tmod_neg X n (by omega)
  have hr2 := @tmod_nn X n (by omega)
  have hr3 := Int.emod_nonneg X (show (n : Int) ≠ 0 by omega)
  have hB := ext_refl w
  refine calls_of_W (vs := [.int .i64 X, .int .i64 N]) [4] Try.func38 rfl rfl rfl rfl ?_
  refine W.seq ?_
  refine W.region ?_
  refine WL.assign rfl rfl ?_
  refine WL.done ?_
  refine W.seq ?_
  refine W.region ?_
  refine WL.move rfl rfl ?_
  refine WL.move rfl rfl ?_
  refine WL.rem (r := (X.tmod (n : Int))) rfl rfl (by omega) (by rw [hN]) rfl ?_
  refine WL.assign rfl rfl ?_
  refine WL.done ?_
  refine W.seq ?_
  refine W.seq ?_
  refine W.region ?_
  refine WL.move rfl rfl ?_
  refine WL.lss rfl rfl rfl (fun c11 => ?_) (fun c11 => ?_)
  · refine WL.done ?_
    refine W.condT rfl ?_
    refine W.region ?_
    refine WL.move rfl rfl ?_
    refine WL.move rfl rfl ?_
    refine WL.add (r := ((X.tmod (n : Int)) + N)) rfl rfl (wi64 (by omega) (by omega) (by omega)) rfl ?_
    refine WL.assign rfl rfl ?_
    refine WL.done ?_
    refine W.seq ?_
    refine W.region ?_
    refine WL.move rfl rfl ?_
    refine WL.assign rfl rfl ?_
    refine WL.done ?_
    refine W.ret ?_
    refine ⟨_, rfl, ?_⟩
    exact ⟨by congr 1; omega, hB⟩
  · refine WL.done ?_
    refine W.condF rfl ?_
    refine W.skip ?_
    refine W.seq ?_
    refine W.region ?_
    refine WL.move rfl rfl ?_
    refine WL.assign rfl rfl ?_
    refine WL.done ?_
    refine W.ret ?_
    refine ⟨_, rfl, ?_⟩
    exact ⟨by congr 1; omega, hB⟩

theorem cofactor_c {w : World} (n : Nat) {X : Int} (hX : X = n) (m : Nat) {Y : Int} (hY : Y = m) (hn : n < 9223372036854775808) (hm : m < 9223372036854775808) :
    Calls Try.prog 55 #[.int .i64 X, .int .i64 Y] w fun e w2 => ∃ v, e = .returned v ∧ (fun v w2 => ∃ Z : Int, v = .tuple #[.int .i64 ((Nat.gcd n m : Nat) : Int), .int .i64 Z] ∧ w.grownBy w2 none ∧ (m : Int) ∣ Z * n - (Nat.gcd n m : Nat) ∧ -9223372036854775808 < Z ∧ Z ≤ 9223372036854775807) v w2 := by
  have hB := ext_refl w
  refine calls_of_W (vs := [.int .i64 X, .int .i64 Y]) [4, 5] Try.func55 rfl rfl rfl rfl ?_
  refine W.seq ?_
  refine W.region ?_
  refine WL.assign rfl rfl ?_
  refine WL.assign rfl rfl ?_
  refine WL.done ?_
  refine W.seq ?_
  refine W.region ?_
  refine WL.assign rfl rfl ?_
  refine WL.assign rfl rfl ?_
  refine WL.done ?_
  refine W.seq ?_
  refine W.block ?_
  refine W.loop (σ := Nat × Nat × Nat × Nat × Int) (fun s w1 => match s with | (a, b, F, S, e) => w.grownBy w1 none ∧ Eu n m a b F S e ∧ a < 9223372036854775808 ∧ b < 9223372036854775808 ∧ F ≤ max m 1 ∧ S ≤ max m 1) (fun s => match s with | (a, b, F, S, e) => [(0, .int .i64 ((a : Nat) : Int)), (1, .int .i64 ((b : Nat) : Int)), (6, .int .i64 (e * (F : Nat))), (7, .int .i64 (-(e * (S : Nat))))]) (fun s => match s with | (a, b, F, S, e) => b) (n, m, 1, 0, 1) ?_ ?_ ?_
  · exact ⟨hB, Eu.start n m, by omega, by omega, by omega, by omega⟩
  · exact ⟨iv (by omega), iv (by omega), iv (by omega), iv (by omega), trivial⟩
  · rintro ⟨a, b, F, S, e⟩ w11 ⟨hB, hE, ha, hb, hF, hS⟩
    have hes := hE.sgn
    have er1 := e_range63 (n := F) hes (by omega)
    have er2 := e_range63 (n := S) hes (by omega)
    refine W.seq ?_
    refine W.seq ?_
    refine W.region ?_
    refine WL.move rfl rfl ?_
    refine WL.neq rfl rfl rfl (fun c12 => ?_) (fun c12 => ?_)
    · refine WL.done ?_
      refine W.condT rfl ?_
      refine W.skip ?_
      refine W.block ?_
      refine W.seq ?_
      refine W.region ?_
      refine WL.move rfl rfl ?_
      refine WL.move rfl rfl ?_
      have nq1 : -(e * (S : Int)) = -e * (S : Int) := (Int.neg_mul _ _).symm
      have nq2 : e * ((F + a / b * S : Nat) : Int) = -(-e * ((F + a / b * S : Nat) : Int)) := by rw [Int.neg_mul, Int.neg_neg]
      have hb0 : 0 < b := by omega
      have hml := Nat.mod_lt a hb0
      have hq := hE.quo_bound hb0
      have hdm := Nat.div_add_mod a b
      have hdl := Nat.div_mul_le_self a b
      have er3 := e_range63 (n := a / b * S) hes (by omega)
      have er4 := e_range63 (n := F + a / b * S) hes (by omega)
      refine WL.quo (r := ((a / b : Nat) : Int)) rfl rfl (by omega) (qi64 (by omega) (by omega) (by omega)) rfl ?_
      refine WL.assign rfl rfl ?_
      refine WL.done ?_
      refine W.seq ?_
      refine W.region ?_
      refine WL.move rfl rfl ?_
      refine WL.move rfl rfl ?_
      refine WL.move rfl rfl ?_
      refine WL.move rfl rfl ?_
      refine WL.mul (r := ((a / b * b : Nat) : Int)) rfl rfl (wi64 (by omega) (by omega) (by omega)) rfl ?_
      refine WL.sub (r := ((a % b : Nat) : Int)) rfl rfl (by rw [show ((a : Int) - ((a / b * b : Nat) : Int)) = ((a % b : Nat) : Int) by rw [Nat.mul_comm b] at hdm; omega]; exact wi64 (by omega) (by have := Nat.mod_le a b; omega) rfl) rfl ?_
      refine WL.assign rfl rfl ?_
      refine WL.assign rfl rfl ?_
      refine WL.done ?_
      refine W.region ?_
      refine WL.move rfl rfl ?_
      refine WL.move rfl rfl ?_
      refine WL.move rfl rfl ?_
      refine WL.move rfl rfl ?_
      refine WL.mul (r := (-(e * ((a / b * S : Nat) : Int)))) rfl rfl (by rw [lkA]; exact wi64 (by omega) (by omega) rfl) rfl ?_
      refine WL.sub (r := (e * ((F + a / b * S : Nat) : Int))) rfl rfl (by rw [lkB]; exact wi64 (by omega) (by omega) rfl) rfl ?_
      refine WL.assign rfl rfl ?_
      refine WL.assign rfl rfl ?_
      refine WL.done ?_
      refine ⟨(b, a % b, S, F + a / b * S, -e), ⟨iv (by omega), iv (by omega), iv (by omega), iv (by omega), trivial⟩, by (dsimp only; omega), ?_⟩
      exact ⟨hB, hE.next (by omega), by omega, by omega, by omega, by omega⟩
    · refine WL.done ?_
      refine W.condF rfl ?_
      refine W.exit ?_
      refine W.seq ?_
      refine W.region ?_
      refine WL.move rfl rfl ?_
      refine WL.move rfl rfl ?_
      refine WL.assign rfl rfl ?_
      refine WL.assign rfl rfl ?_
      refine WL.done ?_
      refine W.ret ?_
      refine ⟨_, rfl, ?_⟩
      have hb0 : b = 0 := by omega
      subst hb0
      have hg := hE.done
      obtain ⟨k, hk⟩ := hE.ca
      exact ⟨_, by rw [← hg], hB, ⟨k, by rw [← hg, hk]; rw [Int.mul_comm]; omega⟩, by omega, by omega⟩

theorem power_c {w : World} (a : Nat) {X : Int} (hX : X = a) (t : Nat) {Y : Int} (hY : Y = t) (n : Nat) {Z : Int} (hZ : Z = n) (ha : a < n) (he : t < 9223372036854775808) (hn : n < 2147483648) :
    Calls Try.prog 63 #[.int .i64 X, .int .i64 Y, .int .i64 Z] w fun e w2 => ∃ v, e = .returned v ∧ (fun v w2 => v = .int .i64 ((a ^ t % n : Nat) : Int) ∧ w.grownBy w2 none) v w2 := by
  have hB := ext_refl w
  refine calls_of_W (vs := [.int .i64 X, .int .i64 Y, .int .i64 Z]) [6] Try.func63 rfl rfl rfl rfl ?_
  refine W.seq ?_
  refine W.region ?_
  refine WL.assign rfl rfl ?_
  refine WL.done ?_
  refine W.seq ?_
  refine W.region ?_
  refine WL.move rfl rfl ?_
  refine WL.rem (r := ((1 % n : Nat) : Int)) rfl rfl (by omega) (tmod_nat (by omega) (by omega)) rfl ?_
  refine WL.assign rfl rfl ?_
  refine WL.done ?_
  refine W.seq ?_
  refine W.block ?_
  refine W.loop (σ := Nat × Nat × Nat) (fun s w1 => match s with | (x, k, r) => w.grownBy w1 none ∧ x < n ∧ k < 9223372036854775808 ∧ r < n ∧ (r * x ^ k) % n = a ^ t % n) (fun s => match s with | (x, k, r) => [(0, .int .i64 ((x : Nat) : Int)), (1, .int .i64 ((k : Nat) : Int)), (2, .int .i64 Z), (7, .int .i64 ((r : Nat) : Int))]) (fun s => match s with | (x, k, r) => k) (a, t, 1 % n) ?_ ?_ ?_
  · exact ⟨hB, ha, he, Nat.mod_lt _ (by omega), by rw [Nat.mod_mul_mod, Nat.one_mul]⟩
  · exact ⟨iv (by omega), iv (by omega), iv (by omega), iv (by omega), trivial⟩
  · rintro ⟨x, k, r⟩ w11 ⟨hB, hx, hk, hr, hpw⟩
    have hxx : x * x < 4611686018427387904 := Nat.lt_of_le_of_lt (Nat.mul_le_mul (show x ≤ 2147483647 by omega) (show x ≤ 2147483647 by omega)) (by decide)
    have hrx : r * x < 4611686018427387904 := Nat.lt_of_le_of_lt (Nat.mul_le_mul (show r ≤ 2147483647 by omega) (show x ≤ 2147483647 by omega)) (by decide)
    refine W.seq ?_
    refine W.seq ?_
    refine W.region ?_
    refine WL.move rfl rfl ?_
    refine WL.gtr rfl rfl rfl (fun c12 => ?_) (fun c12 => ?_)
    · refine WL.done ?_
      refine W.condT rfl ?_
      refine W.skip ?_
      refine W.seq ?_
      refine W.block ?_
      refine W.seq ?_
      refine W.seq ?_
      refine W.region ?_
      refine WL.move rfl rfl ?_
      refine WL.rem (r := ((k % 2 : Nat) : Int)) rfl rfl (by omega) (tmod_nat (by omega) (by omega)) rfl ?_
      refine WL.eql rfl rfl rfl (fun c13 => ?_) (fun c13 => ?_)
      · refine WL.done ?_
        refine W.condT rfl ?_
        refine W.region ?_
        refine WL.move rfl rfl ?_
        refine WL.move rfl rfl ?_
        refine WL.mul (r := ((r * x : Nat) : Int)) rfl rfl (wi64 (by omega) (by omega) (by omega)) rfl ?_
        refine WL.move rfl rfl ?_
        refine WL.rem (r := (((r * x) % n : Nat) : Int)) rfl rfl (by omega) (tmod_nat (by omega) (by omega)) rfl ?_
        refine WL.assign rfl rfl ?_
        refine WL.done ?_
        refine W.region ?_
        refine WL.move rfl rfl ?_
        refine WL.move rfl rfl ?_
        refine WL.mul (r := ((x * x : Nat) : Int)) rfl rfl (wi64 (by omega) (by omega) (by omega)) rfl ?_
        refine WL.move rfl rfl ?_
        refine WL.rem (r := (((x * x) % n : Nat) : Int)) rfl rfl (by omega) (tmod_nat (by omega) (by omega)) rfl ?_
        refine WL.assign rfl rfl ?_
        refine WL.done ?_
        refine W.region ?_
        refine WL.move rfl rfl ?_
        refine WL.quo (r := ((k / 2 : Nat) : Int)) rfl rfl (by omega) (qi64 (by omega) (by omega) (by omega)) rfl ?_
        refine WL.assign rfl rfl ?_
        refine WL.done ?_
        refine ⟨(x * x % n, k / 2, r * x % n), ⟨iv (by omega), iv (by omega), iv (by omega), iv (by omega), trivial⟩, by (dsimp only; omega), ?_⟩
        exact ⟨hB, Nat.mod_lt _ (by omega), by omega, Nat.mod_lt _ (by omega), by rw [pow_odd (by omega)]; exact hpw⟩
      · refine WL.done ?_
        refine W.condF rfl ?_
        refine W.skip ?_
        refine W.region ?_
        refine WL.move rfl rfl ?_
        refine WL.move rfl rfl ?_
        refine WL.mul (r := ((x * x : Nat) : Int)) rfl rfl (wi64 (by omega) (by omega) (by omega)) rfl ?_
        refine WL.move rfl rfl ?_
        refine WL.rem (r := (((x * x) % n : Nat) : Int)) rfl rfl (by omega) (tmod_nat (by omega) (by omega)) rfl ?_
        refine WL.assign rfl rfl ?_
        refine WL.done ?_
        refine W.region ?_
        refine WL.move rfl rfl ?_
        refine WL.quo (r := ((k / 2 : Nat) : Int)) rfl rfl (by omega) (qi64 (by omega) (by omega) (by omega)) rfl ?_
        refine WL.assign rfl rfl ?_
        refine WL.done ?_
        refine ⟨(x * x % n, k / 2, r), ⟨iv (by omega), iv (by omega), iv (by omega), iv (by omega), trivial⟩, by (dsimp only; omega), ?_⟩
        exact ⟨hB, Nat.mod_lt _ (by omega), by omega, hr, by rw [pow_even (by omega)]; exact hpw⟩
    · refine WL.done ?_
      refine W.condF rfl ?_
      refine W.exit ?_
      refine W.seq ?_
      refine W.region ?_
      refine WL.move rfl rfl ?_
      refine WL.assign rfl rfl ?_
      refine WL.done ?_
      refine W.ret ?_
      refine ⟨_, rfl, ?_⟩
      have hk0 : k = 0 := by omega
      subst hk0
      rw [Nat.pow_zero, Nat.mul_one, Nat.mod_eq_of_lt hr] at hpw
      exact ⟨by rw [← hpw], hB⟩

theorem times_c {w : World} (a : Nat) {X : Int} (hX : X = a) (b : Nat) {Y : Int} (hY : Y = b) (m : Nat) {Z : Int} (hZ : Z = m) (ha : a < 9223372036854775808) (hb0 : 0 < b) (hb : b < 9223372036854775808) (hm : m < 9223372036854775808) :
    Calls Try.prog 66 #[.int .i64 X, .int .i64 Y, .int .i64 Z] w fun e w2 => ∃ v, e = .returned v ∧ (fun v w2 => v = .tuple #[.int .i64 (((prS m (a * b)).1 : Nat) : Int), .int .i64 (((prS m (a * b)).2 : Nat) : Int)] ∧ w.grownBy w2 none) v w2 := by
  have hgt := @gt_div a b m hb0
  have hB := ext_refl w
  refine calls_of_W (vs := [.int .i64 X, .int .i64 Y, .int .i64 Z]) [6, 7] Try.func66 rfl rfl rfl rfl ?_
  refine W.seq ?_
  refine W.region ?_
  refine WL.assign rfl rfl ?_
  refine WL.assign rfl rfl ?_
  refine WL.done ?_
  refine W.seq ?_
  refine W.seq ?_
  refine W.region ?_
  refine WL.move rfl rfl ?_
  refine WL.move rfl rfl ?_
  refine WL.move rfl rfl ?_
  refine WL.quo (r := ((m / b : Nat) : Int)) rfl rfl (by omega) (qi64 (by omega) (by omega) (by omega)) rfl ?_
  refine WL.gtr rfl rfl rfl (fun c11 => ?_) (fun c11 => ?_)
  · refine WL.done ?_
    refine W.condT rfl ?_
    refine W.seq ?_
    refine W.region ?_
    refine WL.assign rfl rfl ?_
    refine WL.assign rfl rfl ?_
    refine WL.done ?_
    refine W.ret ?_
    refine ⟨_, rfl, ?_⟩
    first
    | (rw [prS_big (by omega)]; exact ⟨rfl, hB⟩)
    | (rw [prS_ok (by omega)]; exact ⟨rfl, hB⟩)
  · refine WL.done ?_
    refine W.condF rfl ?_
    refine W.skip ?_
    refine W.seq ?_
    refine W.region ?_
    refine WL.move rfl rfl ?_
    refine WL.move rfl rfl ?_
    refine WL.mul (r := ((a * b : Nat) : Int)) rfl rfl (by rw [hX, hY, ← Int.natCast_mul]; exact wi64n (by omega)) rfl ?_
    refine WL.assign rfl rfl ?_
    refine WL.assign rfl rfl ?_
    refine WL.done ?_
    refine W.ret ?_
    refine ⟨_, rfl, ?_⟩
    first
    | (rw [prS_big (by omega)]; exact ⟨rfl, hB⟩)
    | (rw [prS_ok (by omega)]; exact ⟨rfl, hB⟩)
end Go.Proofs.Ytdmgbahognfhbaa
set_option linter.unusedSimpArgs false
set_option linter.unusedVariables false
namespace Go.Proofs.Ytdmgbahognfhbaa
open Go.RowKit
theorem least_c {w : World} (n : Nat) {X : Int} (hX : X = n) (d : Nat) (hd : IsLf n d) (hn2 : 2 ≤ n) (hn : n < 2147483648) :
    Calls Try.prog 49 #[.int .i64 X] w fun e w2 => ∃ v, e = .returned v ∧ (fun v w2 => v = .int .i64 ((d : Nat) : Int) ∧ w.grownBy w2 none) v w2 := by
  have hB := ext_refl w
  refine calls_of_W (vs := [.int .i64 X]) [2] Try.func49 rfl rfl rfl rfl ?_
  refine W.seq ?_
  refine W.region ?_
  refine WL.assign rfl rfl ?_
  refine WL.done ?_
  refine W.scope ?_
  refine W.seq ?_
  refine W.seq ?_
  refine W.region ?_
  refine WL.buildG (cells := #[.int .i64 (2 : Int), .int .i64 (3 : Int), .int .i64 (5 : Int)]) rfl (by kernel_rfl) rfl ?_
  refine WL.move rfl rfl ?_
  refine WL.done ?_
  refine W.block ?_
  refine W.loop (σ := Nat) (fun j w1 => w.grownBy w1 none ∧ j ≤ 3 ∧ (1 ≤ j → n % 2 ≠ 0) ∧ (2 ≤ j → n % 3 ≠ 0) ∧ (3 ≤ j → n % 5 ≠ 0)) (fun j => [(0, .int .i64 X), (9, .agg #[.int .i64 (2 : Int), .int .i64 (3 : Int), .int .i64 (5 : Int)]), (10, .int .i64 ((j : Nat) : Int))]) (fun j => 3 - j) 0 ?_ ?_ ?_
  · exact ⟨hB, by omega, by omega, by omega, by omega⟩
  · exact ⟨iv (by omega), rfl, iv (by omega), trivial⟩
  · rintro j w11 ⟨hB, hj, g2, g3, g5⟩
    refine W.seq ?_
    refine W.region ?_
    refine WL.lss rfl rfl rfl (fun c12 => ?_) (fun c12 => ?_)
    · refine WL.done ?_
      refine W.seq ?_
      refine W.condT rfl ?_
      refine W.skip ?_
      refine W.seq ?_
      refine W.block ?_
      refine W.seq ?_
      rcases (show j = 0 ∨ j = 1 ∨ j = 2 by omega) with hj3 | hj3 | hj3
      · refine W.region ?_
        refine WL.indexA (j) (v := .int .i64 (2 : Int)) Try.arr63 rfl rfl (by omega) (by omega) (by rw [hj3]; rfl) rfl ?_
        refine WL.assign rfl rfl ?_
        refine WL.done ?_
        refine W.seq ?_
        refine W.region ?_
        refine WL.move rfl rfl ?_
        refine WL.move rfl rfl ?_
        refine WL.rem (r := ((n % 2 : Nat) : Int)) rfl rfl (by omega) (tmod_nat (by omega) (by omega)) rfl ?_
        refine WL.eql rfl rfl rfl (fun c13 => ?_) (fun c13 => ?_)
        · refine WL.done ?_
          refine W.condT rfl ?_
          refine W.seq ?_
          refine W.region ?_
          refine WL.move rfl rfl ?_
          refine WL.assign rfl rfl ?_
          refine WL.done ?_
          refine W.ret ?_
          refine ⟨_, rfl, ?_⟩
          first
          | exact ⟨by congr 1; have h9 := hd.uniq (lf_two (by omega)); omega, hB⟩
          | exact ⟨by congr 1; have h9 := hd.uniq (lf_three (g2 (by omega)) (by omega)); omega, hB⟩
          | exact ⟨by congr 1; have h9 := hd.uniq (lf_five (g2 (by omega)) (g3 (by omega)) (by omega)); omega, hB⟩
          | exact ⟨by congr 1; have h9 := hd.uniq (hnd.lf (by omega) (by omega)); omega, hB⟩
          | exact ⟨by congr 1; have h9 := hd.uniq (hND.self hn2 (by have := Nat.mul_le_mul (show 30 * i ≤ 30 * i + 7 by omega) (show 30 * i ≤ 30 * i + 7 by omega); omega)); omega, hB⟩
        · refine WL.done ?_
          refine W.condF rfl ?_
          refine W.skip ?_
          refine W.region ?_
          refine WL.add (r := ((j + 1 : Nat) : Int)) rfl rfl (wi64 (by omega) (by omega) (by omega)) rfl ?_
          refine WL.move rfl rfl ?_
          refine WL.done ?_
          refine ⟨j + 1, ⟨iv (by omega), rfl, iv (by omega), trivial⟩, by omega, ?_⟩
          exact ⟨hB, by omega, fun _ => by first | omega | exact g2 (by omega), fun _ => by first | omega | exact g3 (by omega), fun _ => by omega⟩
      · refine W.region ?_
        refine WL.indexA (j) (v := .int .i64 (3 : Int)) Try.arr63 rfl rfl (by omega) (by omega) (by rw [hj3]; rfl) rfl ?_
        refine WL.assign rfl rfl ?_
        refine WL.done ?_
        refine W.seq ?_
        refine W.region ?_
        refine WL.move rfl rfl ?_
        refine WL.move rfl rfl ?_
        refine WL.rem (r := ((n % 3 : Nat) : Int)) rfl rfl (by omega) (tmod_nat (by omega) (by omega)) rfl ?_
        refine WL.eql rfl rfl rfl (fun c14 => ?_) (fun c14 => ?_)
        · refine WL.done ?_
          refine W.condT rfl ?_
          refine W.seq ?_
          refine W.region ?_
          refine WL.move rfl rfl ?_
          refine WL.assign rfl rfl ?_
          refine WL.done ?_
          refine W.ret ?_
          refine ⟨_, rfl, ?_⟩
          first
          | exact ⟨by congr 1; have h9 := hd.uniq (lf_two (by omega)); omega, hB⟩
          | exact ⟨by congr 1; have h9 := hd.uniq (lf_three (g2 (by omega)) (by omega)); omega, hB⟩
          | exact ⟨by congr 1; have h9 := hd.uniq (lf_five (g2 (by omega)) (g3 (by omega)) (by omega)); omega, hB⟩
          | exact ⟨by congr 1; have h9 := hd.uniq (hnd.lf (by omega) (by omega)); omega, hB⟩
          | exact ⟨by congr 1; have h9 := hd.uniq (hND.self hn2 (by have := Nat.mul_le_mul (show 30 * i ≤ 30 * i + 7 by omega) (show 30 * i ≤ 30 * i + 7 by omega); omega)); omega, hB⟩
        · refine WL.done ?_
          refine W.condF rfl ?_
          refine W.skip ?_
          refine W.region ?_
          refine WL.add (r := ((j + 1 : Nat) : Int)) rfl rfl (wi64 (by omega) (by omega) (by omega)) rfl ?_
          refine WL.move rfl rfl ?_
          refine WL.done ?_
          refine ⟨j + 1, ⟨iv (by omega), rfl, iv (by omega), trivial⟩, by omega, ?_⟩
          exact ⟨hB, by omega, fun _ => by first | omega | exact g2 (by omega), fun _ => by first | omega | exact g3 (by omega), fun _ => by omega⟩
      · refine W.region ?_
        refine WL.indexA (j) (v := .int .i64 (5 : Int)) Try.arr63 rfl rfl (by omega) (by omega) (by rw [hj3]; rfl) rfl ?_
        refine WL.assign rfl rfl ?_
        refine WL.done ?_
        refine W.seq ?_
        refine W.region ?_
        refine WL.move rfl rfl ?_
        refine WL.move rfl rfl ?_
        refine WL.rem (r := ((n % 5 : Nat) : Int)) rfl rfl (by omega) (tmod_nat (by omega) (by omega)) rfl ?_
        refine WL.eql rfl rfl rfl (fun c15 => ?_) (fun c15 => ?_)
        · refine WL.done ?_
          refine W.condT rfl ?_
          refine W.seq ?_
          refine W.region ?_
          refine WL.move rfl rfl ?_
          refine WL.assign rfl rfl ?_
          refine WL.done ?_
          refine W.ret ?_
          refine ⟨_, rfl, ?_⟩
          first
          | exact ⟨by congr 1; have h9 := hd.uniq (lf_two (by omega)); omega, hB⟩
          | exact ⟨by congr 1; have h9 := hd.uniq (lf_three (g2 (by omega)) (by omega)); omega, hB⟩
          | exact ⟨by congr 1; have h9 := hd.uniq (lf_five (g2 (by omega)) (g3 (by omega)) (by omega)); omega, hB⟩
          | exact ⟨by congr 1; have h9 := hd.uniq (hnd.lf (by omega) (by omega)); omega, hB⟩
          | exact ⟨by congr 1; have h9 := hd.uniq (hND.self hn2 (by have := Nat.mul_le_mul (show 30 * i ≤ 30 * i + 7 by omega) (show 30 * i ≤ 30 * i + 7 by omega); omega)); omega, hB⟩
        · refine WL.done ?_
          refine W.condF rfl ?_
          refine W.skip ?_
          refine W.region ?_
          refine WL.add (r := ((j + 1 : Nat) : Int)) rfl rfl (wi64 (by omega) (by omega) (by omega)) rfl ?_
          refine WL.move rfl rfl ?_
          refine WL.done ?_
          refine ⟨j + 1, ⟨iv (by omega), rfl, iv (by omega), trivial⟩, by omega, ?_⟩
          exact ⟨hB, by omega, fun _ => by first | omega | exact g2 (by omega), fun _ => by first | omega | exact g3 (by omega), fun _ => by omega⟩
    · refine WL.done ?_
      refine W.seq ?_
      refine W.condF rfl ?_
      refine W.exit ?_
      refine W.seq ?_
      refine W.region ?_
      have g2 := g2 (by omega)
      have g3 := g3 (by omega)
      have g5 := g5 (by omega)
      refine WL.move rfl rfl ?_
      refine WL.assign rfl rfl ?_
      refine WL.done ?_
      refine W.seq ?_
      refine W.label ?_
      refine W.seq ?_
      refine W.seq ?_
      refine W.region ?_
      refine WL.assign rfl rfl ?_
      refine WL.done ?_
      refine W.block ?_
      refine W.loop (σ := Nat) (fun i w1 => w.grownBy w1 none ∧ 30 * i ≤ 46370 ∧ NoDiv n (30 * i + 7)) (fun i => [(0, .int .i64 X), (5, .int .i64 X), (6, .int .i64 ((30 * i : Nat) : Int))]) (fun i => 46400 - 30 * i) 0 ?_ ?_ ?_
      · exact ⟨hB, by omega, NoDiv.seven g2 g3 g5⟩
      · exact ⟨iv (by omega), iv (by omega), iv (by omega), trivial⟩
      · rintro i w16 ⟨hB, hi, hND⟩
        have hsl : 30 * i * (30 * i) ≤ 46370 * 46370 := Nat.mul_le_mul hi hi
        refine W.seq ?_
        refine W.seq ?_
        refine W.region ?_
        refine WL.move rfl rfl ?_
        refine WL.move rfl rfl ?_
        refine WL.mul (r := (((30 * i) * (30 * i) : Nat) : Int)) rfl rfl (wi64 (by omega) (by omega) (by omega)) rfl ?_
        refine WL.move rfl rfl ?_
        refine WL.leq rfl rfl rfl (fun c17 => ?_) (fun c17 => ?_)
        · refine WL.done ?_
          refine W.condT rfl ?_
          refine W.skip ?_
          refine W.seq ?_
          refine W.block ?_
          refine W.seq ?_
          refine W.region ?_
          refine WL.buildG (cells := #[.int .i64 (7 : Int), .int .i64 (11 : Int), .int .i64 (13 : Int), .int .i64 (17 : Int), .int .i64 (19 : Int), .int .i64 (23 : Int), .int .i64 (29 : Int), .int .i64 (31 : Int)]) rfl (by kernel_rfl) rfl ?_
          have hb := sq_le (a := 30 * i) (n := n) (by omega) hn
          refine WL.move rfl rfl ?_
          refine WL.done ?_
          refine W.block ?_
          refine W.loop (σ := Nat) (fun m w1 => w.grownBy w1 none ∧ m ≤ 8 ∧ NoDiv n (30 * i + wa m)) (fun m => [(0, .int .i64 X), (5, .int .i64 X), (6, .int .i64 ((30 * i : Nat) : Int)), (27, .agg #[.int .i64 (7 : Int), .int .i64 (11 : Int), .int .i64 (13 : Int), .int .i64 (17 : Int), .int .i64 (19 : Int), .int .i64 (23 : Int), .int .i64 (29 : Int), .int .i64 (31 : Int)]), (28, .int .i64 ((m : Nat) : Int))]) (fun m => 8 - m) 0 ?_ ?_ ?_
          · exact ⟨hB, by omega, hND⟩
          · exact ⟨iv (by omega), iv (by omega), iv (by omega), rfl, iv (by omega), trivial⟩
          · rintro m w18 ⟨hB, hm, hnm⟩
            refine W.seq ?_
            refine W.region ?_
            refine WL.lss rfl rfl rfl (fun c19 => ?_) (fun c19 => ?_)
            · refine WL.done ?_
              refine W.seq ?_
              refine W.condT rfl ?_
              refine W.skip ?_
              refine W.seq ?_
              refine W.block ?_
              refine W.seq ?_
              rcases (show m = 0 ∨ m = 1 ∨ m = 2 ∨ m = 3 ∨ m = 4 ∨ m = 5 ∨ m = 6 ∨ m = 7 by omega) with hm8 | hm8 | hm8 | hm8 | hm8 | hm8 | hm8 | hm8
              · refine W.region ?_
                have hnd : NoDiv n (30 * i + 7) := by have h9 := hnm; rw [hm8] at h9; exact h9
                refine WL.indexA (m) (v := .int .i64 (7 : Int)) Try.arr64 rfl rfl (by omega) (by omega) (by rw [hm8]; rfl) rfl ?_
                refine WL.assign rfl rfl ?_
                refine WL.done ?_
                refine W.seq ?_
                refine W.region ?_
                refine WL.move rfl rfl ?_
                refine WL.move rfl rfl ?_
                refine WL.move rfl rfl ?_
                refine WL.add (r := (((30 * i) + 7 : Nat) : Int)) rfl rfl (wi64 (by omega) (by omega) (by omega)) rfl ?_
                refine WL.rem (r := ((n % ((30 * i) + 7) : Nat) : Int)) rfl rfl (by omega) (tmod_nat (by omega) (by omega)) rfl ?_
                refine WL.eql rfl rfl rfl (fun c20 => ?_) (fun c20 => ?_)
                · refine WL.done ?_
                  refine W.condT rfl ?_
                  refine W.seq ?_
                  refine W.region ?_
                  refine WL.move rfl rfl ?_
                  refine WL.move rfl rfl ?_
                  refine WL.add (r := (((30 * i) + 7 : Nat) : Int)) rfl rfl (wi64 (by omega) (by omega) (by omega)) rfl ?_
                  refine WL.assign rfl rfl ?_
                  refine WL.done ?_
                  refine W.exit ?_
                  refine W.seq ?_
                  refine W.region ?_
                  refine WL.move rfl rfl ?_
                  refine WL.assign rfl rfl ?_
                  refine WL.done ?_
                  refine W.ret ?_
                  refine ⟨_, rfl, ?_⟩
                  first
                  | exact ⟨by congr 1; have h9 := hd.uniq (lf_two (by omega)); omega, hB⟩
                  | exact ⟨by congr 1; have h9 := hd.uniq (lf_three (g2 (by omega)) (by omega)); omega, hB⟩
                  | exact ⟨by congr 1; have h9 := hd.uniq (lf_five (g2 (by omega)) (g3 (by omega)) (by omega)); omega, hB⟩
                  | exact ⟨by congr 1; have h9 := hd.uniq (hnd.lf (by omega) (by omega)); omega, hB⟩
                  | exact ⟨by congr 1; have h9 := hd.uniq (hND.self hn2 (by have := Nat.mul_le_mul (show 30 * i ≤ 30 * i + 7 by omega) (show 30 * i ≤ 30 * i + 7 by omega); omega)); omega, hB⟩
                · refine WL.done ?_
                  refine W.condF rfl ?_
                  refine W.skip ?_
                  refine W.region ?_
                  refine WL.add (r := ((m + 1 : Nat) : Int)) rfl rfl (wi64 (by omega) (by omega) (by omega)) rfl ?_
                  refine WL.move rfl rfl ?_
                  refine WL.done ?_
                  refine ⟨m + 1, ⟨iv (by omega), iv (by omega), iv (by omega), rfl, iv (by omega), trivial⟩, by omega, ?_⟩
                  exact ⟨hB, by omega, by rw [hm8]; show NoDiv n (30 * i + 11); exact hnd.next g2 g3 g5 (by omega) (by intro z h1 h2; rcases (show z = 30 * i + 8 ∨ z = 30 * i + 9 ∨ z = 30 * i + 10 by omega) with rfl | rfl | rfl <;> omega)⟩
              · refine W.region ?_
                have hnd : NoDiv n (30 * i + 11) := by have h9 := hnm; rw [hm8] at h9; exact h9
                refine WL.indexA (m) (v := .int .i64 (11 : Int)) Try.arr64 rfl rfl (by omega) (by omega) (by rw [hm8]; rfl) rfl ?_
                refine WL.assign rfl rfl ?_
                refine WL.done ?_
                refine W.seq ?_
                refine W.region ?_
                refine WL.move rfl rfl ?_
                refine WL.move rfl rfl ?_
                refine WL.move rfl rfl ?_
                refine WL.add (r := (((30 * i) + 11 : Nat) : Int)) rfl rfl (wi64 (by omega) (by omega) (by omega)) rfl ?_
                refine WL.rem (r := ((n % ((30 * i) + 11) : Nat) : Int)) rfl rfl (by omega) (tmod_nat (by omega) (by omega)) rfl ?_
                refine WL.eql rfl rfl rfl (fun c21 => ?_) (fun c21 => ?_)
                · refine WL.done ?_
                  refine W.condT rfl ?_
                  refine W.seq ?_
                  refine W.region ?_
                  refine WL.move rfl rfl ?_
                  refine WL.move rfl rfl ?_
                  refine WL.add (r := (((30 * i) + 11 : Nat) : Int)) rfl rfl (wi64 (by omega) (by omega) (by omega)) rfl ?_
                  refine WL.assign rfl rfl ?_
                  refine WL.done ?_
                  refine W.exit ?_
                  refine W.seq ?_
                  refine W.region ?_
                  refine WL.move rfl rfl ?_
                  refine WL.assign rfl rfl ?_
                  refine WL.done ?_
                  refine W.ret ?_
                  refine ⟨_, rfl, ?_⟩
                  first
                  | exact ⟨by congr 1; have h9 := hd.uniq (lf_two (by omega)); omega, hB⟩
                  | exact ⟨by congr 1; have h9 := hd.uniq (lf_three (g2 (by omega)) (by omega)); omega, hB⟩
                  | exact ⟨by congr 1; have h9 := hd.uniq (lf_five (g2 (by omega)) (g3 (by omega)) (by omega)); omega, hB⟩
                  | exact ⟨by congr 1; have h9 := hd.uniq (hnd.lf (by omega) (by omega)); omega, hB⟩
                  | exact ⟨by congr 1; have h9 := hd.uniq (hND.self hn2 (by have := Nat.mul_le_mul (show 30 * i ≤ 30 * i + 7 by omega) (show 30 * i ≤ 30 * i + 7 by omega); omega)); omega, hB⟩
                · refine WL.done ?_
                  refine W.condF rfl ?_
                  refine W.skip ?_
                  refine W.region ?_
                  refine WL.add (r := ((m + 1 : Nat) : Int)) rfl rfl (wi64 (by omega) (by omega) (by omega)) rfl ?_
                  refine WL.move rfl rfl ?_
                  refine WL.done ?_
                  refine ⟨m + 1, ⟨iv (by omega), iv (by omega), iv (by omega), rfl, iv (by omega), trivial⟩, by omega, ?_⟩
                  exact ⟨hB, by omega, by rw [hm8]; show NoDiv n (30 * i + 13); exact hnd.next g2 g3 g5 (by omega) (by intro z h1 h2; rcases (show z = 30 * i + 12 by omega) with rfl <;> omega)⟩
              · refine W.region ?_
                have hnd : NoDiv n (30 * i + 13) := by have h9 := hnm; rw [hm8] at h9; exact h9
                refine WL.indexA (m) (v := .int .i64 (13 : Int)) Try.arr64 rfl rfl (by omega) (by omega) (by rw [hm8]; rfl) rfl ?_
                refine WL.assign rfl rfl ?_
                refine WL.done ?_
                refine W.seq ?_
                refine W.region ?_
                refine WL.move rfl rfl ?_
                refine WL.move rfl rfl ?_
                refine WL.move rfl rfl ?_
                refine WL.add (r := (((30 * i) + 13 : Nat) : Int)) rfl rfl (wi64 (by omega) (by omega) (by omega)) rfl ?_
                refine WL.rem (r := ((n % ((30 * i) + 13) : Nat) : Int)) rfl rfl (by omega) (tmod_nat (by omega) (by omega)) rfl ?_
                refine WL.eql rfl rfl rfl (fun c22 => ?_) (fun c22 => ?_)
                · refine WL.done ?_
                  refine W.condT rfl ?_
                  refine W.seq ?_
                  refine W.region ?_
                  refine WL.move rfl rfl ?_
                  refine WL.move rfl rfl ?_
                  refine WL.add (r := (((30 * i) + 13 : Nat) : Int)) rfl rfl (wi64 (by omega) (by omega) (by omega)) rfl ?_
                  refine WL.assign rfl rfl ?_
                  refine WL.done ?_
                  refine W.exit ?_
                  refine W.seq ?_
                  refine W.region ?_
                  refine WL.move rfl rfl ?_
                  refine WL.assign rfl rfl ?_
                  refine WL.done ?_
                  refine W.ret ?_
                  refine ⟨_, rfl, ?_⟩
                  first
                  | exact ⟨by congr 1; have h9 := hd.uniq (lf_two (by omega)); omega, hB⟩
                  | exact ⟨by congr 1; have h9 := hd.uniq (lf_three (g2 (by omega)) (by omega)); omega, hB⟩
                  | exact ⟨by congr 1; have h9 := hd.uniq (lf_five (g2 (by omega)) (g3 (by omega)) (by omega)); omega, hB⟩
                  | exact ⟨by congr 1; have h9 := hd.uniq (hnd.lf (by omega) (by omega)); omega, hB⟩
                  | exact ⟨by congr 1; have h9 := hd.uniq (hND.self hn2 (by have := Nat.mul_le_mul (show 30 * i ≤ 30 * i + 7 by omega) (show 30 * i ≤ 30 * i + 7 by omega); omega)); omega, hB⟩
                · refine WL.done ?_
                  refine W.condF rfl ?_
                  refine W.skip ?_
                  refine W.region ?_
                  refine WL.add (r := ((m + 1 : Nat) : Int)) rfl rfl (wi64 (by omega) (by omega) (by omega)) rfl ?_
                  refine WL.move rfl rfl ?_
                  refine WL.done ?_
                  refine ⟨m + 1, ⟨iv (by omega), iv (by omega), iv (by omega), rfl, iv (by omega), trivial⟩, by omega, ?_⟩
                  exact ⟨hB, by omega, by rw [hm8]; show NoDiv n (30 * i + 17); exact hnd.next g2 g3 g5 (by omega) (by intro z h1 h2; rcases (show z = 30 * i + 14 ∨ z = 30 * i + 15 ∨ z = 30 * i + 16 by omega) with rfl | rfl | rfl <;> omega)⟩
              · refine W.region ?_
                have hnd : NoDiv n (30 * i + 17) := by have h9 := hnm; rw [hm8] at h9; exact h9
                refine WL.indexA (m) (v := .int .i64 (17 : Int)) Try.arr64 rfl rfl (by omega) (by omega) (by rw [hm8]; rfl) rfl ?_
                refine WL.assign rfl rfl ?_
                refine WL.done ?_
                refine W.seq ?_
                refine W.region ?_
                refine WL.move rfl rfl ?_
                refine WL.move rfl rfl ?_
                refine WL.move rfl rfl ?_
                refine WL.add (r := (((30 * i) + 17 : Nat) : Int)) rfl rfl (wi64 (by omega) (by omega) (by omega)) rfl ?_
                refine WL.rem (r := ((n % ((30 * i) + 17) : Nat) : Int)) rfl rfl (by omega) (tmod_nat (by omega) (by omega)) rfl ?_
                refine WL.eql rfl rfl rfl (fun c23 => ?_) (fun c23 => ?_)
                · refine WL.done ?_
                  refine W.condT rfl ?_
                  refine W.seq ?_
                  refine W.region ?_
                  refine WL.move rfl rfl ?_
                  refine WL.move rfl rfl ?_
                  refine WL.add (r := (((30 * i) + 17 : Nat) : Int)) rfl rfl (wi64 (by omega) (by omega) (by omega)) rfl ?_
                  refine WL.assign rfl rfl ?_
                  refine WL.done ?_
                  refine W.exit ?_
                  refine W.seq ?_
                  refine W.region ?_
                  refine WL.move rfl rfl ?_
                  refine WL.assign rfl rfl ?_
                  refine WL.done ?_
                  refine W.ret ?_
                  refine ⟨_, rfl, ?_⟩
                  first
                  | exact ⟨by congr 1; have h9 := hd.uniq (lf_two (by omega)); omega, hB⟩
                  | exact ⟨by congr 1; have h9 := hd.uniq (lf_three (g2 (by omega)) (by omega)); omega, hB⟩
                  | exact ⟨by congr 1; have h9 := hd.uniq (lf_five (g2 (by omega)) (g3 (by omega)) (by omega)); omega, hB⟩
                  | exact ⟨by congr 1; have h9 := hd.uniq (hnd.lf (by omega) (by omega)); omega, hB⟩
                  | exact ⟨by congr 1; have h9 := hd.uniq (hND.self hn2 (by have := Nat.mul_le_mul (show 30 * i ≤ 30 * i + 7 by omega) (show 30 * i ≤ 30 * i + 7 by omega); omega)); omega, hB⟩
                · refine WL.done ?_
                  refine W.condF rfl ?_
                  refine W.skip ?_
                  refine W.region ?_
                  refine WL.add (r := ((m + 1 : Nat) : Int)) rfl rfl (wi64 (by omega) (by omega) (by omega)) rfl ?_
                  refine WL.move rfl rfl ?_
                  refine WL.done ?_
                  refine ⟨m + 1, ⟨iv (by omega), iv (by omega), iv (by omega), rfl, iv (by omega), trivial⟩, by omega, ?_⟩
                  exact ⟨hB, by omega, by rw [hm8]; show NoDiv n (30 * i + 19); exact hnd.next g2 g3 g5 (by omega) (by intro z h1 h2; rcases (show z = 30 * i + 18 by omega) with rfl <;> omega)⟩
              · refine W.region ?_
                have hnd : NoDiv n (30 * i + 19) := by have h9 := hnm; rw [hm8] at h9; exact h9
                refine WL.indexA (m) (v := .int .i64 (19 : Int)) Try.arr64 rfl rfl (by omega) (by omega) (by rw [hm8]; rfl) rfl ?_
                refine WL.assign rfl rfl ?_
                refine WL.done ?_
                refine W.seq ?_
                refine W.region ?_
                refine WL.move rfl rfl ?_
                refine WL.move rfl rfl ?_
                refine WL.move rfl rfl ?_
                refine WL.add (r := (((30 * i) + 19 : Nat) : Int)) rfl rfl (wi64 (by omega) (by omega) (by omega)) rfl ?_
                refine WL.rem (r := ((n % ((30 * i) + 19) : Nat) : Int)) rfl rfl (by omega) (tmod_nat (by omega) (by omega)) rfl ?_
                refine WL.eql rfl rfl rfl (fun c24 => ?_) (fun c24 => ?_)
                · refine WL.done ?_
                  refine W.condT rfl ?_
                  refine W.seq ?_
                  refine W.region ?_
                  refine WL.move rfl rfl ?_
                  refine WL.move rfl rfl ?_
                  refine WL.add (r := (((30 * i) + 19 : Nat) : Int)) rfl rfl (wi64 (by omega) (by omega) (by omega)) rfl ?_
                  refine WL.assign rfl rfl ?_
                  refine WL.done ?_
                  refine W.exit ?_
                  refine W.seq ?_
                  refine W.region ?_
                  refine WL.move rfl rfl ?_
                  refine WL.assign rfl rfl ?_
                  refine WL.done ?_
                  refine W.ret ?_
                  refine ⟨_, rfl, ?_⟩
                  first
                  | exact ⟨by congr 1; have h9 := hd.uniq (lf_two (by omega)); omega, hB⟩
                  | exact ⟨by congr 1; have h9 := hd.uniq (lf_three (g2 (by omega)) (by omega)); omega, hB⟩
                  | exact ⟨by congr 1; have h9 := hd.uniq (lf_five (g2 (by omega)) (g3 (by omega)) (by omega)); omega, hB⟩
                  | exact ⟨by congr 1; have h9 := hd.uniq (hnd.lf (by omega) (by omega)); omega, hB⟩
                  | exact ⟨by congr 1; have h9 := hd.uniq (hND.self hn2 (by have := Nat.mul_le_mul (show 30 * i ≤ 30 * i + 7 by omega) (show 30 * i ≤ 30 * i + 7 by omega); omega)); omega, hB⟩
                · refine WL.done ?_
                  refine W.condF rfl ?_
                  refine W.skip ?_
                  refine W.region ?_
                  refine WL.add (r := ((m + 1 : Nat) : Int)) rfl rfl (wi64 (by omega) (by omega) (by omega)) rfl ?_
                  refine WL.move rfl rfl ?_
                  refine WL.done ?_
                  refine ⟨m + 1, ⟨iv (by omega), iv (by omega), iv (by omega), rfl, iv (by omega), trivial⟩, by omega, ?_⟩
                  exact ⟨hB, by omega, by rw [hm8]; show NoDiv n (30 * i + 23); exact hnd.next g2 g3 g5 (by omega) (by intro z h1 h2; rcases (show z = 30 * i + 20 ∨ z = 30 * i + 21 ∨ z = 30 * i + 22 by omega) with rfl | rfl | rfl <;> omega)⟩
              · refine W.region ?_
                have hnd : NoDiv n (30 * i + 23) := by have h9 := hnm; rw [hm8] at h9; exact h9
                refine WL.indexA (m) (v := .int .i64 (23 : Int)) Try.arr64 rfl rfl (by omega) (by omega) (by rw [hm8]; rfl) rfl ?_
                refine WL.assign rfl rfl ?_
                refine WL.done ?_
                refine W.seq ?_
                refine W.region ?_
                refine WL.move rfl rfl ?_
                refine WL.move rfl rfl ?_
                refine WL.move rfl rfl ?_
                refine WL.add (r := (((30 * i) + 23 : Nat) : Int)) rfl rfl (wi64 (by omega) (by omega) (by omega)) rfl ?_
                refine WL.rem (r := ((n % ((30 * i) + 23) : Nat) : Int)) rfl rfl (by omega) (tmod_nat (by omega) (by omega)) rfl ?_
                refine WL.eql rfl rfl rfl (fun c25 => ?_) (fun c25 => ?_)
                · refine WL.done ?_
                  refine W.condT rfl ?_
                  refine W.seq ?_
                  refine W.region ?_
                  refine WL.move rfl rfl ?_
                  refine WL.move rfl rfl ?_
                  refine WL.add (r := (((30 * i) + 23 : Nat) : Int)) rfl rfl (wi64 (by omega) (by omega) (by omega)) rfl ?_
                  refine WL.assign rfl rfl ?_
                  refine WL.done ?_
                  refine W.exit ?_
                  refine W.seq ?_
                  refine W.region ?_
                  refine WL.move rfl rfl ?_
                  refine WL.assign rfl rfl ?_
                  refine WL.done ?_
                  refine W.ret ?_
                  refine ⟨_, rfl, ?_⟩
                  first
                  | exact ⟨by congr 1; have h9 := hd.uniq (lf_two (by omega)); omega, hB⟩
                  | exact ⟨by congr 1; have h9 := hd.uniq (lf_three (g2 (by omega)) (by omega)); omega, hB⟩
                  | exact ⟨by congr 1; have h9 := hd.uniq (lf_five (g2 (by omega)) (g3 (by omega)) (by omega)); omega, hB⟩
                  | exact ⟨by congr 1; have h9 := hd.uniq (hnd.lf (by omega) (by omega)); omega, hB⟩
                  | exact ⟨by congr 1; have h9 := hd.uniq (hND.self hn2 (by have := Nat.mul_le_mul (show 30 * i ≤ 30 * i + 7 by omega) (show 30 * i ≤ 30 * i + 7 by omega); omega)); omega, hB⟩
                · refine WL.done ?_
                  refine W.condF rfl ?_
                  refine W.skip ?_
                  refine W.region ?_
                  refine WL.add (r := ((m + 1 : Nat) : Int)) rfl rfl (wi64 (by omega) (by omega) (by omega)) rfl ?_
                  refine WL.move rfl rfl ?_
                  refine WL.done ?_
                  refine ⟨m + 1, ⟨iv (by omega), iv (by omega), iv (by omega), rfl, iv (by omega), trivial⟩, by omega, ?_⟩
                  exact ⟨hB, by omega, by rw [hm8]; show NoDiv n (30 * i + 29); exact hnd.next g2 g3 g5 (by omega) (by intro z h1 h2; rcases (show z = 30 * i + 24 ∨ z = 30 * i + 25 ∨ z = 30 * i + 26 ∨ z = 30 * i + 27 ∨ z = 30 * i + 28 by omega) with rfl | rfl | rfl | rfl | rfl <;> omega)⟩
              · refine W.region ?_
                have hnd : NoDiv n (30 * i + 29) := by have h9 := hnm; rw [hm8] at h9; exact h9
                refine WL.indexA (m) (v := .int .i64 (29 : Int)) Try.arr64 rfl rfl (by omega) (by omega) (by rw [hm8]; rfl) rfl ?_
                refine WL.assign rfl rfl ?_
                refine WL.done ?_
                refine W.seq ?_
                refine W.region ?_
                refine WL.move rfl rfl ?_
                refine WL.move rfl rfl ?_
                refine WL.move rfl rfl ?_
                refine WL.add (r := (((30 * i) + 29 : Nat) : Int)) rfl rfl (wi64 (by omega) (by omega) (by omega)) rfl ?_
                refine WL.rem (r := ((n % ((30 * i) + 29) : Nat) : Int)) rfl rfl (by omega) (tmod_nat (by omega) (by omega)) rfl ?_
                refine WL.eql rfl rfl rfl (fun c26 => ?_) (fun c26 => ?_)
                · refine WL.done ?_
                  refine W.condT rfl ?_
                  refine W.seq ?_
                  refine W.region ?_
                  refine WL.move rfl rfl ?_
                  refine WL.move rfl rfl ?_
                  refine WL.add (r := (((30 * i) + 29 : Nat) : Int)) rfl rfl (wi64 (by omega) (by omega) (by omega)) rfl ?_
                  refine WL.assign rfl rfl ?_
                  refine WL.done ?_
                  refine W.exit ?_
                  refine W.seq ?_
                  refine W.region ?_
                  refine WL.move rfl rfl ?_
                  refine WL.assign rfl rfl ?_
                  refine WL.done ?_
                  refine W.ret ?_
                  refine ⟨_, rfl, ?_⟩
                  first
                  | exact ⟨by congr 1; have h9 := hd.uniq (lf_two (by omega)); omega, hB⟩
                  | exact ⟨by congr 1; have h9 := hd.uniq (lf_three (g2 (by omega)) (by omega)); omega, hB⟩
                  | exact ⟨by congr 1; have h9 := hd.uniq (lf_five (g2 (by omega)) (g3 (by omega)) (by omega)); omega, hB⟩
                  | exact ⟨by congr 1; have h9 := hd.uniq (hnd.lf (by omega) (by omega)); omega, hB⟩
                  | exact ⟨by congr 1; have h9 := hd.uniq (hND.self hn2 (by have := Nat.mul_le_mul (show 30 * i ≤ 30 * i + 7 by omega) (show 30 * i ≤ 30 * i + 7 by omega); omega)); omega, hB⟩
                · refine WL.done ?_
                  refine W.condF rfl ?_
                  refine W.skip ?_
                  refine W.region ?_
                  refine WL.add (r := ((m + 1 : Nat) : Int)) rfl rfl (wi64 (by omega) (by omega) (by omega)) rfl ?_
                  refine WL.move rfl rfl ?_
                  refine WL.done ?_
                  refine ⟨m + 1, ⟨iv (by omega), iv (by omega), iv (by omega), rfl, iv (by omega), trivial⟩, by omega, ?_⟩
                  exact ⟨hB, by omega, by rw [hm8]; show NoDiv n (30 * i + 31); exact hnd.next g2 g3 g5 (by omega) (by intro z h1 h2; rcases (show z = 30 * i + 30 by omega) with rfl <;> omega)⟩
              · refine W.region ?_
                have hnd : NoDiv n (30 * i + 31) := by have h9 := hnm; rw [hm8] at h9; exact h9
                refine WL.indexA (m) (v := .int .i64 (31 : Int)) Try.arr64 rfl rfl (by omega) (by omega) (by rw [hm8]; rfl) rfl ?_
                refine WL.assign rfl rfl ?_
                refine WL.done ?_
                refine W.seq ?_
                refine W.region ?_
                refine WL.move rfl rfl ?_
                refine WL.move rfl rfl ?_
                refine WL.move rfl rfl ?_
                refine WL.add (r := (((30 * i) + 31 : Nat) : Int)) rfl rfl (wi64 (by omega) (by omega) (by omega)) rfl ?_
                refine WL.rem (r := ((n % ((30 * i) + 31) : Nat) : Int)) rfl rfl (by omega) (tmod_nat (by omega) (by omega)) rfl ?_
                refine WL.eql rfl rfl rfl (fun c27 => ?_) (fun c27 => ?_)
                · refine WL.done ?_
                  refine W.condT rfl ?_
                  refine W.seq ?_
                  refine W.region ?_
                  refine WL.move rfl rfl ?_
                  refine WL.move rfl rfl ?_
                  refine WL.add (r := (((30 * i) + 31 : Nat) : Int)) rfl rfl (wi64 (by omega) (by omega) (by omega)) rfl ?_
                  refine WL.assign rfl rfl ?_
                  refine WL.done ?_
                  refine W.exit ?_
                  refine W.seq ?_
                  refine W.region ?_
                  refine WL.move rfl rfl ?_
                  refine WL.assign rfl rfl ?_
                  refine WL.done ?_
                  refine W.ret ?_
                  refine ⟨_, rfl, ?_⟩
                  first
                  | exact ⟨by congr 1; have h9 := hd.uniq (lf_two (by omega)); omega, hB⟩
                  | exact ⟨by congr 1; have h9 := hd.uniq (lf_three (g2 (by omega)) (by omega)); omega, hB⟩
                  | exact ⟨by congr 1; have h9 := hd.uniq (lf_five (g2 (by omega)) (g3 (by omega)) (by omega)); omega, hB⟩
                  | exact ⟨by congr 1; have h9 := hd.uniq (hnd.lf (by omega) (by omega)); omega, hB⟩
                  | exact ⟨by congr 1; have h9 := hd.uniq (hND.self hn2 (by have := Nat.mul_le_mul (show 30 * i ≤ 30 * i + 7 by omega) (show 30 * i ≤ 30 * i + 7 by omega); omega)); omega, hB⟩
                · refine WL.done ?_
                  refine W.condF rfl ?_
                  refine W.skip ?_
                  refine W.region ?_
                  refine WL.add (r := ((m + 1 : Nat) : Int)) rfl rfl (wi64 (by omega) (by omega) (by omega)) rfl ?_
                  refine WL.move rfl rfl ?_
                  refine WL.done ?_
                  refine ⟨m + 1, ⟨iv (by omega), iv (by omega), iv (by omega), rfl, iv (by omega), trivial⟩, by omega, ?_⟩
                  exact ⟨hB, by omega, by rw [hm8]; show NoDiv n (30 * i + 37); exact hnd.next g2 g3 g5 (by omega) (by intro z h1 h2; rcases (show z = 30 * i + 32 ∨ z = 30 * i + 33 ∨ z = 30 * i + 34 ∨ z = 30 * i + 35 ∨ z = 30 * i + 36 by omega) with rfl | rfl | rfl | rfl | rfl <;> omega)⟩
            · refine WL.done ?_
              refine W.seq ?_
              refine W.condF rfl ?_
              refine W.exit ?_
              refine W.region ?_
              refine WL.move rfl rfl ?_
              refine WL.add (r := (((30 * i) + 30 : Nat) : Int)) rfl rfl (wi64 (by omega) (by omega) (by omega)) rfl ?_
              refine WL.assign rfl rfl ?_
              refine WL.done ?_
              refine ⟨i + 1, ⟨iv (by omega), iv (by omega), iv (by omega), trivial⟩, by omega, ?_⟩
              have hm : m = 8 := by omega
              subst hm
              exact ⟨hB, by omega, by have h9 : NoDiv n (30 * i + 37) := hnm; rw [show 30 * (i + 1) + 7 = 30 * i + 37 by omega]; exact h9⟩
        · refine WL.done ?_
          refine W.condF rfl ?_
          refine W.exit ?_
          refine W.seq ?_
          refine W.region ?_
          refine WL.move rfl rfl ?_
          refine WL.assign rfl rfl ?_
          refine WL.done ?_
          refine W.ret ?_
          refine ⟨_, rfl, ?_⟩
          first
          | exact ⟨by congr 1; have h9 := hd.uniq (lf_two (by omega)); omega, hB⟩
          | exact ⟨by congr 1; have h9 := hd.uniq (lf_three (g2 (by omega)) (by omega)); omega, hB⟩
          | exact ⟨by congr 1; have h9 := hd.uniq (lf_five (g2 (by omega)) (g3 (by omega)) (by omega)); omega, hB⟩
          | exact ⟨by congr 1; have h9 := hd.uniq (hnd.lf (by omega) (by omega)); omega, hB⟩
          | exact ⟨by congr 1; have h9 := hd.uniq (hND.self hn2 (by have := Nat.mul_le_mul (show 30 * i ≤ 30 * i + 7 by omega) (show 30 * i ≤ 30 * i + 7 by omega); omega)); omega, hB⟩

theorem rleast_c {w : World} (n : Nat) {X : Int} (hX : X = n) (d : Nat) (hd : IsLf n d) (hn2 : 2 ≤ n) (hn : n < 2147483648) :
    Calls Try.prog 51 #[.int .i64 X] w fun e w2 => ∃ v, e = .returned v ∧ (fun v w2 => v = .int .i64 ((d : Nat) : Int) ∧ w.grownBy w2 none) v w2 := by
  have hB := ext_refl w
  refine calls_of_W (vs := [.int .i64 X]) [2] Try.func51 rfl rfl rfl rfl ?_
  refine W.seq ?_
  refine W.region ?_
  refine WL.assign rfl rfl ?_
  refine WL.done ?_
  refine W.seq ?_
  refine W.seq ?_
  refine W.region ?_
  refine WL.assign rfl rfl ?_
  refine WL.done ?_
  refine W.block ?_
  refine W.loop (σ := Nat) (fun k w1 => w.grownBy w1 none ∧ 2 ≤ k ∧ k ≤ 46341 ∧ NoDiv n k) (fun k => [(0, .int .i64 X), (3, .int .i64 ((k : Nat) : Int))]) (fun k => 46342 - k) 2 ?_ ?_ ?_
  · exact ⟨hB, by omega, by omega, fun z h1 h2 => by omega⟩
  · exact ⟨iv (by omega), iv (by omega), trivial⟩
  · rintro k w11 ⟨hB, hk2, hk, hND⟩
    have hsl : k * k ≤ 46341 * 46341 := Nat.mul_le_mul hk hk
    refine W.seq ?_
    refine W.seq ?_
    refine W.region ?_
    refine WL.move rfl rfl ?_
    refine WL.move rfl rfl ?_
    refine WL.mul (r := ((k * k : Nat) : Int)) rfl rfl (wi64 (by omega) (by omega) (by omega)) rfl ?_
    refine WL.move rfl rfl ?_
    refine WL.leq rfl rfl rfl (fun c12 => ?_) (fun c12 => ?_)
    · refine WL.done ?_
      refine W.condT rfl ?_
      refine W.skip ?_
      refine W.seq ?_
      refine W.block ?_
      refine W.seq ?_
      refine W.region ?_
      refine WL.move rfl rfl ?_
      refine WL.move rfl rfl ?_
      have hb := sq_le (a := k) (n := n) (by omega) hn
      refine WL.rem (r := ((n % k : Nat) : Int)) rfl rfl (by omega) (tmod_nat (by omega) (by omega)) rfl ?_
      refine WL.eql rfl rfl rfl (fun c13 => ?_) (fun c13 => ?_)
      · refine WL.done ?_
        refine W.condT rfl ?_
        refine W.seq ?_
        refine W.region ?_
        refine WL.move rfl rfl ?_
        refine WL.assign rfl rfl ?_
        refine WL.done ?_
        refine W.ret ?_
        refine ⟨_, rfl, ?_⟩
        first
        | exact ⟨by congr 1; have h9 := hd.uniq (hND.lf hk2 (by omega)); omega, hB⟩
        | exact ⟨by congr 1; have h9 := hd.uniq (hND.self hn2 (by omega)); omega, hB⟩
      · refine WL.done ?_
        refine W.condF rfl ?_
        refine W.skip ?_
        refine W.region ?_
        refine WL.move rfl rfl ?_
        refine WL.add (r := ((k + 1 : Nat) : Int)) rfl rfl (wi64 (by omega) (by omega) (by omega)) rfl ?_
        refine WL.assign rfl rfl ?_
        refine WL.done ?_
        refine ⟨k + 1, ⟨iv (by omega), iv (by omega), trivial⟩, by omega, ?_⟩
        exact ⟨hB, by omega, by omega, fun z h1 h2 => by
          rcases Nat.lt_succ_iff_lt_or_eq.1 h1 with h3 | h3
          · exact hND z h3 h2
          · rw [h3]; omega⟩
    · refine WL.done ?_
      refine W.condF rfl ?_
      refine W.exit ?_
      refine W.seq ?_
      refine W.region ?_
      refine WL.move rfl rfl ?_
      refine WL.assign rfl rfl ?_
      refine WL.done ?_
      refine W.ret ?_
      refine ⟨_, rfl, ?_⟩
      first
      | exact ⟨by congr 1; have h9 := hd.uniq (hND.lf hk2 (by omega)); omega, hB⟩
      | exact ⟨by congr 1; have h9 := hd.uniq (hND.self hn2 (by omega)); omega, hB⟩

theorem Prime_in {w : World} {X : Int} (hX : -9223372036854775808 ≤ X ∧ X ≤ 9223372036854775807) (d : Nat) (hd : IsLf X.toNat d) (hXr : 2 ≤ X ∧ X ≤ 2147483647) :
    Calls Try.prog 24 #[.int .i64 X] w fun e w2 => ∃ v, e = .returned v ∧ (fun v w2 => ∃ b : Bool, v = .bool b ∧ w.grownBy w2 none ∧ (b = true → IsPr X) ∧ (b = false → ¬ IsPr X)) v w2 := by
  have hB := ext_refl w
  refine calls_of_W (vs := [.int .i64 X]) [2] Try.func24 rfl rfl rfl rfl ?_
  refine W.seq ?_
  refine W.region ?_
  refine WL.assign rfl rfl ?_
  refine WL.done ?_
  refine W.seq ?_
  refine W.region ?_
  refine WL.move rfl rfl ?_
  refine WL.geq rfl rfl rfl (fun c11 => ?_) (fun c11 => ?_)
  · refine WL.move rfl rfl ?_
    refine WL.take rfl ?_
    refine WL.move rfl rfl ?_
    refine WL.take rfl ?_
    refine WL.leq rfl rfl rfl (fun c12 => ?_) (fun c12 => ?_)
    · refine WL.pick rfl rfl rfl ?_
      refine WL.move rfl rfl ?_
      refine WL.take rfl ?_
      refine WL.move rfl rfl ?_
      refine WL.take rfl ?_
      refine WL.call Try.func49 rfl Try.nm49 rfl rfl (least_c X.toNat (by omega) d hd (by omega) (by omega)) ?_
      rintro _ w13 ⟨rfl, hGw13⟩
      have hB := ext_trans hB hGw13
      refine WL.take rfl ?_
      refine WL.move rfl rfl ?_
      refine WL.take rfl ?_
      refine WL.eql rfl rfl rfl (fun c14 => ?_) (fun c14 => ?_)
      · refine WL.pick rfl rfl rfl ?_
        refine WL.assign rfl rfl ?_
        refine WL.done ?_
        refine W.ret ?_
        refine ⟨_, rfl, ?_⟩
        first
        | exact ⟨true, rfl, hB, (fun _ => ⟨hXr.1, hXr.2, (by have h9 : d = X.toNat := (by omega); rw [h9] at hd; exact hd)⟩), fun h => by cases h⟩
        | exact ⟨false, rfl, hB, (fun h => by cases h), fun _ h => by have := h.2.2.uniq hd; omega⟩
        | (exfalso; omega)
      · refine WL.pick rfl rfl rfl ?_
        refine WL.assign rfl rfl ?_
        refine WL.done ?_
        refine W.ret ?_
        refine ⟨_, rfl, ?_⟩
        first
        | exact ⟨true, rfl, hB, (fun _ => ⟨hXr.1, hXr.2, (by have h9 : d = X.toNat := (by omega); rw [h9] at hd; exact hd)⟩), fun h => by cases h⟩
        | exact ⟨false, rfl, hB, (fun h => by cases h), fun _ h => by have := h.2.2.uniq hd; omega⟩
        | (exfalso; omega)
    · refine WL.pick rfl rfl rfl ?_
      refine WL.move rfl rfl ?_
      refine WL.pass rfl rfl rfl ?_
      refine WL.pass rfl rfl rfl ?_
      refine WL.pass rfl rfl rfl ?_
      refine WL.pass rfl rfl rfl ?_
      refine WL.pick rfl rfl rfl ?_
      refine WL.assign rfl rfl ?_
      refine WL.done ?_
      refine W.ret ?_
      refine ⟨_, rfl, ?_⟩
      first
      | exact ⟨true, rfl, hB, (fun _ => ⟨hXr.1, hXr.2, (by have h9 : d = X.toNat := (by omega); rw [h9] at hd; exact hd)⟩), fun h => by cases h⟩
      | exact ⟨false, rfl, hB, (fun h => by cases h), fun _ h => by have := h.2.2.uniq hd; omega⟩
      | (exfalso; omega)
  · refine WL.move rfl rfl ?_
    refine WL.pass rfl rfl rfl ?_
    refine WL.pass rfl rfl rfl ?_
    refine WL.pick rfl rfl rfl ?_
    refine WL.move rfl rfl ?_
    refine WL.pass rfl rfl rfl ?_
    refine WL.pass rfl rfl rfl ?_
    refine WL.pass rfl rfl rfl ?_
    refine WL.pass rfl rfl rfl ?_
    refine WL.pick rfl rfl rfl ?_
    refine WL.assign rfl rfl ?_
    refine WL.done ?_
    refine W.ret ?_
    refine ⟨_, rfl, ?_⟩
    first
    | exact ⟨true, rfl, hB, (fun _ => ⟨hXr.1, hXr.2, (by have h9 : d = X.toNat := (by omega); rw [h9] at hd; exact hd)⟩), fun h => by cases h⟩
    | exact ⟨false, rfl, hB, (fun h => by cases h), fun _ h => by have := h.2.2.uniq hd; omega⟩
    | (exfalso; omega)

theorem Prime_out {w : World} {X : Int} (hX : -9223372036854775808 ≤ X ∧ X ≤ 9223372036854775807) (hXo : ¬ (2 ≤ X ∧ X ≤ 2147483647)) :
    Calls Try.prog 24 #[.int .i64 X] w fun e w2 => ∃ v, e = .returned v ∧ (fun v w2 => ∃ b : Bool, v = .bool b ∧ w.grownBy w2 none ∧ (b = true → IsPr X) ∧ (b = false → ¬ IsPr X)) v w2 := by
  have hB := ext_refl w
  refine calls_of_W (vs := [.int .i64 X]) [2] Try.func24 rfl rfl rfl rfl ?_
  refine W.seq ?_
  refine W.region ?_
  refine WL.assign rfl rfl ?_
  refine WL.done ?_
  refine W.seq ?_
  refine W.region ?_
  refine WL.move rfl rfl ?_
  refine WL.geq rfl rfl rfl (fun c11 => ?_) (fun c11 => ?_)
  · refine WL.move rfl rfl ?_
    refine WL.take rfl ?_
    refine WL.move rfl rfl ?_
    refine WL.take rfl ?_
    refine WL.leq rfl rfl rfl (fun c12 => ?_) (fun c12 => ?_)
    · refine WL.pick rfl rfl rfl ?_
      refine WL.move rfl rfl ?_
      refine WL.take rfl ?_
      refine WL.move rfl rfl ?_
      refine WL.take rfl ?_
      refine WL.call Try.func49 rfl Try.nm49 rfl rfl (least_c X.toNat (by omega) 0 (absurd (show 2 ≤ X ∧ X ≤ 2147483647 by omega) hXo) (by omega) (by omega)) ?_
      rintro _ w13 ⟨rfl, hGw13⟩
      have hB := ext_trans hB hGw13
      refine WL.take rfl ?_
      refine WL.move rfl rfl ?_
      refine WL.take rfl ?_
      refine WL.eql rfl rfl rfl (fun c14 => ?_) (fun c14 => ?_)
      · refine WL.pick rfl rfl rfl ?_
        refine WL.assign rfl rfl ?_
        refine WL.done ?_
        refine W.ret ?_
        refine ⟨_, rfl, ?_⟩
        first
        | exact ⟨false, rfl, hB, (fun h => by cases h), fun _ h => hXo ⟨h.1, h.2.1⟩⟩
        | (exfalso; omega)
      · refine WL.pick rfl rfl rfl ?_
        refine WL.assign rfl rfl ?_
        refine WL.done ?_
        refine W.ret ?_
        refine ⟨_, rfl, ?_⟩
        first
        | exact ⟨false, rfl, hB, (fun h => by cases h), fun _ h => hXo ⟨h.1, h.2.1⟩⟩
        | (exfalso; omega)
    · refine WL.pick rfl rfl rfl ?_
      refine WL.move rfl rfl ?_
      refine WL.pass rfl rfl rfl ?_
      refine WL.pass rfl rfl rfl ?_
      refine WL.pass rfl rfl rfl ?_
      refine WL.pass rfl rfl rfl ?_
      refine WL.pick rfl rfl rfl ?_
      refine WL.assign rfl rfl ?_
      refine WL.done ?_
      refine W.ret ?_
      refine ⟨_, rfl, ?_⟩
      first
      | exact ⟨false, rfl, hB, (fun h => by cases h), fun _ h => hXo ⟨h.1, h.2.1⟩⟩
      | (exfalso; omega)
  · refine WL.move rfl rfl ?_
    refine WL.pass rfl rfl rfl ?_
    refine WL.pass rfl rfl rfl ?_
    refine WL.pick rfl rfl rfl ?_
    refine WL.move rfl rfl ?_
    refine WL.pass rfl rfl rfl ?_
    refine WL.pass rfl rfl rfl ?_
    refine WL.pass rfl rfl rfl ?_
    refine WL.pass rfl rfl rfl ?_
    refine WL.pick rfl rfl rfl ?_
    refine WL.assign rfl rfl ?_
    refine WL.done ?_
    refine W.ret ?_
    refine ⟨_, rfl, ?_⟩
    first
    | exact ⟨false, rfl, hB, (fun h => by cases h), fun _ h => hXo ⟨h.1, h.2.1⟩⟩
    | (exfalso; omega)

theorem Prime_c {w : World} {X : Int} (hX : -9223372036854775808 ≤ X ∧ X ≤ 9223372036854775807) : Calls Try.prog 24 #[.int .i64 X] w fun e w2 => ∃ v, e = .returned v ∧ (fun v w2 => ∃ b : Bool, v = .bool b ∧ w.grownBy w2 none ∧ (b = true → IsPr X) ∧ (b = false → ¬ IsPr X)) v w2 := by
  by_cases h : 2 ≤ X ∧ X ≤ 2147483647
  · obtain ⟨d, hd⟩ := lf_exists (n := X.toNat) (by omega)
    exact Prime_in hX d hd h
  · exact Prime_out hX h

theorem rPrime_in {w : World} {X : Int} (hX : -9223372036854775808 ≤ X ∧ X ≤ 9223372036854775807) (d : Nat) (hd : IsLf X.toNat d) (hXr : 2 ≤ X ∧ X ≤ 2147483647) :
    Calls Try.prog 25 #[.int .i64 X] w fun e w2 => ∃ v, e = .returned v ∧ (fun v w2 => ∃ b : Bool, v = .bool b ∧ w.grownBy w2 none ∧ (b = true → IsPr X) ∧ (b = false → ¬ IsPr X)) v w2 := by
  have hB := ext_refl w
  refine calls_of_W (vs := [.int .i64 X]) [2] Try.func25 rfl rfl rfl rfl ?_
  refine W.seq ?_
  refine W.region ?_
  refine WL.assign rfl rfl ?_
  refine WL.done ?_
  refine W.seq ?_
  refine W.region ?_
  refine WL.move rfl rfl ?_
  refine WL.call Try.func50 rfl Try.nm50 rfl rfl (rin_c (by omega)) ?_
  rintro _ w11 ⟨bz, rfl, hGw11, z_t, z_f⟩
  have hB := ext_trans hB hGw11
  rcases bz with _ | _
  · have z := z_f rfl
    refine WL.move rfl rfl ?_
    refine WL.pass rfl rfl rfl ?_
    refine WL.pass rfl rfl rfl ?_
    refine WL.pick rfl rfl rfl ?_
    refine WL.move rfl rfl ?_
    refine WL.pass rfl rfl rfl ?_
    refine WL.pass rfl rfl rfl ?_
    refine WL.pass rfl rfl rfl ?_
    refine WL.pass rfl rfl rfl ?_
    refine WL.pick rfl rfl rfl ?_
    refine WL.assign rfl rfl ?_
    refine WL.done ?_
    refine W.ret ?_
    refine ⟨_, rfl, ?_⟩
    first
    | exact ⟨true, rfl, hB, (fun _ => ⟨hXr.1, hXr.2, (by have h9 : d = X.toNat := (by omega); rw [h9] at hd; exact hd)⟩), fun h => by cases h⟩
    | exact ⟨false, rfl, hB, (fun h => by cases h), fun _ h => by have := h.2.2.uniq hd; omega⟩
    | (exfalso; omega)
  · have z := z_t rfl
    refine WL.move rfl rfl ?_
    refine WL.take rfl ?_
    refine WL.move rfl rfl ?_
    refine WL.take rfl ?_
    refine WL.gtr rfl rfl rfl (fun c12 => ?_) (fun c12 => ?_)
    · refine WL.pick rfl rfl rfl ?_
      refine WL.move rfl rfl ?_
      refine WL.take rfl ?_
      refine WL.move rfl rfl ?_
      refine WL.take rfl ?_
      refine WL.call Try.func51 rfl Try.nm51 rfl rfl (rleast_c X.toNat (by omega) d hd (by omega) (by omega)) ?_
      rintro _ w13 ⟨rfl, hGw13⟩
      have hB := ext_trans hB hGw13
      refine WL.take rfl ?_
      refine WL.move rfl rfl ?_
      refine WL.take rfl ?_
      refine WL.eql rfl rfl rfl (fun c14 => ?_) (fun c14 => ?_)
      · refine WL.pick rfl rfl rfl ?_
        refine WL.assign rfl rfl ?_
        refine WL.done ?_
        refine W.ret ?_
        refine ⟨_, rfl, ?_⟩
        first
        | exact ⟨true, rfl, hB, (fun _ => ⟨hXr.1, hXr.2, (by have h9 : d = X.toNat := (by omega); rw [h9] at hd; exact hd)⟩), fun h => by cases h⟩
        | exact ⟨false, rfl, hB, (fun h => by cases h), fun _ h => by have := h.2.2.uniq hd; omega⟩
        | (exfalso; omega)
      · refine WL.pick rfl rfl rfl ?_
        refine WL.assign rfl rfl ?_
        refine WL.done ?_
        refine W.ret ?_
        refine ⟨_, rfl, ?_⟩
        first
        | exact ⟨true, rfl, hB, (fun _ => ⟨hXr.1, hXr.2, (by have h9 : d = X.toNat := (by omega); rw [h9] at hd; exact hd)⟩), fun h => by cases h⟩
        | exact ⟨false, rfl, hB, (fun h => by cases h), fun _ h => by have := h.2.2.uniq hd; omega⟩
        | (exfalso; omega)
    · refine WL.pick rfl rfl rfl ?_
      refine WL.move rfl rfl ?_
      refine WL.pass rfl rfl rfl ?_
      refine WL.pass rfl rfl rfl ?_
      refine WL.pass rfl rfl rfl ?_
      refine WL.pass rfl rfl rfl ?_
      refine WL.pick rfl rfl rfl ?_
      refine WL.assign rfl rfl ?_
      refine WL.done ?_
      refine W.ret ?_
      refine ⟨_, rfl, ?_⟩
      first
      | exact ⟨true, rfl, hB, (fun _ => ⟨hXr.1, hXr.2, (by have h9 : d = X.toNat := (by omega); rw [h9] at hd; exact hd)⟩), fun h => by cases h⟩
      | exact ⟨false, rfl, hB, (fun h => by cases h), fun _ h => by have := h.2.2.uniq hd; omega⟩
      | (exfalso; omega)

theorem rPrime_out {w : World} {X : Int} (hX : -9223372036854775808 ≤ X ∧ X ≤ 9223372036854775807) (hXo : ¬ (2 ≤ X ∧ X ≤ 2147483647)) :
    Calls Try.prog 25 #[.int .i64 X] w fun e w2 => ∃ v, e = .returned v ∧ (fun v w2 => ∃ b : Bool, v = .bool b ∧ w.grownBy w2 none ∧ (b = true → IsPr X) ∧ (b = false → ¬ IsPr X)) v w2 := by
  have hB := ext_refl w
  refine calls_of_W (vs := [.int .i64 X]) [2] Try.func25 rfl rfl rfl rfl ?_
  refine W.seq ?_
  refine W.region ?_
  refine WL.assign rfl rfl ?_
  refine WL.done ?_
  refine W.seq ?_
  refine W.region ?_
  refine WL.move rfl rfl ?_
  refine WL.call Try.func50 rfl Try.nm50 rfl rfl (rin_c (by omega)) ?_
  rintro _ w11 ⟨bz, rfl, hGw11, z_t, z_f⟩
  have hB := ext_trans hB hGw11
  rcases bz with _ | _
  · have z := z_f rfl
    refine WL.move rfl rfl ?_
    refine WL.pass rfl rfl rfl ?_
    refine WL.pass rfl rfl rfl ?_
    refine WL.pick rfl rfl rfl ?_
    refine WL.move rfl rfl ?_
    refine WL.pass rfl rfl rfl ?_
    refine WL.pass rfl rfl rfl ?_
    refine WL.pass rfl rfl rfl ?_
    refine WL.pass rfl rfl rfl ?_
    refine WL.pick rfl rfl rfl ?_
    refine WL.assign rfl rfl ?_
    refine WL.done ?_
    refine W.ret ?_
    refine ⟨_, rfl, ?_⟩
    first
    | exact ⟨false, rfl, hB, (fun h => by cases h), fun _ h => hXo ⟨h.1, h.2.1⟩⟩
    | (exfalso; omega)
  · have z := z_t rfl
    refine WL.move rfl rfl ?_
    refine WL.take rfl ?_
    refine WL.move rfl rfl ?_
    refine WL.take rfl ?_
    refine WL.gtr rfl rfl rfl (fun c12 => ?_) (fun c12 => ?_)
    · refine WL.pick rfl rfl rfl ?_
      refine WL.move rfl rfl ?_
      refine WL.take rfl ?_
      refine WL.move rfl rfl ?_
      refine WL.take rfl ?_
      refine WL.call Try.func51 rfl Try.nm51 rfl rfl (rleast_c X.toNat (by omega) 0 (absurd (show 2 ≤ X ∧ X ≤ 2147483647 by omega) hXo) (by omega) (by omega)) ?_
      rintro _ w13 ⟨rfl, hGw13⟩
      have hB := ext_trans hB hGw13
      refine WL.take rfl ?_
      refine WL.move rfl rfl ?_
      refine WL.take rfl ?_
      refine WL.eql rfl rfl rfl (fun c14 => ?_) (fun c14 => ?_)
      · refine WL.pick rfl rfl rfl ?_
        refine WL.assign rfl rfl ?_
        refine WL.done ?_
        refine W.ret ?_
        refine ⟨_, rfl, ?_⟩
        first
        | exact ⟨false, rfl, hB, (fun h => by cases h), fun _ h => hXo ⟨h.1, h.2.1⟩⟩
        | (exfalso; omega)
      · refine WL.pick rfl rfl rfl ?_
        refine WL.assign rfl rfl ?_
        refine WL.done ?_
        refine W.ret ?_
        refine ⟨_, rfl, ?_⟩
        first
        | exact ⟨false, rfl, hB, (fun h => by cases h), fun _ h => hXo ⟨h.1, h.2.1⟩⟩
        | (exfalso; omega)
    · refine WL.pick rfl rfl rfl ?_
      refine WL.move rfl rfl ?_
      refine WL.pass rfl rfl rfl ?_
      refine WL.pass rfl rfl rfl ?_
      refine WL.pass rfl rfl rfl ?_
      refine WL.pass rfl rfl rfl ?_
      refine WL.pick rfl rfl rfl ?_
      refine WL.assign rfl rfl ?_
      refine WL.done ?_
      refine W.ret ?_
      refine ⟨_, rfl, ?_⟩
      first
      | exact ⟨false, rfl, hB, (fun h => by cases h), fun _ h => hXo ⟨h.1, h.2.1⟩⟩
      | (exfalso; omega)

theorem rPrime_c {w : World} {X : Int} (hX : -9223372036854775808 ≤ X ∧ X ≤ 9223372036854775807) : Calls Try.prog 25 #[.int .i64 X] w fun e w2 => ∃ v, e = .returned v ∧ (fun v w2 => ∃ b : Bool, v = .bool b ∧ w.grownBy w2 none ∧ (b = true → IsPr X) ∧ (b = false → ¬ IsPr X)) v w2 := by
  by_cases h : 2 ≤ X ∧ X ≤ 2147483647
  · obtain ⟨d, hd⟩ := lf_exists (n := X.toNat) (by omega)
    exact rPrime_in hX d hd h
  · exact rPrime_out hX h

theorem Factor_out {w : World} {X : Int} (hX : -9223372036854775808 ≤ X ∧ X ≤ 9223372036854775807) (hXo : ¬ (1 ≤ X ∧ X ≤ 2147483647)) :
    Calls Try.prog 16 #[.int .i64 X] w fun e w2 => ∃ v, e = .returned v ∧ (fun v w2 => v = .tuple #[.slice none 0 0, .int .i64 6] ∧ w.grownBy w2 none) v w2 := by
  have hB := ext_refl w
  refine calls_of_W (vs := [.int .i64 X]) [2, 3] Try.func16 rfl rfl rfl rfl ?_
  refine W.seq ?_
  refine W.region ?_
  refine WL.assign rfl rfl ?_
  refine WL.assign rfl rfl ?_
  refine WL.done ?_
  refine W.seq ?_
  refine W.seq ?_
  refine W.region ?_
  refine WL.move rfl rfl ?_
  refine WL.call Try.func48 rfl Try.nm48 rfl rfl (isPos_c (by omega)) ?_
  rintro _ w11 ⟨bz, rfl, hGw11, z_t, z_f⟩
  have hB := ext_trans hB hGw11
  rcases bz with _ | _
  · have z := z_f rfl
    refine WL.not rfl rfl ?_
    refine WL.done ?_
    refine W.condT rfl ?_
    refine W.seq ?_
    refine W.region ?_
    refine WL.assign rfl rfl ?_
    refine WL.assign rfl rfl ?_
    refine WL.done ?_
    refine W.ret ?_
    refine ⟨_, rfl, ?_⟩
    exact ⟨rfl, hB⟩
  · exfalso
    have z := z_t rfl
    exact hXo z

theorem Factor_ok {w : World} (n : Nat) {X : Int} (hX : X = n) (L : List (Nat × Nat)) (hF : IsFac n L) (hn1 : 1 ≤ n) (hn : n < 2147483648) :
    Calls Try.prog 16 #[.int .i64 X] w fun e w2 => ∃ v, e = .returned v ∧ (fun v w2 => ∃ A2 m2 c2, v = .tuple #[.slice A2 m2 c2, .int .i64 0] ∧ w.grownBy w2 none ∧ Own w.heap.size w2 37 2 A2 m2 c2 (pc L)) v w2 := by
  have hLl := hF.len_lt hn
  have hB := ext_refl w
  refine calls_of_W (vs := [.int .i64 X]) [2, 3] Try.func16 rfl rfl rfl rfl ?_
  refine W.seq ?_
  refine W.region ?_
  refine WL.assign rfl rfl ?_
  refine WL.assign rfl rfl ?_
  refine WL.done ?_
  refine W.seq ?_
  refine W.seq ?_
  refine W.region ?_
  refine WL.move rfl rfl ?_
  refine WL.call Try.func48 rfl Try.nm48 rfl rfl (isPos_c (by omega)) ?_
  rintro _ w11 ⟨bz, rfl, hGw11, z_t, z_f⟩
  have hB := ext_trans hB hGw11
  rcases bz with _ | _
  · exfalso
    have z := z_f rfl
    omega
  · have z := z_t rfl
    refine WL.not rfl rfl ?_
    refine WL.done ?_
    refine W.condF rfl ?_
    refine W.skip ?_
    refine W.seq ?_
    refine W.region ?_
    refine WL.assign rfl rfl ?_
    refine WL.done ?_
    refine W.seq ?_
    refine W.block ?_
    refine W.loop (σ := List (Nat × Nat) × List (Nat × Nat) × Nat × Option Addr × Nat × Nat) (fun s w1 => match s with | (D, Rr, m, Ao, mo, co) => w.grownBy w1 none ∧ D ++ Rr = L ∧ IsFac m Rr ∧ m < 2147483648 ∧ Own w.heap.size w1 37 2 Ao mo co (pc (D))) (fun s => match s with | (D, Rr, m, Ao, mo, co) => [(0, .int .i64 ((m : Nat) : Int)), (4, .slice Ao mo co)]) (fun s => match s with | (D, Rr, m, Ao, mo, co) => m) ([], L, n, none, 0, 0) ?_ ?_ ?_
    · exact ⟨hB, rfl, hF, hn, World.ownsRow_nil _ _ _ _⟩
    · exact ⟨iv (by omega), rfl, trivial⟩
    · rintro ⟨D, Rr, m, Ao, mo, co⟩ w12 ⟨hB, hD, hFm, hm, ho⟩
      have ho_l := ho.rd.plen
      have hDl : D.length ≤ L.length := by rw [← hD, List.length_append]; omega
      refine W.seq ?_
      refine W.seq ?_
      refine W.region ?_
      refine WL.move rfl rfl ?_
      refine WL.gtr rfl rfl rfl (fun c13 => ?_) (fun c13 => ?_)
      · refine WL.done ?_
        refine W.condT rfl ?_
        refine W.skip ?_
        refine W.block ?_
        refine W.seq ?_
        refine W.region ?_
        refine WL.move rfl rfl ?_
        obtain ⟨p, ee, R2, hR⟩ := hFm.cons_of (by omega)
        subst hR
        have hbd := hFm.bd hm (p, ee) List.mem_cons_self
        simp only at hbd
        obtain ⟨q, hl, hq, hqp, he0, hF2⟩ := hFm.inv
        have hp2 := hl.two
        have hq00 : q * p ^ (ee - 0) = m := hq.symm
        have hqm := strip_lt hl hq he0 hF2.pos
        refine WL.call Try.func49 rfl Try.nm49 rfl rfl (least_c m (by omega) p hl (by omega) (by omega)) ?_
        rintro _ w14 ⟨rfl, hGw14⟩
        have hB := ext_trans hB hGw14
        have ho := ho.ext hGw14
        refine WL.assign rfl rfl ?_
        refine WL.assign rfl rfl ?_
        refine WL.done ?_
        refine W.seq ?_
        refine W.block ?_
        refine W.loop (σ := Nat × Option Addr × Nat × Nat) (fun s w1 => match s with | (j, Ao, mo, co) => w.grownBy w1 none ∧ j ≤ ee ∧ Own w.heap.size w1 37 2 Ao mo co (pc (D))) (fun s => match s with | (j, Ao, mo, co) => [(0, .int .i64 ((q * p ^ (ee - j) : Nat) : Int)), (4, .slice Ao mo co), (5, .int .i64 ((p : Nat) : Int)), (6, .int .i64 ((j : Nat) : Int))]) (fun s => match s with | (j, Ao, mo, co) => ee - j) (0, Ao, mo, co) ?_ ?_ ?_
        · exact ⟨hB, by omega, ho⟩
        · exact ⟨iv (by omega), rfl, iv (by omega), iv (by omega), trivial⟩
        · rintro ⟨j, Ao, mo, co⟩ w15 ⟨hB, hj, ho⟩
          have ho_l := ho.rd.plen
          have hqj : q * p ^ (ee - j) ≤ m := by rw [hq]; exact Nat.mul_le_mul_left _ (Nat.pow_le_pow_right (by omega) (by omega))
          refine W.seq ?_
          refine W.seq ?_
          rcases Nat.lt_or_ge j ee with hje | hje
          · refine W.region ?_
            refine WL.move rfl rfl ?_
            refine WL.move rfl rfl ?_
            have hpd := pw_down (m := q) hp2 hje
            refine WL.rem (r := (((q * p ^ (ee - j)) % p : Nat) : Int)) rfl rfl (by omega) (tmod_nat (by omega) (by omega)) rfl ?_
            refine WL.eql rfl rfl rfl (fun hc => ?_) (fun hc => ?_)
            · refine WL.done ?_
              refine W.condT rfl ?_
              refine W.skip ?_
              refine W.block ?_
              refine W.seq ?_
              refine W.region ?_
              refine WL.move rfl rfl ?_
              refine WL.move rfl rfl ?_
              have hpe := hpd.2
              refine WL.quo (r := (((q * p ^ (ee - j)) / p : Nat) : Int)) rfl rfl (by omega) (qi64 (by omega) (by omega) (by omega)) rfl ?_
              refine WL.assign rfl rfl ?_
              refine WL.done ?_
              refine W.region ?_
              refine WL.move rfl rfl ?_
              refine WL.add (r := ((j + 1 : Nat) : Int)) rfl rfl (wi64 (by omega) (by omega) (by omega)) rfl ?_
              refine WL.assign rfl rfl ?_
              refine WL.done ?_
              refine ⟨(j + 1, Ao, mo, co), ⟨iv (by omega), rfl, iv (by omega), iv (by omega), trivial⟩, by (dsimp only; omega), ?_⟩
              exact ⟨hB, by omega, ho⟩
            · exfalso
              have := hpd.1
              omega
          · refine W.region ?_
            refine WL.move rfl rfl ?_
            refine WL.move rfl rfl ?_
            have hje : j = ee := by omega
            have hqe : q * p ^ (ee - j) = q := by rw [hje, Nat.sub_self, Nat.pow_zero, Nat.mul_one]
            refine WL.rem (r := (((q * p ^ (ee - j)) % p : Nat) : Int)) rfl rfl (by omega) (tmod_nat (by omega) (by omega)) rfl ?_
            refine WL.eql rfl rfl rfl (fun hc => ?_) (fun hc => ?_)
            · exfalso
              rw [hqe] at hc
              omega
            · refine WL.done ?_
              refine W.condF rfl ?_
              refine W.exit ?_
              refine W.region ?_
              refine WL.move rfl rfl ?_
              refine WL.move rfl rfl ?_
              refine WL.move rfl rfl ?_
              refine WL.build (cells := #[.int .i64 ((p : Nat) : Int), .int .i64 ((j : Nat) : Int)]) Try.bld37 rfl rfl rfl ?_
              refine WL.lit (b := w15.heap.size) (cells := [.int .i64 ((p : Nat) : Int), .int .i64 ((j : Nat) : Int)]) Try.underlying23 Try.el37 (by decide) ⟨_, rfl, by kernel_rfl⟩ rfl (Nat.le_refl _) rfl ?_
              rintro A18 w19 - hO20 hGw19
              have hO20 := hO20.low (b' := w.heap.size) hB.size
              change Own _ _ _ _ _ _ _ (pc [(p, j)]) at hO20
              have hB := ext_trans hB hGw19
              have ho := ho.ext hGw19
              refine WL.append (mo + 1) ((pc (D ++ ([(p, j)])))) Try.underlying23 Try.el37 rfl rfl ho hO20.rd (pc_one _) (by simp only [maxLen]; omega) (by omega) hB.size (by omega) (pc_app rfl) rfl ?_
              have hOld25 := ho
              intro A21 cp22 w23 hO24 hGw23 hblw23
              have hB := ext_own hB hGw23 (fun g hg => (hOld25.bl_ge g hg).1)
              have hO24_l := hO24.rd.plen
              refine WL.assign rfl rfl ?_
              refine WL.done ?_
              refine ⟨(D ++ [(p, ee)], R2, q, A21, mo + 1, cp22), ⟨iv (by omega), rfl, trivial⟩, by (dsimp only; omega), ?_⟩
              rw [hje] at hO24
              exact ⟨hB, by rw [List.append_assoc]; exact hD, hF2, by omega, hO24⟩
      · refine WL.done ?_
        refine W.condF rfl ?_
        refine W.exit ?_
        refine W.seq ?_
        refine W.region ?_
        refine WL.move rfl rfl ?_
        refine WL.assign rfl rfl ?_
        refine WL.assign rfl rfl ?_
        refine WL.done ?_
        refine W.ret ?_
        refine ⟨_, rfl, ?_⟩
        have hRn := hFm.nil_of (by omega)
        subst hRn
        rw [List.append_nil] at hD
        subst hD
        exact ⟨_, _, _, rfl, hB, ho⟩

theorem rFactor_out {w : World} {X : Int} (hX : -9223372036854775808 ≤ X ∧ X ≤ 9223372036854775807) (hXo : ¬ (1 ≤ X ∧ X ≤ 2147483647)) :
    Calls Try.prog 17 #[.int .i64 X] w fun e w2 => ∃ v, e = .returned v ∧ (fun v w2 => v = .tuple #[.slice none 0 0, .int .i64 6] ∧ w.grownBy w2 none) v w2 := by
  have hB := ext_refl w
  refine calls_of_W (vs := [.int .i64 X]) [2, 3] Try.func17 rfl rfl rfl rfl ?_
  refine W.seq ?_
  refine W.region ?_
  refine WL.assign rfl rfl ?_
  refine WL.assign rfl rfl ?_
  refine WL.done ?_
  refine W.seq ?_
  refine W.seq ?_
  refine W.region ?_
  refine WL.move rfl rfl ?_
  refine WL.call Try.func50 rfl Try.nm50 rfl rfl (rin_c (by omega)) ?_
  rintro _ w11 ⟨bz, rfl, hGw11, z_t, z_f⟩
  have hB := ext_trans hB hGw11
  rcases bz with _ | _
  · have z := z_f rfl
    refine WL.not rfl rfl ?_
    refine WL.done ?_
    refine W.condT rfl ?_
    refine W.seq ?_
    refine W.region ?_
    refine WL.assign rfl rfl ?_
    refine WL.assign rfl rfl ?_
    refine WL.done ?_
    refine W.ret ?_
    refine ⟨_, rfl, ?_⟩
    exact ⟨rfl, hB⟩
  · exfalso
    have z := z_t rfl
    exact hXo z

theorem rFactor_ok {w : World} (n : Nat) {X : Int} (hX : X = n) (L : List (Nat × Nat)) (hF : IsFac n L) (hn1 : 1 ≤ n) (hn : n < 2147483648) :
    Calls Try.prog 17 #[.int .i64 X] w fun e w2 => ∃ v, e = .returned v ∧ (fun v w2 => ∃ A2 m2 c2, v = .tuple #[.slice A2 m2 c2, .int .i64 0] ∧ w.grownBy w2 none ∧ Own w.heap.size w2 37 2 A2 m2 c2 (pc L)) v w2 := by
  have hLl := hF.len_lt hn
  have hB := ext_refl w
  refine calls_of_W (vs := [.int .i64 X]) [2, 3] Try.func17 rfl rfl rfl rfl ?_
  refine W.seq ?_
  refine W.region ?_
  refine WL.assign rfl rfl ?_
  refine WL.assign rfl rfl ?_
  refine WL.done ?_
  refine W.seq ?_
  refine W.seq ?_
  refine W.region ?_
  refine WL.move rfl rfl ?_
  refine WL.call Try.func50 rfl Try.nm50 rfl rfl (rin_c (by omega)) ?_
  rintro _ w11 ⟨bz, rfl, hGw11, z_t, z_f⟩
  have hB := ext_trans hB hGw11
  rcases bz with _ | _
  · exfalso
    have z := z_f rfl
    omega
  · have z := z_t rfl
    refine WL.not rfl rfl ?_
    refine WL.done ?_
    refine W.condF rfl ?_
    refine W.skip ?_
    refine W.seq ?_
    refine W.region ?_
    refine WL.assign rfl rfl ?_
    refine WL.done ?_
    refine W.seq ?_
    refine W.block ?_
    refine W.loop (σ := List (Nat × Nat) × List (Nat × Nat) × Nat × Option Addr × Nat × Nat) (fun s w1 => match s with | (D, Rr, m, Ao, mo, co) => w.grownBy w1 none ∧ D ++ Rr = L ∧ IsFac m Rr ∧ m < 2147483648 ∧ Own w.heap.size w1 37 2 Ao mo co (pc (D))) (fun s => match s with | (D, Rr, m, Ao, mo, co) => [(0, .int .i64 ((m : Nat) : Int)), (4, .slice Ao mo co)]) (fun s => match s with | (D, Rr, m, Ao, mo, co) => m) ([], L, n, none, 0, 0) ?_ ?_ ?_
    · exact ⟨hB, rfl, hF, hn, World.ownsRow_nil _ _ _ _⟩
    · exact ⟨iv (by omega), rfl, trivial⟩
    · rintro ⟨D, Rr, m, Ao, mo, co⟩ w12 ⟨hB, hD, hFm, hm, ho⟩
      have ho_l := ho.rd.plen
      have hDl : D.length ≤ L.length := by rw [← hD, List.length_append]; omega
      refine W.seq ?_
      refine W.seq ?_
      refine W.region ?_
      refine WL.move rfl rfl ?_
      refine WL.gtr rfl rfl rfl (fun c13 => ?_) (fun c13 => ?_)
      · refine WL.done ?_
        refine W.condT rfl ?_
        refine W.skip ?_
        refine W.block ?_
        refine W.seq ?_
        refine W.region ?_
        refine WL.move rfl rfl ?_
        obtain ⟨p, ee, R2, hR⟩ := hFm.cons_of (by omega)
        subst hR
        have hbd := hFm.bd hm (p, ee) List.mem_cons_self
        simp only at hbd
        obtain ⟨q, hl, hq, hqp, he0, hF2⟩ := hFm.inv
        have hp2 := hl.two
        have hq00 : q * p ^ (ee - 0) = m := hq.symm
        have hqm := strip_lt hl hq he0 hF2.pos
        refine WL.call Try.func51 rfl Try.nm51 rfl rfl (rleast_c m (by omega) p hl (by omega) (by omega)) ?_
        rintro _ w14 ⟨rfl, hGw14⟩
        have hB := ext_trans hB hGw14
        have ho := ho.ext hGw14
        refine WL.assign rfl rfl ?_
        refine WL.done ?_
        refine W.seq ?_
        refine W.region ?_
        refine WL.assign rfl rfl ?_
        refine WL.done ?_
        refine W.seq ?_
        refine W.block ?_
        refine W.loop (σ := Nat × Option Addr × Nat × Nat) (fun s w1 => match s with | (j, Ao, mo, co) => w.grownBy w1 none ∧ j ≤ ee ∧ Own w.heap.size w1 37 2 Ao mo co (pc (D))) (fun s => match s with | (j, Ao, mo, co) => [(0, .int .i64 ((q * p ^ (ee - j) : Nat) : Int)), (4, .slice Ao mo co), (5, .int .i64 ((p : Nat) : Int)), (6, .int .i64 ((j : Nat) : Int))]) (fun s => match s with | (j, Ao, mo, co) => ee - j) (0, Ao, mo, co) ?_ ?_ ?_
        · exact ⟨hB, by omega, ho⟩
        · exact ⟨iv (by omega), rfl, iv (by omega), iv (by omega), trivial⟩
        · rintro ⟨j, Ao, mo, co⟩ w15 ⟨hB, hj, ho⟩
          have ho_l := ho.rd.plen
          have hqj : q * p ^ (ee - j) ≤ m := by rw [hq]; exact Nat.mul_le_mul_left _ (Nat.pow_le_pow_right (by omega) (by omega))
          refine W.seq ?_
          refine W.seq ?_
          rcases Nat.lt_or_ge j ee with hje | hje
          · refine W.region ?_
            refine WL.move rfl rfl ?_
            refine WL.move rfl rfl ?_
            have hpd := pw_down (m := q) hp2 hje
            refine WL.rem (r := (((q * p ^ (ee - j)) % p : Nat) : Int)) rfl rfl (by omega) (tmod_nat (by omega) (by omega)) rfl ?_
            refine WL.eql rfl rfl rfl (fun hc => ?_) (fun hc => ?_)
            · refine WL.done ?_
              refine W.condT rfl ?_
              refine W.skip ?_
              refine W.block ?_
              refine W.seq ?_
              refine W.region ?_
              refine WL.move rfl rfl ?_
              refine WL.move rfl rfl ?_
              have hpe := hpd.2
              refine WL.quo (r := (((q * p ^ (ee - j)) / p : Nat) : Int)) rfl rfl (by omega) (qi64 (by omega) (by omega) (by omega)) rfl ?_
              refine WL.assign rfl rfl ?_
              refine WL.done ?_
              refine W.region ?_
              refine WL.move rfl rfl ?_
              refine WL.add (r := ((j + 1 : Nat) : Int)) rfl rfl (wi64 (by omega) (by omega) (by omega)) rfl ?_
              refine WL.assign rfl rfl ?_
              refine WL.done ?_
              refine ⟨(j + 1, Ao, mo, co), ⟨iv (by omega), rfl, iv (by omega), iv (by omega), trivial⟩, by (dsimp only; omega), ?_⟩
              exact ⟨hB, by omega, ho⟩
            · exfalso
              have := hpd.1
              omega
          · refine W.region ?_
            refine WL.move rfl rfl ?_
            refine WL.move rfl rfl ?_
            have hje : j = ee := by omega
            have hqe : q * p ^ (ee - j) = q := by rw [hje, Nat.sub_self, Nat.pow_zero, Nat.mul_one]
            refine WL.rem (r := (((q * p ^ (ee - j)) % p : Nat) : Int)) rfl rfl (by omega) (tmod_nat (by omega) (by omega)) rfl ?_
            refine WL.eql rfl rfl rfl (fun hc => ?_) (fun hc => ?_)
            · exfalso
              rw [hqe] at hc
              omega
            · refine WL.done ?_
              refine W.condF rfl ?_
              refine W.exit ?_
              refine W.region ?_
              refine WL.move rfl rfl ?_
              refine WL.move rfl rfl ?_
              refine WL.move rfl rfl ?_
              refine WL.build (cells := #[.int .i64 ((p : Nat) : Int), .int .i64 ((j : Nat) : Int)]) Try.bld37 rfl rfl rfl ?_
              refine WL.lit (b := w15.heap.size) (cells := [.int .i64 ((p : Nat) : Int), .int .i64 ((j : Nat) : Int)]) Try.underlying23 Try.el37 (by decide) ⟨_, rfl, by kernel_rfl⟩ rfl (Nat.le_refl _) rfl ?_
              rintro A18 w19 - hO20 hGw19
              have hO20 := hO20.low (b' := w.heap.size) hB.size
              change Own _ _ _ _ _ _ _ (pc [(p, j)]) at hO20
              have hB := ext_trans hB hGw19
              have ho := ho.ext hGw19
              refine WL.append (mo + 1) ((pc (D ++ ([(p, j)])))) Try.underlying23 Try.el37 rfl rfl ho hO20.rd (pc_one _) (by simp only [maxLen]; omega) (by omega) hB.size (by omega) (pc_app rfl) rfl ?_
              have hOld25 := ho
              intro A21 cp22 w23 hO24 hGw23 hblw23
              have hB := ext_own hB hGw23 (fun g hg => (hOld25.bl_ge g hg).1)
              have hO24_l := hO24.rd.plen
              refine WL.assign rfl rfl ?_
              refine WL.done ?_
              refine ⟨(D ++ [(p, ee)], R2, q, A21, mo + 1, cp22), ⟨iv (by omega), rfl, trivial⟩, by (dsimp only; omega), ?_⟩
              rw [hje] at hO24
              exact ⟨hB, by rw [List.append_assoc]; exact hD, hF2, by omega, hO24⟩
      · refine WL.done ?_
        refine W.condF rfl ?_
        refine W.exit ?_
        refine W.seq ?_
        refine W.region ?_
        refine WL.move rfl rfl ?_
        refine WL.assign rfl rfl ?_
        refine WL.assign rfl rfl ?_
        refine WL.done ?_
        refine W.ret ?_
        refine ⟨_, rfl, ?_⟩
        have hRn := hFm.nil_of (by omega)
        subst hRn
        rw [List.append_nil] at hD
        subst hD
        exact ⟨_, _, _, rfl, hB, ho⟩
end Go.Proofs.Ytdmgbahognfhbaa
