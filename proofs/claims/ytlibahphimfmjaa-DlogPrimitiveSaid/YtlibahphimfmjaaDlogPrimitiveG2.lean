/- Contracts of functions of the program, and what they lean on: Draw2, Draw3, Sm, Sn, Draw4, So, Sp, Draw5, Sq, Fx, Jo, Sd, Facts, D1, It, Gf. -/
import Derived.Test.YtlibahphimfmjaaDlogPrimitiveG1
import Derived.ArgAppend
import Derived.Laws.OwnMore
import Derived.Deep.Slices
import Derived.JoinedOf
import Derived.ProofKit
import Derived.Test.YtlibahphimfmjaaProg
import Derived.Test.YtlibahphimfmjaaChecked
set_option linter.unusedSimpArgs false
set_option linter.unusedVariables false
namespace Go.Proofs.Ytlibahphimfmjaa
open Go.RowKit
/-- All that the operations of a list wait for, some steps back. -/
def reach (l : List Oper) : Nat → List Nat → List Nat
  | 0, js => js
  | f + 1, js => reach l f ((List.range l.length).filter fun j => js.contains j || js.any fun k => (anyOn l k).contains j)
theorem reach_all {l : List Oper} {p : Nat → Prop} (hcl : ∀ k, p k → ∀ j ∈ anyOn l k, p j) : ∀ (f : Nat) (js : List Nat), (∀ j ∈ js, p j) → ∀ j ∈ reach l f js, p j
  | 0, _, h => h
  | f + 1, js, h => reach_all hcl f _ fun j hj => by
    simp only [List.mem_filter, Bool.or_eq_true, List.contains_iff_mem, List.any_eq_true] at hj
    rcases hj.2 with hj | ⟨k, hk, hj⟩
    · exact h j hj
    · exact hcl k (h k hk) j hj
/-- A region of which all operations from m on wait for all that stand ahead of m. -/
def tailB (n : Nat) (l : List Oper) (ps : List Plan) (m : Nat) : Bool :=
  ps.length == m && Nat.ble m l.length && (List.range l.length).all (fun i => (anyOn l i).all (fun j => Nat.blt j i)) &&
    (List.range l.length).all (fun i => Nat.blt i m || (List.range m).all (fun j => (reach l 6 (anyOn l i)).contains j)) && (List.range m).all fun i =>
    (match ps[i]? with
     | none => false
     | some p => p.on.all (fun j => (anyOn l i).contains j) && p.slots.all (fun t => (List.range m).all fun k => k == i || dstAt l k != some t || (anyOn l k).contains i)) &&
    (match dstAt l i with
     | none => false
     | some d => Nat.blt d n && (List.range m).all fun k => k == i || dstAt l k != some d)
/-! ### all orders, one by one -/
/-- What is left of a region, in whatever order, when those in 'listed' have been carried out. -/
structure WA (P : Program) (n : Nat) (ro : Option Nat) (df : List Deferred) (l : List Oper) (N : Post) (fuel : Nat) (listed : List Bool) (L : Fr) (w : World) : Prop where
  out : ∀ a, Has n df a L → ∀ B, wpAnyIn (wideR ro) 0 P .any l.toArray (finE n df N B) fuel listed.toArray a w
theorem WA.done {P : Program} {n : Nat} {ro : Option Nat} {df : List Deferred} {l : List Oper} {N : Post} {listed : List Bool} {L : Fr} {w : World} (hr : Region.ready .any l.toArray listed.toArray = []) (h : N df L w) : WA P n ro df l N 0 listed L w :=
  ⟨fun a ha B => ⟨hr, L, ha, h⟩⟩
theorem WA.step {P : Program} {n : Nat} {ro : Option Nat} {df : List Deferred} {l : List Oper} {N : Post} {fuel : Nat} {listed : List Bool} {L : Fr} {w : World} (r : List Nat) (hr : Region.ready .any l.toArray listed.toArray = r) (hne : r.isEmpty = false)
    (h : ∀ i ∈ r, ∃ o, l[i]? = some o ∧ WL P n ro df l.toArray [o] (fun _ L' w' => WA P n ro df l N fuel (listed.set i true) L' w') L w) : WA P n ro df l N (fuel + 1) listed L w := by
  refine ⟨fun a ha B => ⟨fun e => ?_, fun i hi => ?_⟩⟩
  · rw [hr] at e; rw [e] at hne; cases hne
  · rw [hr] at hi
    obtain ⟨o, ho, hW⟩ := h i hi
    have hW2 := hW.out a ha B
    have hend : ∀ a' w', wpListIn (wideR ro) 0 P l.toArray (finE n df (fun _ L' w' => WA P n ro df l N fuel (listed.set i true) L' w') B) [] a' w' → wpAnyIn (wideR ro) 0 P .any l.toArray (finE n df N B) fuel (listed.toArray.setIfInBounds i true) a' w' := fun a' w' hq => by
      obtain ⟨L', hL', hq⟩ := hq
      have := hq.out a' hL' B
      simpa using this
    unfold wpOpIn
    simp only [List.getElem?_toArray, ho]
    simp only [wpListIn] at hW2
    by_cases hwant : Region.wanted o (yielded l.toArray a.tmps) = true
    · rw [if_pos hwant] at hW2
      simp only [hwant, if_true]
      refine oper_wp_mono hend (fun e a w hne h => ?_) hW2
      cases e <;> first | exact absurd rfl hne | exact h
    · rw [if_neg hwant] at hW2
      simp only [hwant, if_false, Bool.false_eq_true]
      exact ⟨fun _ _ => trivial, hend _ _ hW2.2⟩
theorem W.drawA {P : Program} {n id : Nat} {ro : Option Nat} {df : List Deferred} {l : List Oper} {N : Post} {B : BPost} {L : Fr} {w0 : World} (hm : P.follows .mixedOrders = true)
    (h : ∀ w, w0.grownBy w none → w.heap = w0.heap → WA P n ro df l N l.length (List.replicate l.length false) L w) : W P n ro df (.region id l.toArray true) N B L w0 := by
  refine ⟨fun a ha => wpIn_mono (Q := finE n df N B) (wpIn_region_any hm ?_) fin_of_finE⟩
  have := (h { w0 with drawn := w0.drawn + 1 } ⟨rfl, rfl, rfl, Nat.le_refl _, fun _ _ _ => rfl⟩ rfl).out a ha B
  simpa using this
theorem Vs_monoT (Vs : List (Value → World → Prop)) (h : ∀ V ∈ Vs, ∀ v w1 w2, V v w1 → w1.grownBy w2 none → V v w2) :
    ∀ j v w1 w2, (Vs.getD j (fun _ _ => True)) v w1 → w1.grownBy w2 none → (Vs.getD j (fun _ _ => True)) v w2 := by
  intro j v w1 w2 h1 h2
  rw [List.getD_eq_getElem?_getD] at h1 ⊢
  cases hj : Vs[j]? with
  | none => trivial
  | some V => rw [hj] at h1; exact h V (List.mem_of_getElem? hj) v w1 w2 h1 h2
end Go.Proofs.Ytlibahphimfmjaa
set_option linter.unusedSimpArgs false
set_option linter.unusedVariables false
namespace Go.Proofs.Ytlibahphimfmjaa
open Go.RowKit
end Go.Proofs.Ytlibahphimfmjaa
set_option linter.unusedSimpArgs false
set_option linter.unusedVariables false
namespace Go.Proofs.Ytlibahphimfmjaa
open Go.RowKit
theorem sm {A : Option Addr} {m m' c : Nat} (h : m = m') : some (Value.slice A m c) = some (.slice A m' c) := by rw [h]
theorem is_lt {B : Nat} {w : World} {A : Option Addr} {m c : Nat} {l : List Int} (h : Rd B w 1 A m c (is l)) {I : Int} (hI : 0 ≤ I ∧ I < (m : Nat)) : I.toNat < (is l).length := by rw [is_len, h.ilen]; omega
theorem bs_lt {B : Nat} {w : World} {A : Option Addr} {m c : Nat} {l : List Bool} (h : Rd B w 1 A m c (bs l)) {I : Int} (hI : 0 ≤ I ∧ I < (m : Nat)) : I.toNat < (bs l).length := by rw [bs_len, h.blen]; omega
theorem is_ap {B B' : Nat} {w w' : World} {A A' : Option Addr} {m c m' c' : Nat} {l l' : List Int} (h : Rd B w 1 A m c (is l)) (h' : Rd B' w' 1 A' m' c' (is l')) : m + m' = (l ++ l').length := by rw [List.length_append, h.ilen, h'.ilen]
theorem apm {m b : Nat} (h : ((m : Nat) : Int) * (b : Int) ≤ 140737488355328) (hb : 0 < b := by decide) : m ≤ maxLen ∧ m * b ≤ 140737488355328 := by
  have h2 : m * b ≤ 140737488355328 := by rw [← Int.natCast_mul] at h; exact Int.ofNat_le.1 h
  have h3 : m ≤ m * b := Nat.le_mul_of_pos_right _ hb
  exact ⟨by simp only [maxLen]; omega, h2⟩
theorem apk {m m' b : Nat} (h : ((m : Nat) + (m' : Nat) : Int) * (b : Int) ≤ 140737488355328) (hb : 0 < b := by decide) : m + m' ≤ maxLen ∧ (m + m') * b ≤ 140737488355328 := by
  rw [← Int.natCast_add] at h; exact apm h hb
theorem Rd.isnone {B : Nat} {w : World} {A : Option Addr} {m c : Nat} {l : List Int} (h : Rd B w 1 A m c (is l)) (hA : A.isNone = true) : l = [] := by
  have h1 := h.ilen
  rcases Nat.eq_zero_or_pos m with h0 | h0
  · exact List.eq_nil_of_length_eq_zero (by omega)
  · obtain ⟨ad, e, _⟩ := h.cells h0; rw [e] at hA; cases hA
theorem Rd.m64 {B : Nat} {w : World} {z : Nat} {A : Option Addr} {m c : Nat} {cs : List Value} (h : Rd B w z A m c cs) : m ≤ 9223372036854775807 := by
  have := h.cap; have h2 := h.max; simp only [maxLen] at h2; omega
theorem pre_len {B : Nat} {w : World} {A : Option Addr} {m c : Nat} {l : List Int} (h : Rd B w 1 A m c (is l)) {j : Int} (hj : 0 ≤ j ∧ j ≤ (m : Nat)) : j.toNat = (l.take j.toNat).length := by
  rw [List.length_take, h.ilen]; omega
theorem Rd.pre {B : Nat} {w : World} {A : Option Addr} {m c : Nat} {l : List Int} (h : Rd B w 1 A m c (is l)) {j : Int} (hj : 0 ≤ j ∧ j ≤ (m : Nat)) : Rd B w 1 A (l.take j.toNat).length c (is (l.take j.toNat)) := by
  have := h.take (k := j.toNat) (by omega)
  rw [Nat.mul_one, is_take] at this
  rwa [← pre_len h hj]
theorem vpart {B : Nat} {w : World} {z : Nat} {A : Option Addr} {m c : Nat} {cs vs : List Value} (h : Rd B w z A m c cs) (o : Nat) (hv : (cs.drop o).take vs.length = vs) : ∀ j u, vs[j]? = some u → w.cell? (((adOf A).add o).add j) = some u := by
  intro j u hu
  rw [add_add]
  refine h.at_ ?_
  have hj : j < vs.length := (List.getElem?_eq_some_iff.1 hu).1
  rw [← hv, List.getElem?_take, if_pos hj, List.getElem?_drop] at hu
  exact hu
def Rw.isRo : Rw → Bool
  | .ro .. => true
  | _ => false
theorem News.of {b : Nat} {w : World} : ∀ {Q : List Rw}, Rows b none w Q → Q.all (fun r => !r.isRo) = true → News b Q
  | [], _, _ => trivial
  | q :: Q, h, hq => by
    simp only [List.all_cons, Bool.and_eq_true, Bool.not_eq_true'] at hq
    refine ⟨fun g hg => ?_, News.of h.2.2 (by simpa using hq.2)⟩
    cases q with
    | row e z A m c cs => exact (h.1.2 g hg).resolve_right (by simp)
    | ch lo hi Pr => have := h.1.2.1; have := hg.1; omega
    | ro z A m c cs => simp [Rw.isRo] at hq
theorem calls_swap {P : Program} {f : FuncId} {args : Array Value} {w : World} {K : Value → List Rw → World → Prop} (h : Calls P f args w fun e w' => ∃ v, e = .returned v ∧ ∃ Q, K v Q w') :
    Calls P f args w fun e w' => ∃ v Q, e = .returned v ∧ K v Q w' := h.mono fun e w' ⟨v, h1, Q, h2⟩ => ⟨v, Q, h1, h2⟩
section
variable {X : World → Prop} {w0 w w' : World} {mr : Option Nat} {R : List Rw}
theorem St.nil {e z : Nat} (h : St X w0 mr w R) : St X w0 mr w (.row e z none 0 0 [] :: R) :=
  h.push (World.grownBy.refl w none) ⟨World.ownsRow_nil w 0 e z, fun g hg => by cases hg⟩ fun g hg => by cases hg
theorem St.rop {i z m c : Nat} {A : Option Addr} {cs : List Value} (h : St X w0 mr w R) (hi : R[i]? = some (.ro z A m c cs)) : Rd w.heap.size w z A m c cs := (h.rows.get hi).2
theorem List.set_getElem?_self {α : Type} : ∀ {R : List α} {i : Nat} {r : α}, R[i]? = some r → R.set i r = R
  | [], _, _, h => by simp at h
  | s :: R, 0, _, h => by cases h; rfl
  | s :: R, i + 1, _, h => by
    rw [List.set_cons_succ, List.set_getElem?_self (R := R) (by simpa using h)]
theorem Rows.setRo {b : Nat} : ∀ {R : List Rw} {i e z m c : Nat} {A : Option Addr} {cs : List Value}, Rows b mr w R → R[i]? = some (.row e z A m c cs) → 0 < z → Rows b mr w (R.set i (.ro z A m c cs))
  | r :: R, 0, e, z, m, c, A, cs, h, hi, hz => by
    cases hi
    exact ⟨⟨hz, h.1.1.rd⟩, fun s hs hm g h1 h2 => h.2.1 s hs (by rfl) g h1.1 h2, h.2.2⟩
  | r :: R, i + 1, e, z, m, c, A, cs, h, hi, hz => by
    have hi' : R[i]? = some (.row e z A m c cs) := by simpa using hi
    refine ⟨h.1, fun s hs hm g h1 h2 => ?_, Rows.setRo (R := R) (i := i) h.2.2 hi' hz⟩
    rcases List.mem_or_eq_of_mem_set hs with hs | rfl
    · exact h.2.1 s hs hm g h1 h2
    · exact h.2.1 _ (List.mem_of_getElem? hi') (by simp [Rw.mut]) g h1 h2.1
theorem St.relen {i e z m m' c : Nat} {A : Option Addr} {cs : List Value} (h : St X w0 mr w R) (hi : R[i]? = some (.row e z A m c cs)) (hm : m = m') : St X w0 mr w (R.set i (.row e z A m' c cs)) := by
  subst hm
  rw [List.set_getElem?_self hi]
  exact h
/-- A row is only read from here on. -/
theorem St.freeze {i e z m c : Nat} {A : Option Addr} {cs : List Value} (h : St X w0 mr w R) (hi : R[i]? = some (.row e z A m c cs)) (hz : 0 < z := by decide) : St X w0 mr w (R.set i (.ro z A m c cs)) := ⟨h.ext, h.rows.setRo hi hz, h.x, h.cl, h.lt⟩
end
section
variable {P : Program} {n : Nat} {ro : Option Nat} {df : List Deferred} {N : Post} {L : Fr} {w w0 : World} {ops : Array Oper} {rest : List Oper}
variable {d : Nat} {ty : TypeId} {pos : String} {af : Array Edge}
theorem SL.slTo {x y : Operand} {t e : TypeId} {z by_ B : Nat} {zero : Value} {A : Option Addr} {m c : Nat} {cs : List Value} {wR : World} {k : IntKind} {J : Int} (ht : P.underlying t = some (.slice e)) (he : Elem P e z by_ zero) (hR : Rd B wR z A m c cs)
    (hx : ev L x = some (.slice A m c)) (hy : ev L y = some (.int k J)) (hJ : 0 ≤ J ∧ J ≤ (m : Nat)) (hn : Nat.blt d n = true)
    (mm : Nat) (hmm : J.toNat = mm) (h : WL P n ro df ops rest N ((d, .slice A mm c) :: L) w) : WL P n ro df ops (⟨some d, .slice t x none (some y) none, ty, pos, af, none⟩ :: rest) N L w := by
  subst hmm
  exact WL.slTo J.toNat ht he hx hy (by omega) (by have := hR.cap; omega) hn h
theorem SL.callc {x : Operand} {f : FuncId} {fn : Func} {c : Code} {xs : List Operand} {ts : Array TypeId} {vs cs : List Value} {K : Value → List Rw → Prop} {X : World → Prop} {mr : Option Nat} {R : List Rw} (hS : St X w0 mr w R)
    (hc : Calls P f (vs ++ cs).toArray w fun e w' => ∃ v Q, e = .returned v ∧ w.grownBy w' none ∧ Rows w.heap.size none w' Q ∧ News w.heap.size Q ∧ K v Q)
    (hfv : ev L x = some (.func (.func f) #[] cs.toArray)) (hf : P.funcs[f]? = some fn) (hb : fn.body = some c) (hnm : (fn.name == "runtime.NumGoroutine") = false) (hx : evs L xs = some vs) (hn : Nat.blt d n = true)
    (h : ∀ v Q w', K v Q → w.grownBy w' none → St X w0 mr w' (Q ++ R) → WL P n ro df ops rest N ((d, v) :: L) w') :
    WL P n ro df ops (⟨some d, .call ⟨.value x, xs.toArray, ts⟩, ty, pos, af, none⟩ :: rest) N L w :=
  WL.callc hfv hf hb hnm hx hn (R := fun v w' => ∃ Q, w.grownBy w' none ∧ Rows w.heap.size none w' Q ∧ News w.heap.size Q ∧ K v Q) (hc.mono fun e w' ⟨v, Q, h1, h2⟩ => ⟨v, h1, Q, h2⟩) fun v w' ⟨Q, h1, h2, h3, h4⟩ => h v Q w' h4 h1 (hS.call h1 h2 h3)
theorem WL.eqlNil {x y : Operand} {tx tb e : TypeId} {A : Option Addr} {m c : Nat} {b : Bool} (hb : A.isNone = b) (hu : P.underlying tx = some (.slice e)) (hx : ev L x = some (.slice A m c)) (hy : ev L y = some (.slice none 0 0)) (hn : Nat.blt d n = true)
    (h : WL P n ro df ops rest N ((d, .bool b) :: L) w) : WL P n ro df ops (⟨some d, .binOp .eql tx x y tb, ty, pos, af, none⟩ :: rest) N L w :=
  WL.val rfl rfl hn (fun a ha => by
    have hq : (Op.equal tx (.slice A m c) (.slice none 0 0)).run P w = .ok b w := by
      have : ∀ k, (Op.equalIn (k + 1) tx (.slice A m c) (.slice none 0 0)).run P w = .ok b w := fun k => by
        rw [Op.equalIn]
        subst hb
        cases A <;> simp [run_underlying hu]
      exact this 9999
    simp [execOp, eqGuard, binOp, ha.ev hx, ha.ev hy, hq]) h
end
end Go.Proofs.Ytlibahphimfmjaa
set_option linter.unusedSimpArgs false
set_option linter.unusedVariables false
namespace Go.Proofs.Ytlibahphimfmjaa
open Go.RowKit
/-! ### the state in loops over functions -/
/-- The pieces that are only read end below B. -/
def ChLe (B : Nat) : List Rw → Prop
  | [] => True
  | .ch _ hi _ :: R => hi ≤ B ∧ ChLe B R
  | _ :: R => ChLe B R
theorem not_cells {w : World} {p : Addr} {v : Value} {r : Nat} {o : Obj} (h : w.cell? p = some v) (ho : w.heap[r]? = some o) (hc : o.isCells = false) : p.block ≠ r := fun e => by
  obtain ⟨o', h1, h2⟩ := cells_of_cell h
  rw [e, ho] at h1; cases h1; rw [h2] at hc; cases hc
theorem Rows.stay {b B : Nat} {w w' : World} {row : Option Nat} (hg : w.grownBy w' row) (hr : ∀ r, row = some r → B ≤ r ∧ ∃ o : Obj, w.heap[r]? = some o ∧ o.isCells = false) :
    ∀ {R : List Rw}, Rows b none w R → ChLe B R → Rows b none w' R
  | [], _, _ => trivial
  | q :: R, h, hc => by
    have ih : ChLe B R := by cases q <;> first | exact hc.2 | exact hc
    refine ⟨h.1.step hg (fun g e hat => ?_), h.2.1, Rows.stay hg hr h.2.2 ih⟩
    obtain ⟨h1, o, ho, hoc⟩ := hr g e
    cases q with
    | row e z A m c cs =>
      obtain ⟨o', h2, h3⟩ := own_cells h.1.1 g hat
      rw [ho] at h2; cases h2; rw [h3] at hoc; cases hoc
    | ch lo hi Pr => have := hc.1; have := hat.2; omega
    | ro z A m c cs =>
      obtain ⟨ad, e1, e2, e3⟩ := Rd.cells h.1.2 hat.2
      have h4 := hat.1
      rw [e1] at h4; cases h4
      have hl : 0 < cs.length := by rw [Rd.len h.1.2]; exact Nat.mul_pos hat.2 h.1.1
      exact not_cells (e3 0 _ (List.getElem?_eq_getElem hl)) ho hoc (block_add _ _)
def KO (W1 : World) : World → Prop := fun w => KeepsOthers W1 w
theorem closed_KO (W1 : World) : Closed (KO W1) := fun w w' row h hg hr => KeepsOthers.trans h (KeepsOthers.of_grownBy hg (fun j o e ho => by obtain ⟨o', h1, h2⟩ := hr j e; rw [ho] at h1; cases h1; exact h2))
section
variable {w0 w w' : World} {R : List Rw}
theorem St.stay {B : Nat} (h : St TT w0 none w R) (hB : w0.heap.size ≤ B) (hc : ChLe B R) {row : Option Nat} (hg : w.grownBy w' row) (hr : ∀ r, row = some r → B ≤ r ∧ ∃ o : Obj, w.heap[r]? = some o ∧ o.isCells = false) : St TT w0 none w' R :=
  ⟨grownBy_trans2 h.ext hg (fun g e => .inl (Nat.le_trans hB (hr g e).1)), h.rows.stay hg hr hc, trivial, closed_TT, h.lt⟩
theorem St.toKO (h : St TT w0 none w R) : St (KO w) w0 none w R := ⟨h.ext, h.rows, KeepsOthers.refl w, closed_KO w, h.lt⟩
theorem St.ofKO {W1 : World} (h : St (KO W1) w0 none w R) : St TT w0 none w R := ⟨h.ext, h.rows, trivial, closed_TT, h.lt⟩
theorem St.hi {X : World → Prop} {mr : Option Nat} {i lo hi : Nat} {Pr : World → Prop} (h : St X w0 mr w R) (hR : R[i]? = some (.ch lo hi Pr)) : hi ≤ w.heap.size := (h.rows.get hR).2.2.1
def Mrk (D : Nat) : World → Prop := fun w => w.heap[D]? = some (.deferred (some []))
theorem St.mark {D : Nat} (h : St TT w0 none w R) (hB : w0.heap.size ≤ D) (hD : w.heap[D]? = some (.deferred (some []))) (hc : ChLe D R) : St TT w0 none w (.ch D (D + 1) (Mrk D) :: R) := by
  have hlt : D < w.heap.size := (Array.getElem?_eq_some_iff.1 hD).1
  refine ⟨h.ext, ⟨⟨hD, hB, hlt, fun x y hxy hx => (hxy D (Nat.le_refl _) (Nat.lt_succ_self _)).trans hx, fun g e => by cases e⟩, fun s hs hm g h1 h2 => ?_, h.rows⟩, h.x, h.cl, h.lt⟩
  have hg : g = D := by have := h1.1; have := h1.2; omega
  subst hg
  cases s with
  | row e z A m c cs =>
    obtain ⟨o', h3, h4⟩ := own_cells (h.rows.mem hs).1 g h2
    rw [hD] at h3; cases h3; cases h4
  | ch => simp [Rw.mut] at hm
  | ro => simp [Rw.mut] at hm
/-- The mark is taken at the function's end. -/
theorem St.taken {D : Nat} (h : St TT w0 none w (.ch D (D + 1) (Mrk D) :: R)) (hc : ChLe D R) : w.heap[D]? = some (.deferred (some [])) ∧ St TT w0 none (w.putObj D (.deferred none)) R := by
  have hD : w.heap[D]? = some (.deferred (some [])) := h.rows.1.1
  have h2 : St TT w0 none w R := ⟨h.ext, h.rows.2.2, trivial, closed_TT, h.lt⟩
  exact ⟨hD, h2.stay h.rows.1.2.1 hc (grownBy_putObj' w D _) (fun r e => by cases e; exact ⟨Nat.le_refl _, _, hD, rfl⟩)⟩
end
theorem bw_stay {B : Nat} {q : Int → Array Value} {x : Array Value} {ad : Addr} : Stay B (fun w1 => ∃ v : Int, x = q v ∧ w1.cell? ad = some (.int .i64 v)) := by
  rintro W W' row ⟨v, h1, h2⟩ hg hr
  exact ⟨v, h1, hg.cell h2 (fun e => by obtain ⟨_, o, ho, hc⟩ := hr _ e.symm; exact not_cells h2 ho hc rfl)⟩
theorem bw_val {B : Nat} {w : World} {A : Option Addr} {m c j : Nat} {l : List Int} {v : Int} (h : Rd B w 1 A m c (is l)) (hj : j < m) (hc : w.cell? ((adOf A).add j) = some (.int .i64 v)) : v = gi l ((j : Nat) : Int) := by
  have h1 := h.at_ (is_at (l := l) (j := j) (by have := h.ilen; omega))
  rw [h1] at hc; cases hc
  simp [gi]
/-- A loop over a function, on the state: σ: what the rounds turn. -/
theorem SR.range {σ : Type} {P : Program} {n : Nat} {df : List Deferred} {N : Post} {B : BPost} {L : Fr} {w w0 : World} {g : Operand} {ps : List Nat} {assign body : Code} {gf : Nat} {fn : Func} {c : Code} {lb : Array Value} {M : World → Prop} {yv : Nat → Array Value → World → Prop} {cnt : Nat} {wq : World}
    (Inv : Nat → σ → Prop) (R : σ → List Rw) (Ex : Exit → σ → Prop) (fr : List Value → Fr) (s0 : σ) (hS : St TT w0 none w (R s0)) (hI0 : Inv 0 s0) (hch : ∀ s, ChLe w.heap.size (R s))
    (hg : ev L g = some (.func (.func gf) #[] lb)) (hf : P.funcs[gf]? = some fn) (hfb : fn.body = some c) (hnm : (fn.name == "runtime.NumGoroutine") = false)
    (hseq : SeqJ P gf lb M yv cnt wq) (hb0 : Below wq.heap.size wq w) (hps : ∀ i x W, yv i x W → x.size = ps.length) (hyv : ∀ i x, Stay w.heap.size (yv i x)) (hpn : ∀ p ∈ ps, p < n)
    (hM : ∀ i s W1, Inv i s → St TT w0 none W1 (R s) → M W1)
    (asg : ∀ (l : Nat) (vs : List Value) (W1 : World), vs.length = ps.length → W P n (some l) [] assign (fun d' L' w' => d' = [] ∧ w' = W1 ∧ sub (fr vs) L') (fun _ _ _ _ => False) (parF ps vs L) W1)
    (rnd : ∀ (l i : Nat) (x : Array Value) (s : σ) (W1 : World), i < cnt → yv i x W1 → Inv i s → St (KO W1) w0 none W1 (R s) → W P n (some l) [] body (fun _ _ w' => ∃ s', Inv (i + 1) s' ∧ St (KO W1) w0 none w' (R s')) (fun e _ _ w' => ∃ s', plainExit e = true ∧ Ex e s' ∧ St (KO W1) w0 none w' (R s')) (fr x.toList) W1)
    (done : ∀ (D : Nat) (s : σ) (w1 : World), Inv cnt s → w.heap.size ≤ D → St TT w0 none w1 (.ch D (D + 1) (Mrk D) :: R s) → N ({ target := .collected D, args := #[] } :: df) L w1)
    (stop : ∀ (D : Nat) (e : Exit) (s : σ) (w1 : World), plainExit e = true → Ex e s → w.heap.size ≤ D → St TT w0 none w1 (.ch D (D + 1) (Mrk D) :: R s) → exits B ({ target := .collected D, args := #[] } :: df) L w1 e) :
    W P n none df (.rangeFunc g ps.toArray assign body) N B L w := by
  have hsz := hS.size
  have mono : ∀ {a b : Nat} {Q : List Rw}, a ≤ b → ChLe a Q → ChLe b Q := by
    intro a b Q hab
    induction Q with
    | nil => intro _; trivial
    | cons q Q ih => intro h; cases q <;> first | exact ⟨Nat.le_trans h.1 hab, ih h.2⟩ | exact ih h
  refine W.range (I := fun i W => ∃ s, Inv i s ∧ St TT w0 none W (R s)) (IX := fun e i W => ∃ s, Ex e s ∧ St TT w0 none W (R s)) (fr := fr) hg hf hfb hnm hseq hb0 hps hyv hpn ?_ ?_ ⟨s0, hI0, hS⟩ (fun i W1 ⟨s, h1, h2⟩ => hM i s W1 h1 h2) asg ?_ ?_ ?_
  · rintro i W1 W2 row ⟨s, h1, h2⟩ hgr hr; exact ⟨s, h1, h2.stay hsz (hch s) hgr hr⟩
  · rintro e i W1 W2 row ⟨s, h1, h2⟩ hgr hr; exact ⟨s, h1, h2.stay hsz (hch s) hgr hr⟩
  · rintro l i x W1 hi hx ⟨s, h1, h2⟩
    refine ⟨fun a ha => wpIn_mono ((rnd l i x s W1 hi hx h1 h2.toKO).out a ha) fun e a' w' q => ?_⟩
    cases e with
    | normal => obtain ⟨d', L', hL, s', h3, h4⟩ := q; exact ⟨d', L', hL, h4.x, s', h3, h4.ofKO⟩
    | _ => obtain ⟨d', L', hL, s', h0, h3, h4⟩ := q; exact ⟨d', L', hL, h0, h4.x, s', h3, h4.ofKO⟩
  · rintro D w1 hD ⟨s, h1, h2⟩ hd
    exact done D s w1 h1 hD (h2.mark (Nat.le_trans hsz hD) hd (mono hD (hch s)))
  · rintro D e i w1 hD hi he ⟨s, h1, h2⟩ hd
    exact stop D e s w1 he h1 hD (h2.mark (Nat.le_trans hsz hD) hd (mono hD (hch s)))
end Go.Proofs.Ytlibahphimfmjaa
set_option linter.unusedSimpArgs false
set_option linter.unusedVariables false
namespace Go.Proofs.Ytlibahphimfmjaa
open Go.RowKit
/-! ### regions that draw their order: new rows are apart, copies are the same -/
def vb : Value → Option Nat
  | .slice A _ _ => bl A
  | .pointer (some a) => some a.block
  | _ => none
/-- What is to be shown of an operation; al: those that yield a new row; cp: those that copy another's value. -/
def obA (P : Program) (n : Nat) (ro : Option Nat) (df : List Deferred) (l : List Oper) (al : Nat → Bool) (cp : Nat → Option Nat) (V : Nat → Value → World → Prop) (w0 : World) (i : Nat) (o : Oper) (p : Plan) (base : Fr) : Prop :=
  ∀ w, (p.pure = false → w0.grownBy w none) → told l V w (fun F => ∀ R : Fr, WL P n ro df l.toArray [o]
    (fun _ L' w' => ∃ u, L' = ((dstAt l i).getD 0, u) :: (F ++ R) ∧ (if p.pure then w' = w else w.grownBy w' none) ∧ V i u w' ∧ (al i = true → ∀ g, vb u = some g → w.heap.size ≤ g ∧ g < w'.heap.size) ∧ (∀ j, cp i = some j → lk (F ++ R) ((dstAt l j).getD 0) = some u)) (F ++ R) w) p.on base
def obsA (P : Program) (n : Nat) (ro : Option Nat) (df : List Deferred) (l : List Oper) (al : Nat → Bool) (cp : Nat → Option Nat) (V : Nat → Value → World → Prop) (w0 : World) (L : Fr) : Nat → List Oper → List Plan → List Fr → Prop
  | i, o :: os, p :: ps, b :: bs => (b.map (·.1) = p.slots ∧ sub b L ∧ obA P n ro df l al cp V w0 i o p b) ∧ obsA P n ro df l al cp V w0 L (i + 1) os ps bs
  | _, [], [], [] => True
  | _, _, _, _ => False
theorem obsA_at {P : Program} {n : Nat} {ro : Option Nat} {df : List Deferred} {l : List Oper} {al : Nat → Bool} {cp : Nat → Option Nat} {V : Nat → Value → World → Prop} {w0 : World} {L : Fr} : ∀ (os : List Oper) (ps : List Plan) (bs : List Fr) (i : Nat),
    obsA P n ro df l al cp V w0 L i os ps bs → ∀ k o p, os[k]? = some o → ps[k]? = some p → ∃ b, b.map (·.1) = p.slots ∧ sub b L ∧ obA P n ro df l al cp V w0 (i + k) o p b
  | [], _, _, _, _, k, _, _, ho, _ => by simp at ho
  | o :: os, [], _, _, h, _, _, _, _, hp => by simp at hp
  | o :: os, p :: ps, [], _, h, _, _, _, _, _ => by exact h.elim
  | o :: os, p :: ps, b :: bs, i, h, 0, _, _, ho, hp => by cases ho; cases hp; exact ⟨b, h.1⟩
  | o :: os, p :: ps, b :: bs, i, h, k + 1, o', p', ho, hp => by
    obtain ⟨b', h'⟩ := obsA_at os ps bs (i + 1) h.2 k o' p' (by simpa using ho) (by simpa using hp)
    exact ⟨b', by rw [show i + (k + 1) = i + 1 + k by omega]; exact h'⟩
/-- New rows done are apart, copies done are the same. -/
structure Ap (al : Nat → Bool) (cp : Nat → Option Nat) (d : Nat → Bool) (vals : Nat → Value) (w : World) : Prop where
  lt : ∀ k, d k = true → al k = true → ∀ g, vb (vals k) = some g → g < w.heap.size
  ap : ∀ j k, j ≠ k → d j = true → d k = true → al j = true → al k = true → ∀ g, vb (vals j) = some g → vb (vals k) ≠ some g
  cp_ : ∀ i j, d i = true → cp i = some j → vals i = vals j
theorem W.drawX {P : Program} {n id : Nat} {ro : Option Nat} {df : List Deferred} {l : List Oper} {N : Post} {B : BPost} {L : Fr} {w0 : World} (m : Nat) (al : Nat → Bool) (cp : Nat → Option Nat) (ps : List Plan) (bs : List Fr) (V : Nat → Value → World → Prop)
    (hm : P.follows .mixedOrders = true) (hB : tailB n l ps m = true)
    (hV : ∀ j v w1 w2, V j v w1 → w1.grownBy w2 none → V j v w2)
    (hcp : (List.range m).all (fun i => match cp i with | none => true | some j => (anyOn l i).contains j) = true)
    (hobs : obsA P n ro df l al cp V w0 L 0 (l.take m) ps bs)
    (hN : ∀ (vals : Nat → Value) w', w0.grownBy w' none → (∀ i, i < m → V i (vals i) w') → (∀ j k, j ≠ k → j < m → k < m → al j = true → al k = true → ∀ g, vb (vals j) = some g → vb (vals k) ≠ some g) → (∀ i j, i < m → cp i = some j → vals i = vals j) →
      WA P n ro df l N (l.length - m) (List.replicate m true ++ List.replicate (l.length - m) false) ((((List.range m).filterMap fun i => (dstAt l i).map fun t => (t, vals i))) ++ L) w') : W P n ro df (.region id l.toArray true) N B L w0 := by
  simp only [tailB, Bool.and_eq_true, Bool.or_eq_true, List.all_eq_true, List.mem_range, beq_iff_eq, List.contains_iff_mem] at hB
  obtain ⟨⟨⟨⟨hlen, hlm0⟩, hlt0⟩, htail⟩, hB⟩ := hB
  have hlm : m ≤ l.length := by simpa [Nat.ble_eq] using hlm0
  refine ⟨fun a ha => wpIn_mono (Q := finE n df N B) (wpIn_region_any hm ?_) fin_of_finE⟩
  have hon_lt : ∀ k, k < l.length → ∀ j ∈ anyOn l k, j < k := fun k hk j hj => by simpa [Nat.blt_eq] using hlt0 k hk j hj
  have key : ∀ (fuel : Nat) (listed : Array Bool) (vals : Nat → Value) (a : Act) (w : World), listed.size = l.length → (listed.toList.filter (!·)).length = fuel + (l.length - m) → (∀ k, listed.getD k false = true → k < m) →
      DInv n df l ps V (fun _ => True) w0 L (l.length + 1) (fun k => listed.getD k false) vals a w → Ap al cp (fun k => listed.getD k false) vals w → wpAnyIn (wideR ro) 0 P .any l.toArray (finE n df N B) (fuel + (l.length - m)) listed a w := by
    intro fuel
    induction fuel with
    | zero =>
      intro listed vals a w hsz hf hnm I hap
      have hall : ∀ k, k < m → listed.getD k false = true := fun k hk => by
        cases hb : listed.getD k false with
        | true => rfl
        | false =>
          exfalso
          have hcnt : ∀ (x : List Bool) (m : Nat), m ≤ x.length → (∀ j, m ≤ j → j < x.length → x[j]? = some false) → (x.length - m) + ((x.take m).filter (!·)).length = (x.filter (!·)).length := by
            intro x m hmx hfalse
            have h1 : x = x.take m ++ x.drop m := (List.take_append_drop m x).symm
            have h2 : (x.drop m).filter (!·) = x.drop m := by
              rw [List.filter_eq_self]
              intro b hb
              obtain ⟨j, hj, rfl⟩ := List.mem_iff_getElem.1 hb
              have := hfalse (m + j) (by omega) (by simp at hj; omega)
              rw [List.getElem_drop]
              rw [List.getElem?_eq_getElem (by simp at hj; omega)] at this
              simpa using this
            conv => rhs; rw [h1]
            rw [List.filter_append, List.length_append, h2, List.length_drop]
            omega
          have hx := hcnt listed.toList m (by simp; omega) (fun j h1 h2 => by
            have hj : j < listed.size := by simpa using h2
            cases hbj : listed.getD j false with
            | true => have := hnm j hbj; omega
            | false =>
              simp [Array.getD_eq_getD_getElem?, hj] at hbj
              simp [hj, hbj])
          have hsz2 : listed.toList.length = l.length := by simpa using hsz
          have hzero : ((listed.toList.take m).filter (!·)).length = 0 := by omega
          have hz := filter_zero hzero k (by simp; omega)
          rw [List.getElem?_take, if_pos hk] at hz
          have hk2 : k < listed.size := by omega
          simp [Array.getD_eq_getD_getElem?, hk2] at hb
          simp [hk2, hb] at hz
      have hlist : listed = (List.replicate m true ++ List.replicate (l.length - m) false).toArray := by
        apply Array.ext
        · simp [hsz]; omega
        · intro k h1 h2
          have hk : k < l.length := by omega
          rcases Nat.lt_or_ge k m with h | h
          · have := hall k h
            simp [Array.getD_eq_getD_getElem?, h1] at this
            simp [this, List.getElem_append, h]
          · have hb : listed.getD k false = false := by
              cases hb : listed.getD k false with
              | false => rfl
              | true => have := hnm k hb; omega
            simp [Array.getD_eq_getD_getElem?, h1] at hb
            simp [hb, List.getElem_append, show ¬ k < m by omega]
      have hw := I.wd (by simp [Array.getD_eq_getD_getElem?, show ¬ l.length + 1 < listed.size by omega])
      have hvs : ∀ j, j < m → V j (vals j) w := fun j hj => I.vs j (hall j hj) (by omega)
      have hW := hN vals w hw hvs (fun j k hjk hj hk h1 h2 => hap.ap j k hjk (hall j hj) (hall k hk) h1 h2) (fun i j hi h => hap.cp_ i j (hall i hi) h)
      have hHas : Has n df a ((((List.range m).filterMap fun i => (dstAt l i).map fun t => (t, vals i))) ++ L) := by
        refine ⟨I.nd, I.sz, fun t v hv => ?_⟩
        rw [lk_append] at hv
        cases hc : lk ((List.range m).filterMap fun i => (dstAt l i).map fun t => (t, vals i)) t with
        | some u =>
          rw [hc] at hv
          cases hv
          have := lk_mem hc
          simp only [List.mem_filterMap, List.mem_range, Option.map_eq_some_iff] at this
          obtain ⟨k, hk, t', ht', he⟩ := this
          cases he
          exact I.new k t (hall k hk) ht'
        | none =>
          rw [hc] at hv
          refine I.old t v hv fun k hk hd => ?_
          have hm2 : (t, vals k) ∈ (List.range m).filterMap fun i => (dstAt l i).map fun t => (t, vals i) := by
            simp only [List.mem_filterMap, List.mem_range, Option.map_eq_some_iff]
            exact ⟨k, hnm k hk, t, hd, rfl⟩
          obtain ⟨u, hu⟩ := lk_of_mem hm2
          rw [hc] at hu; cases hu
      rw [hlist, Nat.zero_add]
      exact hW.out a hHas B
    | succ fuel ih =>
      intro listed vals a w hsz hf hnm I hap
      rw [show fuel + 1 + (l.length - m) = (fuel + (l.length - m)) + 1 by omega] at hf ⊢
      have hlist : ∀ k, listed.getD k true = false → k < l.length ∧ listed.getD k false = false := fun k hk => by
        rcases Nat.lt_or_ge k listed.size with h | h
        · simp [Array.getD_eq_getD_getElem?, h] at hk ⊢
          exact ⟨by omega, hk⟩
        · simp [Array.getD_eq_getD_getElem?, Array.getElem?_eq_none h] at hk
      refine ⟨?_, ?_⟩
      · intro hr
        -- the first that has not come up yet is ready
        exfalso
        have hex : ∃ k, k < l.length ∧ listed.getD k false = false := by
          by_cases hc : ∃ k, k < l.length ∧ listed.getD k false = false
          · exact hc
          · have hfe : listed.toList.filter (!·) = [] := by
              rw [List.filter_eq_nil_iff]
              intro b hb
              obtain ⟨k, hk, rfl⟩ := List.mem_iff_getElem.1 hb
              have hk' : k < listed.size := by simpa using hk
              have : ¬ listed.getD k false = false := fun h => hc ⟨k, by omega, h⟩
              simp [Array.getD_eq_getD_getElem?, hk'] at this
              simp [this]
            rw [hfe] at hf; simp at hf
        have hmin : ∀ m, (∃ k, k ≤ m ∧ k < l.length ∧ listed.getD k false = false) → ∃ k, k < l.length ∧ listed.getD k false = false ∧ ∀ j, j < k → listed.getD j false = true := by
          intro m
          induction m with
          | zero => rintro ⟨k, hk, h1, h2⟩; exact ⟨k, h1, h2, fun j hj => by omega⟩
          | succ m ihm =>
            rintro ⟨k, hk, h1, h2⟩
            by_cases hc : ∃ j, j ≤ m ∧ j < l.length ∧ listed.getD j false = false
            · exact ihm hc
            · refine ⟨k, h1, h2, fun j hj => ?_⟩
              cases hb : listed.getD j false with
              | true => rfl
              | false => exact absurd ⟨j, by omega, by omega, hb⟩ hc
        obtain ⟨k0, hk0, hk0'⟩ := hex
        obtain ⟨k, h1, h2, h3⟩ := hmin k0 ⟨k0, Nat.le_refl _, hk0, hk0'⟩
        have hin : k ∈ Region.ready .any l.toArray listed := by
          refine mem_ready.2 ⟨?_, l[k], by simp [h1], fun e he hb => ?_⟩
          · have : k < listed.size := by omega
            simp [Array.getD_eq_getD_getElem?, this] at h2 ⊢
            exact h2
          · have hon : e.on ∈ anyOn l k := by
              simp only [anyOn, List.getElem?_eq_getElem h1, List.mem_map, List.mem_filter]
              exact ⟨e, ⟨by simpa using he, hb⟩, rfl⟩
            exact h3 e.on (hon_lt k h1 _ hon)
        rw [hr] at hin; cases hin
      · intro i hi
        obtain ⟨h1, o, ho, hpre⟩ := mem_ready.1 hi
        obtain ⟨hil0, hun⟩ := hlist i h1
        have ho' : l[i]? = some o := by simpa using ho
        have hpre' : ∀ j ∈ anyOn l i, listed.getD j false = true := fun j hj => by
          simp only [anyOn, ho', List.mem_map, List.mem_filter] at hj
          obtain ⟨e, ⟨he, hb⟩, rfl⟩ := hj
          exact hpre e (by simpa using he) hb
        have hil : i < m := by
          rcases Nat.lt_or_ge i m with h | h
          · exact h
          · exfalso
            have hall : ∀ k, k < m → listed.getD k false = true := fun k hk => by
              rcases htail i hil0 with h2 | h2
              · simp [Nat.blt_eq] at h2; omega
              · exact reach_all (p := fun k => listed.getD k false = true) I.cl 6 (anyOn l i) hpre' k (h2 k hk)
            have hcnt : ∀ (x : List Bool) (m : Nat), (∀ j, j < m → x[j]? = some true) → (x.filter (!·)).length ≤ x.length - m := by
              intro x m
              induction m generalizing x with
              | zero => intro _; exact List.length_filter_le _ _
              | succ m ih =>
                intro h
                cases x with
                | nil => simp
                | cons b x =>
                  have hb := h 0 (by omega)
                  simp at hb
                  subst hb
                  have := ih x (fun j hj => by have := h (j + 1) (by omega); simpa using this)
                  simpa using this
            have := hcnt listed.toList m (fun j hj => by
              have h3 := hall j hj
              have hj2 : j < listed.size := by omega
              simp [Array.getD_eq_getD_getElem?, hj2] at h3
              simp [hj2, h3])
            have hsz2 : listed.toList.length = l.length := by simpa using hsz
            omega
        obtain ⟨hp, hd⟩ := hB i hil
        have hpi : i < ps.length := by omega
        rw [List.getElem?_eq_getElem hpi] at hp
        generalize hpe : ps[i] = p at hp
        simp only [Bool.and_eq_true, List.all_eq_true, Bool.or_eq_true, List.mem_range, beq_iff_eq, bne_iff_ne, ne_eq, List.contains_iff_mem] at hp
        obtain ⟨hon, hsl⟩ := hp
        obtain ⟨b, hbs, hsub, hob⟩ := obsA_at (l.take m) ps bs 0 hobs i o p (by rw [List.getElem?_take, if_pos hil]; exact ho') (by rw [List.getElem?_eq_getElem hpi, hpe])
        rw [Nat.zero_add] at hob
        have hw0 : p.pure = false → w0.grownBy w none := fun _ => I.wd (by
          cases hb : listed.getD (l.length + 1) false with
          | false => rfl
          | true => have := I.lt _ hb; omega)
        have hT := told_at vals p.on b (hob w hw0) (fun j hj => I.vs j (hpre' j (hon j hj)) (by have := hon_lt i hil0 j (hon j hj); omega))
        generalize hF : (List.map (fun j => ((dstAt l j).getD 0, vals j)) p.on).reverse ++ b = F at hT
        have hdst : ∀ j, j < m → ∃ d, dstAt l j = some d ∧ d < n := fun j hj => by
          have := (hB j hj).2
          cases hd : dstAt l j with
          | none => rw [hd] at this; simp at this
          | some d => rw [hd] at this; simp only [Bool.and_eq_true] at this; exact ⟨d, rfl, by simpa [Nat.blt_eq] using this.1⟩
        have hHF : Has n df a (F ++ (List.range n).map fun t => (t, a.tmps.getD t undef)) := by
          refine ⟨I.nd, I.sz, fun t v hv => ?_⟩
          rw [lk_append] at hv
          cases hc : lk F t with
          | some u =>
            rw [hc] at hv; cases hv
            have hm := lk_mem hc
            rw [← hF] at hm
            rcases List.mem_append.1 hm with hm | hm
            · simp only [List.mem_reverse, List.mem_map] at hm
              obtain ⟨j, hj, he⟩ := hm
              cases he
              obtain ⟨d, hd', _⟩ := hdst j (hnm j (hpre' j (hon j hj)))
              rw [hd']
              exact I.new j d (hpre' j (hon j hj)) hd'
            · have hL := sub_at hsub hm
              have hts : t ∈ p.slots := by rw [← hbs]; exact List.mem_map.2 ⟨_, hm, rfl⟩
              refine I.old t v hL fun k hk hdk => ?_
              rcases hsl t hts k (hnm k hk) with (h | h) | h
              · subst h; rw [hun] at hk; cases hk
              · exact h hdk
              · have := I.cl k hk i h; rw [hun] at this; cases this
          | none =>
            rw [hc] at hv
            have hm := lk_mem hv
            simp only [List.mem_map, List.mem_range] at hm
            obtain ⟨t', ht', he⟩ := hm
            cases he
            have : t < a.tmps.size := by rw [I.sz]; exact ht'
            simp [Array.getD_eq_getD_getElem?, this]
        have hW := (hT ((List.range n).map fun t => (t, a.tmps.getD t undef))).out a hHF (fun _ _ _ _ => False)
        have fin' : ∀ a' w', wpListIn (wideR ro) 0 P l.toArray (finE n df (fun _ L' w' => ∃ u, L' = ((dstAt l i).getD 0, u) :: (F ++ (List.range n).map fun t => (t, a.tmps.getD t undef)) ∧ (if p.pure then w' = w else w.grownBy w' none) ∧ V i u w' ∧ (al i = true → ∀ g, vb u = some g → w.heap.size ≤ g ∧ g < w'.heap.size) ∧ (∀ j, cp i = some j → lk (F ++ (List.range n).map fun t => (t, a.tmps.getD t undef)) ((dstAt l j).getD 0) = some u)) (fun _ _ _ _ => False)) [] a' w' →
            wpAnyIn (wideR ro) 0 P .any l.toArray (finE n df N B) (fuel + (l.length - m)) (listed.setIfInBounds i true) a' w' := by
          intro a' w' hq
          obtain ⟨L', hL', hq⟩ := hq
          have hisz : i < listed.size := by omega
          have hset : ∀ k, (listed.setIfInBounds i true).getD k false = true → k = i ∨ listed.getD k false = true := fun k hk => by
            rw [getD_set _ _ _ hisz] at hk
            simp only [Bool.or_eq_true, decide_eq_true_eq] at hk
            exact hk.imp Eq.symm (fun h => h)
          have hset' : ∀ k, k = i ∨ listed.getD k false = true → (listed.setIfInBounds i true).getD k false = true := fun k hk => by
            rw [getD_set _ _ _ hisz]
            simp only [Bool.or_eq_true, decide_eq_true_eq]
            exact hk.imp Eq.symm (fun h => h)
          have hcount : ((listed.setIfInBounds i true).toList.filter (!·)).length = fuel + (l.length - m) := by
            have hg : listed.toList[i]? = some false := by
              simp [Array.getD_eq_getD_getElem?, hisz] at hun
              simp [hisz, hun]
            have := filter_set listed.toList i hg
            rw [Array.toList_setIfInBounds]
            omega
          have hm0' : ∀ k, (listed.setIfInBounds i true).getD k false = true → k < m := fun k hk => by
            rcases hset k hk with rfl | h
            · exact hil
            · exact hnm k h
          have hcl : ∀ k, (listed.setIfInBounds i true).getD k false = true → ∀ j ∈ anyOn l k, (listed.setIfInBounds i true).getD j false = true := fun k hk j hj => by
            rcases hset k hk with rfl | h
            · exact hset' j (.inr (hpre' j hj))
            · exact hset' j (.inr (I.cl k h j hj))
          have hlt : ∀ k, (listed.setIfInBounds i true).getD k false = true → k < l.length := fun k hk => by
            rcases hset k hk with rfl | h
            · exact hil0
            · exact I.lt k h
          have hsome : ∀ t, t < n → ∃ v, lk (F ++ (List.range n).map fun t => (t, a.tmps.getD t undef)) t = some v := fun t ht => by
            rw [lk_append]
            cases lk F t with
            | some u => exact ⟨u, rfl⟩
            | none => exact ⟨_, lk_full a n t ht⟩
          obtain ⟨u, rfl, hww, hVu, hfr, hcu⟩ := hq
          obtain ⟨d, hdd, hdn⟩ := hdst i hil
          rw [hdd] at hL' hd
          simp only [Option.getD_some] at hL'
          simp only [Bool.and_eq_true, List.all_eq_true, List.mem_range, Bool.or_eq_true, beq_iff_eq, bne_iff_ne, ne_eq] at hd
          have hsame' : ∀ t v, t ≠ d → a.tmps[t]? = some v → a'.tmps[t]? = some v := fun t v hne hv => by
            have ht : t < n := by have := (Array.getElem?_eq_some_iff.1 hv).1; rw [I.sz] at this; exact this
            obtain ⟨v', hv'⟩ := hsome t ht
            have h2 := hHF.at_ t v' hv'
            rw [hv] at h2; cases h2
            exact hL'.at_ t v (by rw [lk_ne (Ne.symm hne)]; exact hv')
          have hnew : a'.tmps[d]? = some u := hL'.at_ d u (lk_self _ _ _)
          have hgw : w.grownBy w' none := by
            by_cases hp' : p.pure = true
            · rw [if_pos hp'] at hww; subst hww; exact ext_refl _
            · rw [if_neg hp'] at hww; exact hww
          have hVk : ∀ k, listed.getD k false = true → k ≠ l.length + 1 → V k (vals k) w' := fun k h hne => hV k _ w w' (I.vs k h hne) hgw
          refine ih _ (fun k => if k = i then u else vals k) a' w' (by simpa using hsz) hcount hm0' ⟨hL'.nd, hL'.sz, fun t v ht hk => ?_, fun k t hk ht => ?_, fun h => ?_, fun h => trivial, fun k hk hne => ?_, hcl, hlt⟩ ⟨fun k hk ha g hg => ?_, fun j k hjk hj hk ha1 ha2 g hg => ?_, fun x y hx hc => ?_⟩
          · exact hsame' t v (fun e' => hk i (hset' i (.inl rfl)) (by rw [hdd, e'])) (I.old t v ht fun k h => hk k (hset' k (.inr h)))
          · by_cases ek : k = i
            · subst ek; rw [hdd] at ht; cases ht; simpa using hnew
            · rw [if_neg ek]
              rcases hset k hk with h | h
              · exact absurd h ek
              · refine hsame' t _ (fun e' => ?_) (I.new k t h ht)
                rcases hd.2 k (hnm k h) with h' | h'
                · exact ek h'
                · exact h' (by rw [ht, e'])
          · refine ext_trans (I.wd ?_) hgw
            cases hb : listed.getD (l.length + 1) false with
            | false => rfl
            | true => have := I.lt _ hb; omega
          · by_cases ek : k = i
            · subst ek; simpa using hVu
            · rw [if_neg ek]
              rcases hset k hk with h | h
              · exact absurd h ek
              · exact hVk k h hne
          · by_cases ek : k = i
            · subst ek; rw [if_pos rfl] at hg; exact (hfr ha g hg).2
            · rw [if_neg ek] at hg
              exact Nat.lt_of_lt_of_le (hap.lt k ((hset k hk).resolve_left ek) ha g hg) hgw.size
          · by_cases ej : j = i
            · subst ej
              rw [if_pos rfl] at hg; rw [if_neg (Ne.symm hjk)]
              have h3 := (hfr ha1 g hg).1
              intro h4
              have := hap.lt k ((hset k hk).resolve_left (Ne.symm hjk)) ha2 g h4; omega
            · rw [if_neg ej] at hg
              have hj' := (hset j hj).resolve_left ej
              by_cases ek : k = i
              · subst ek
                rw [if_pos rfl]
                intro h4
                have h3 := (hfr ha2 g h4).1
                have := hap.lt j hj' ha1 g hg; omega
              · rw [if_neg ek]
                exact hap.ap j k hjk hj' ((hset k hk).resolve_left ek) ha1 ha2 g hg
          · by_cases ex : x = i
            · subst ex
              have h1 := hcu y hc
              have hym : y ∈ anyOn l x := by
                have := List.all_eq_true.1 hcp x (List.mem_range.2 hil)
                rw [hc] at this
                simpa using this
              have hyd := hpre' y hym
              obtain ⟨dy, hdy, _⟩ := hdst y (hnm y hyd)
              rw [hdy] at h1
              have h2 := hHF.at_ _ _ h1
              have h3 := I.new y dy hyd hdy
              simp only [Option.getD_some] at h2
              rw [h3] at h2
              have hyx : y ≠ x := fun e => by rw [e, hun] at hyd; cases hyd
              rw [if_pos rfl, if_neg hyx]
              exact (Option.some.inj h2).symm
            · have hx' := (hset x hx).resolve_left ex
              have h1 := hap.cp_ x y hx' hc
              have hym : y ∈ anyOn l x := by
                have := List.all_eq_true.1 hcp x (List.mem_range.2 (hnm x hx'))
                rw [hc] at this
                simpa using this
              have hyd := I.cl x hx' y hym
              have hyi : y ≠ i := fun e => by rw [e, hun] at hyd; cases hyd
              rw [if_neg ex, if_neg hyi]; exact h1
        unfold wpOpIn
        rw [ho]
        simp only [wpListIn] at hW
        by_cases hwant : Region.wanted o (yielded l.toArray a.tmps) = true
        · rw [if_pos hwant] at hW
          simp only [hwant, if_true]
          exact (oper_wp_mono fin' (fun e a w hne h => by cases e <;> first | exact absurd rfl hne | (obtain ⟨_, _, _, h⟩ := h; exact h.elim)) hW)
        · rw [if_neg hwant] at hW
          simp only [hwant, if_false, Bool.false_eq_true]
          exact ⟨fun _ _ => trivial, fin' _ _ hW.2⟩
  have hsz0 : ((Array.replicate l.toArray.size false).toList.filter (!·)).length = m + (l.length - m) := by simp; omega
  have := key m (Array.replicate l.toArray.size false) (fun _ => undef) a { w0 with drawn := w0.drawn + 1 } (by simp) hsz0 (fun k h => by rw [getD_rep] at h; cases h) {
    nd := ha.nd, sz := ha.sz
    old := fun t v h _ => ha.at_ t v h
    new := fun k t h => by rw [getD_rep] at h; cases h
    wd := fun _ => ⟨rfl, rfl, rfl, Nat.le_refl _, fun _ _ _ => rfl⟩
    ws := fun h => trivial
    vs := fun k h => by rw [getD_rep] at h; cases h
    cl := fun k h => by rw [getD_rep] at h; cases h
    lt := fun k h => by rw [getD_rep] at h; cases h } (Ap.mk (fun k h => by rw [getD_rep] at h; cases h) (fun j k _ h => by rw [getD_rep] at h; cases h) (fun i j h => by rw [getD_rep] at h; cases h))
  rw [show m + (l.length - m) = l.toArray.size by simp; omega] at this
  exact this
end Go.Proofs.Ytlibahphimfmjaa
set_option linter.unusedSimpArgs false
set_option linter.unusedVariables false
namespace Go.Proofs.Ytlibahphimfmjaa
open Go.RowKit
theorem of_ble {a b : Nat} (h : Nat.ble (a + 1) b = true) : a < b := Nat.le_of_ble_eq_true h
theorem seg_take {α : Type} (C D : List α) {o n m : Nat} (hD : D.length = n) (h : o + n ≤ m) (hm : m ≤ C.length) : (C.take o ++ D ++ C.drop (o + n)).take m = (C.take m).take o ++ D ++ (C.take m).drop (o + n) := by
  have h1 : (C.take o ++ D).length = o + n := by simp; omega
  rw [List.take_append, List.take_of_length_le (by omega), h1, List.take_take, Nat.min_eq_left (by omega), List.drop_take]
theorem calls_swapM {P : Program} {f : FuncId} {args : Array Value} {w : World} {K : Value → List Value → World → Prop} (h : Calls P f args w fun e w' => ∃ v, e = .returned v ∧ ∃ Q, K v Q w') :
    Calls P f args w fun e w' => ∃ v Q, e = .returned v ∧ K v Q w' := h.mono fun e w' ⟨v, h1, Q, h2⟩ => ⟨v, Q, h1, h2⟩
theorem blk.ret {id : Nat} {N : Post} {B : BPost} {df : List Deferred} {L : Fr} {w : World} (h : B .ret df L w) : blk id N B .ret df L w := h
theorem exits.retI {B : BPost} {df : List Deferred} {L : Fr} {w : World} (h : B .ret df L w) : exits B df L w .ret := h
theorem endC.mk {P : Program} {res : List ResultVar} {R : Value → World → Prop} {L : Fr} {w : World} (h : ∃ vs, resC P L w res vs ∧ R (resV vs) w) : endC P res R .ret [] L w := h
theorem calls_un {P : Program} {f : FuncId} {args : Array Value} {w : World} {K : Value → List Rw → Prop} (h : Calls P f args w fun e w' => ∃ v Q, e = .returned v ∧ w.grownBy w' none ∧ Rows w.heap.size none w' Q ∧ News w.heap.size Q ∧ K v Q) :
    Calls P f args w fun e w' => ∃ v, e = .returned v ∧ ∃ Q, w.grownBy w' none ∧ Rows w.heap.size none w' Q ∧ News w.heap.size Q ∧ K v Q := h.mono fun e w' ⟨v, Q, h1, h2⟩ => ⟨v, h1, Q, h2⟩
section
variable {X : World → Prop} {w0 w w' wS : World} {mr : Option Nat} {R R0 : List Rw}
theorem St.addOwn {e z m c : Nat} {A : Option Addr} {cs : List Value} (Q : List Rw) (h0 : St X w0 mr wS R0) (h : St X w0 mr w (Q ++ R0)) (hO : Own 0 w e z A m c cs) (hn : ∀ g, bl A = some g → wS.heap.size ≤ g) (hq : ∀ s ∈ Q, ∀ g, bl A = some g → ¬ s.at_ g) :
    St X w0 mr w (.row e z A m c cs :: (Q ++ R0)) := by
  refine ⟨h.ext, ⟨⟨hO, fun g hg => .inl (by have := hn g hg; have := h0.size; omega)⟩, fun s hs _ g hg hs2 => ?_, h.rows⟩, h.x, h.cl, h.lt⟩
  rcases List.mem_append.1 hs with hs | hs
  · exact hq s hs g hg hs2
  · have := h0.rows.lt hs g hs2; have := hn g hg; omega
/-- A row of the caller's that the call may turn. -/
theorem St.startM {e z m c : Nat} {A : Option Addr} {cs : List Value} (h : Own 0 w e z A m c cs) : St TT w (bl A) w [.row e z A m c cs] :=
  ⟨World.grownBy.refl w _, ⟨⟨h, fun g hg => .inr hg⟩, fun s hs => by simp at hs, trivial⟩, trivial, closed_TT, fun g hg => (h.bl_ge g hg).2⟩
theorem St.rom' {B z m c : Nat} {A : Option Addr} {cs : List Value} (h : St X w0 mr w R) (hr : Rd B w0 z A m c cs) (ha : 0 < m → ∀ g, mr = some g → bl A ≠ some g) : Rd B w z A m c cs :=
  ⟨hr.len, hr.cap, hr.max, fun hm => by
    obtain ⟨ad, e1, e2, e3⟩ := hr.cells hm
    exact ⟨ad, e1, e2, fun j u hu => h.ext.cell (e3 j u hu) (fun e => by rw [block_add] at e; exact ha hm _ e.symm (by rw [e1]; rfl))⟩⟩
theorem St.aptRow {i j e z m c e' z' m' c' : Nat} {A A' : Option Addr} {cs cs' : List Value} (h : St X w0 mr w R) (hij : i ≠ j) (hi : R[i]? = some (.row e z A m c cs)) (hj : R[j]? = some (.row e' z' A' m' c' cs')) : 0 < m' → ∀ g, bl A = some g → bl A' ≠ some g :=
  fun _ g h1 h2 => h.rows.apt hij hi hj rfl g h1 h2
theorem St.aptRo {i e z m c z' m' c' B : Nat} {A A' : Option Addr} {cs cs' : List Value} (h : St X w0 none w R) (hi : R[i]? = some (.row e z A m c cs)) (hr : Rd B w0 z' A' m' c' cs') (hz : 0 < z' := by decide) : 0 < m' → ∀ g, bl A = some g → bl A' ≠ some g := fun hm g h1 h2 => by
  have h3 := ((h.rows.get hi).2 g h1).resolve_right (by simp)
  obtain ⟨ad, e1, e2, _⟩ := (hr.norm hz).cells hm
  rw [e1] at h2; cases h2; exact absurd e2 (Nat.not_lt.2 h3)
theorem St.aptRoM {i e z m c z' m' c' B : Nat} {A A' : Option Addr} {cs cs' : List Value} (h : St X w0 mr w R) (hi : R[i]? = some (.row e z A m c cs)) (hr : Rd B w0 z' A' m' c' cs') (ha : 0 < m' → ∀ g, mr = some g → bl A' ≠ some g) (hz : 0 < z' := by decide) : 0 < m' → ∀ g, bl A = some g → bl A' ≠ some g := fun hm g h1 h2 => by
  rcases (h.rows.get hi).2 g h1 with h3 | h3
  · obtain ⟨ad, e1, e2, _⟩ := (hr.norm hz).cells hm
    rw [e1] at h2; cases h2; exact absurd e2 (Nat.not_lt.2 h3)
  · exact ha hm g h3 h2
/-- A call that turns a row. -/
theorem St.callm {i e z m c : Nat} {A : Option Addr} {cs cs' : List Value} {Q : List Rw} (h : St X w0 mr w R) (hi : R[i]? = some (.row e z A m c cs)) (hg : w.grownBy w' (bl A)) (hO : Own 0 w' e z A m c cs') : St X w0 mr w' (R.set i (.row e z A m c cs')) :=
  h.put hi hg hO (.inl rfl)
end
section
variable {P : Program} {n : Nat} {ro : Option Nat} {df : List Deferred} {N : Post} {L : Fr} {w w0 : World} {ops : Array Oper} {rest : List Oper}
variable {d : Nat} {ty : TypeId} {pos : String} {af : Array Edge} {X : World → Prop} {mr : Option Nat} {R : List Rw}
/-- A call that turns a row; its value is of no use, or plain. -/
theorem SL.callm {f : FuncId} {fn : Func} {c : Code} {xs : List Operand} {ts : Array TypeId} {vs : List Value} {K : Value → List Value → Prop} {e z m k : Nat} {A : Option Addr} {cs : List Value} (i : Nat) (hS : St X w0 mr w R) (hi : R[i]? = some (.row e z A m k cs))
    (hc : Calls P f vs.toArray w fun en w' => ∃ v cs', en = .returned v ∧ w.grownBy w' (bl A) ∧ Own 0 w' e z A m k cs' ∧ K v cs')
    (hf : P.funcs[f]? = some fn) (hb : fn.body = some c) (hnm : (fn.name == "runtime.NumGoroutine") = false) (hx : evs L xs = some vs) (hn : Nat.blt d n = true)
    (h : ∀ v cs' w', K v cs' → St X w0 mr w' (R.set i (.row e z A m k cs')) → WL P n ro df ops rest N ((d, v) :: L) w') :
    WL P n ro df ops (⟨some d, .call ⟨.value (.func f), xs.toArray, ts⟩, ty, pos, af, none⟩ :: rest) N L w :=
  WL.call hf hb hnm hx hn (R := fun v w' => ∃ cs', w.grownBy w' (bl A) ∧ Own 0 w' e z A m k cs' ∧ K v cs') (hc.mono fun e w' ⟨v, Q, h1, h2⟩ => ⟨v, h1, Q, h2⟩) fun v w' ⟨cs', h1, h2, h3⟩ => h v cs' w' h3 (hS.callm (Q := []) hi h1 h2)
/-- A builtin that yields no slot. -/
theorem WL.act0 {o : Oper} {v : Value} {w' : World} (hg : o.guard = none) (hd : o.dst = none)
    (hr : ∀ a, Has n df a L → (execOp a.eval o).run P w = .ok (.value v) w') (h : WL P n ro df ops rest N L w') : WL P n ro df ops (o :: rest) N L w := by
  refine ⟨fun a ha B => wpListIn_plain hg fun K hK => ?_⟩
  unfold Oper.wpIn
  refine ⟨fun _ _ => trivial, ?_⟩
  rw [Oper.semAt_eq _ _ _ (execOp_defer (hr a ha) (fun _ h => by cases h)), hr a ha, Oper.uponIn_value, hd]
  exact hK _ _ (h.out _ ha B)
theorem own_cur {b : Nat} {w : World} {e z : Nat} {A : Option Addr} {m c : Nat} {cs : List Value} (h : Own b w e z A m c cs) (hm : 0 < m) : ∃ g cur, A = some ⟨g, 0, none⟩ ∧ b ≤ g ∧ w.heap[g]? = some (.cells cur e (0, 0)) ∧ m ≤ c ∧ c ≤ maxLen ∧ cur.size = c * z ∧ cur.toList.take (m * z) = cs := by
  rcases h.2 with ⟨h1, h2⟩ | ⟨g, cap, cur, h1, h2, h3, h4, h5, h6, h7⟩
  · omega
  · cases h1; exact ⟨g, cur, rfl, h2, h3, h4, h5, h6, h7⟩
/-- Turning some cells of a row of one-cell elements. -/
theorem own_cells_put {w : World} {e g : Nat} {m c : Nat} {cs : List Value} {cur cur' : Array Value} (hg : w.heap[g]? = some (.cells cur e (0, 0))) (hs : cur'.size = cur.size) (hmc : m ≤ c) (hc : c ≤ maxLen) (hcs : cur.size = c * 1) (ht : cur'.toList.take (m * 1) = cs) :
    Own 0 (w.setRow g cur') e 1 (some ⟨g, 0, none⟩) m c cs ∧ w.grownBy (w.setRow g cur') (bl (some ⟨g, 0, none⟩)) := by
  refine ⟨⟨?_, .inr ⟨g, c, cur', rfl, Nat.zero_le _, setRow_heap w g cur cur' e _ hg, hmc, hc, by rw [hs, hcs], ht⟩⟩, ⟨rfl, rfl, rfl, Nat.le_of_eq (setRow_size w g cur').symm, fun k hk hr => setRow_other w g k cur' (fun e => hr (by rw [e]; rfl))⟩⟩
  rw [← ht, List.length_take, Array.length_toList, hs, hcs]; omega
/-- 'copy' into a window of a row. -/
theorem SL.copy {x y : Operand} {tx ty_ e m c ms cs' B by_ : Nat} {zero : Value} {A As Aw : Option Addr} {xs ys : List Int} (i o : Nat) (hS : St X w0 mr w R) (hi : R[i]? = some (.row e 1 A m c (is xs))) (ht : P.underlying tx = some (.slice e)) (he : Elem P e 1 by_ zero)
    (hR : Rd B w 1 As ms cs' (is ys)) (hw : Aw = if c = o then A else A.map (·.add (o * 1))) (ho : o ≤ m) (hx : ev L x = some (.slice Aw (m - o) (c - o))) (hy : ev L y = some (.slice As ms cs')) (hn : Nat.blt d n = true)
    (h : ∀ w', St X w0 mr w' (R.set i (.row e 1 A m c (is (xs.take o ++ ys.take (min ms (m - o)) ++ xs.drop (o + min ms (m - o)))))) → WL P n ro df ops rest N ((d, .int .i64 ((min ms (m - o) : Nat) : Int)) :: L) w') :
    WL P n ro df ops (⟨some d, .call ⟨.builtin .copy, #[x, y], #[tx, ty_]⟩, ty, pos, af, none⟩ :: rest) N L w := by
  obtain ⟨inf, i1, i2, i3, i4⟩ := he.ex
  have hO := hS.own hi
  have hxl := hO.rd.ilen
  have hyl := hR.ilen
  rcases Nat.eq_zero_or_pos (min ms (m - o)) with h0 | h0
  · have e1 : xs.take o ++ ys.take (min ms (m - o)) ++ xs.drop (o + min ms (m - o)) = xs := by rw [h0]; simp
    rw [e1, h0] at h
    have h1 : R.set i (.row e 1 A m c (is xs)) = R := List.set_getElem?_self hi
    rw [h1] at h
    refine WL.val rfl rfl hn (fun a ha => ?_) (h w hS)
    have hz : ms.min (m - o) = 0 := h0
    have := run_copy_none (P := P) w tx ty_ ty e Aw As (m - o) (c - o) ms cs' ht (by simp [i1, i3]) hz
    simp [execOp, resolve, invoke, builtin, ha.ev hx, ha.ev hy, this, goInt]
  · obtain ⟨g, cur, rfl, _, hg, hmc, hcm, hcs, htake⟩ := own_cur hO (by omega)
    obtain ⟨ad, rfl, _, hcell⟩ := hR.cells (by omega)
    rw [if_neg (by omega)] at hw
    have hAw : Aw = some ⟨g, o, none⟩ := by rw [hw]; simp [Addr.add]; intro h; exact h.symm
    subst hAw
    have hlen : ((is ys).take (min ms (m - o))).length = min ms (m - o) := by rw [List.length_take, is_len]; omega
    have hrun := run_copy_row (P := P) w tx ty_ ty e g o (m - o) (c - o) ad ms cs' cur e ((is ys).take (min ms (m - o))) ht (by simp [i1, i3]) hg hlen
      (fun j v hv => hcell j v (by rw [List.getElem?_take] at hv; split at hv; exact hv; cases hv)) (by rw [hlen, hcs]; omega) (fun v hv => is_one ys v (List.mem_of_mem_take hv))
    have hp := own_cells_put (m := m) (c := c) (cs := is (xs.take o ++ ys.take (min ms (m - o)) ++ xs.drop (o + min ms (m - o)))) hg (cur' := (cur.toList.take o ++ (is ys).take (min ms (m - o)) ++ cur.toList.drop (o + ((is ys).take (min ms (m - o))).length)).toArray)
      (by rw [hlen]; simp [is_len]; omega) hmc hcm hcs (by
        have h2 : cur.toList.take m = is xs := by rw [← htake, Nat.mul_one]
        rw [hlen]
        have e1 : is (xs.take o ++ ys.take (min ms (m - o)) ++ xs.drop (o + min ms (m - o))) = (cur.toList.take m).take o ++ (is ys).take (min ms (m - o)) ++ (cur.toList.take m).drop (o + min ms (m - o)) := by
          rw [← is_append, ← is_append, ← is_take, ← is_take, ← is_drop, h2]
        rw [e1]
        simp only [Nat.mul_one]
        exact seg_take _ _ hlen (by omega) (by simp; omega))
    refine WL.val rfl rfl hn (fun a ha => ?_) (h _ (hS.put hi hp.2 hp.1 (.inl rfl)))
    simp [execOp, resolve, invoke, builtin, ha.ev hx, ha.ev hy, hrun, hlen, goInt]
/-- 'clear' of a row. -/
theorem SL.clear {x : Operand} {tx e m c by_ : Nat} {A : Option Addr} {xs : List Int} (i : Nat) (hS : St X w0 mr w R) (hi : R[i]? = some (.row e 1 A m c (is xs))) (ht : P.underlying tx = some (.slice e)) (he : Elem P e 1 by_ (.int .i64 0)) (hx : ev L x = some (.slice A m c))
    (h : ∀ w', St X w0 mr w' (R.set i (.row e 1 A m c (is (List.replicate m 0)))) → WL P n ro df ops rest N L w') :
    WL P n ro df ops (⟨none, .call ⟨.builtin .clear, #[x], #[tx]⟩, ty, pos, af, none⟩ :: rest) N L w := by
  obtain ⟨inf, i1, i2, i3, i4⟩ := he.ex
  have hO := hS.own hi
  have hxl := hO.rd.ilen
  rcases Nat.eq_zero_or_pos m with h0 | h0
  · subst h0
    have e0 : xs = [] := List.eq_nil_of_length_eq_zero hxl
    subst e0
    have h1 : R.set i (.row e 1 A 0 c (is [])) = R := List.set_getElem?_self hi
    rw [show List.replicate 0 (0 : Int) = [] from rfl, h1] at h
    refine WL.act0 (v := .tuple #[]) rfl rfl (fun a ha => ?_) (h w hS)
    have : (Builtin.clear_ #[tx] ty #[.slice A 0 c]).run P w = .ok (.tuple #[]) w := by
      cases A <;> simp [Builtin.clear_, run_underlying ht]
    simp [execOp, resolve, invoke, builtin, ha.ev hx, this]
  · obtain ⟨g, cur, rfl, _, hg, hmc, hcm, hcs, htake⟩ := own_cur hO h0
    have hst := run_storeCells_at P g 0 e (List.replicate m (Value.int .i64 0)) 0 cur w hg (by simp; omega) (fun v hv => by rw [List.eq_of_mem_replicate hv]; rfl)
    have hzc : (Builtin.zeroCells (Value.int .i64 0).cells m).toList = List.replicate m (Value.int .i64 0) := by
      show (Builtin.zeroCells #[Value.int .i64 0] m).toList = _
      simp [Builtin.zeroCells]
      apply List.ext_getElem
      · simp
      · intro i h1 h2
        simp [Nat.mod_one]
    have hrun : (Builtin.clear_ #[tx] ty #[.slice (some ⟨g, 0, none⟩) m c]).run P w = .ok (.tuple #[]) (w.setRow g (cur.toList.take (0 + 0) ++ List.replicate m (Value.int .i64 0) ++ cur.toList.drop (0 + 0 + (List.replicate m (Value.int .i64 0)).length)).toArray) := by
      obtain ⟨k, rfl⟩ : ∃ k, m = k + 1 := ⟨m - 1, by omega⟩
      have hz0 : (zeroValue e).run P w = .ok (.int .i64 0) w := by simp [zeroValue, typeInfo, i1, i2]
      simp only [Builtin.clear_]
      simp [run_underlying ht, hz0, hzc, hst]
    have hp := own_cells_put (m := m) (c := c) (cs := is (List.replicate m 0)) hg (cur' := (cur.toList.take (0 + 0) ++ List.replicate m (Value.int .i64 0) ++ cur.toList.drop (0 + 0 + (List.replicate m (Value.int .i64 0)).length)).toArray)
      (by simp; omega) hmc hcm hcs (by simp [is])
    refine WL.act0 (v := .tuple #[]) rfl rfl (fun a ha => ?_) (h _ (hS.put hi hp.2 hp.1 (.inl rfl)))
    simp [execOp, resolve, invoke, builtin, ha.ev hx, hrun]
theorem SL.makeL {x y : Operand} {t e : TypeId} {z by_ : Nat} {zero : Value} {k k' : IntKind} {J : Int} {cs : List Value} (ht : P.underlying t = some (.slice e)) (he : Elem P e z by_ zero)
    (hx : ev L x = some (.int k J)) (hy : ev L y = some (.int k' J)) (hJ : 0 ≤ J ∧ J * (by_ : Int) ≤ 281474976710656 ∧ J ≤ 281474976710656) (hcs : (madeCells zero.cells (J.toNat * z)).toList = cs) (hn : Nat.blt d n = true)
    (h : ∀ A c w', Own 0 w' e z A J.toNat c cs → (∀ g, bl A = some g → w.heap.size ≤ g) → w.grownBy w' none → WL P n ro df ops rest N ((d, .slice A J.toNat c) :: L) w') :
    WL P n ro df ops (⟨some d, .makeSlice t x y, ty, pos, af, none⟩ :: rest) N L w := by
  subst hcs
  have h1 : J = ((J.toNat : Nat) : Int) := by omega
  refine WL.make w.heap.size J.toNat ht he hx hy h1 ?_ (by simp only [maxLen]; omega) (Nat.le_refl _) hn fun A w' hA hO hG => h A J.toNat w' (hO.low (Nat.zero_le _)) (fun g hg => (hO.bl_ge g hg).1) hG
  have := hJ.2.1; rw [h1, ← Int.natCast_mul] at this; rw [Nat.mul_comm]; exact Int.ofNat_le.1 this
/-- 'make', without a length. -/
theorem SL.make0 {x y : Operand} {t e : TypeId} {z by_ : Nat} {zero : Value} {k k' : IntKind} {J : Int} {cs : List Value} (hS : St X w0 mr w R) (ht : P.underlying t = some (.slice e)) (he : Elem P e z by_ zero)
    (hx : ev L x = some (.int k 0)) (hy : ev L y = some (.int k' J)) (hJ : 0 ≤ J ∧ J * (by_ : Int) ≤ 281474976710656 ∧ J ≤ 281474976710656) (hcs : [] = cs) (hn : Nat.blt d n = true)
    (h : ∀ A w', St X w0 mr w' (.row e z A 0 J.toNat cs :: R) → WL P n ro df ops rest N ((d, .slice A 0 J.toNat) :: L) w') :
    WL P n ro df ops (⟨some d, .makeSlice t x y, ty, pos, af, none⟩ :: rest) N L w := by
  subst hcs
  obtain ⟨inf, i1, i2, i3, i4⟩ := he.ex
  have h1 : J = ((J.toNat : Nat) : Int) := by omega
  have hb : inf.bytes * J.toNat ≤ 281474976710656 := by
    have := hJ.2.1; rw [h1, ← Int.natCast_mul] at this; rw [i4, Nat.mul_comm]; exact Int.ofNat_le.1 this
  obtain ⟨w', hr, hO, hG⟩ := run_make_own (P := P) w w.heap.size t e inf zero z ht i1 i2 i3 k k' J.toNat hb (by simp only [maxLen]; omega) (Nat.le_refl _)
  rw [← h1] at hr
  refine WL.val rfl rfl hn (fun a ha => by simp [execOp, ha.ev hx, ha.ev hy, hr]) (h _ w' (hS.push hG ⟨Own.low (b' := 0) hO (Nat.zero_le _), fun g hg => .inl ?_⟩ fun g hg => ?_))
  · cases hg; exact hS.size
  · cases hg; exact Nat.le_refl _
theorem St.castOwn {i e z m c m' c' : Nat} {A A' : Option Addr} {cs cs' : List Value} {w' : World} (h : St X w0 mr w R) (hi : R[i]? = some (.row e z A m c cs)) (hg : w.grownBy w' (bl A)) (hR : Rd w'.heap.size w' z A m c cs) (hR2 : Rd w'.heap.size w' z A' m' c' cs') (hz : 0 < z) (hA : 0 < m' → bl A' = bl A ∨ bl A' = some w.heap.size) :
    St X w0 mr w' (.ro z A' m' c' cs' :: R.set i (.ro z A m c cs)) := by
  have hr := h.rows.get hi
  have h1 : Rows w0.heap.size mr w' (R.set i (.ro z A m c cs)) := h.rows.put hi rfl hg (fun g e => e) ⟨hz, hR⟩ (fun g e => .inl e.1)
  refine ⟨grownBy_trans2 h.ext hg hr.2, ⟨⟨hz, hR2⟩, fun s hs hm g hg1 hg2 => ?_, h1⟩, h.cl _ _ _ h.x hg (own_cells hr.1), h.cl, h.lt⟩
  have hsm : s.mut = true := by simpa [Rw.mut] using hm
  obtain ⟨j, hj⟩ := List.getElem?_of_mem hs
  rw [List.getElem?_set] at hj
  split at hj
  · split at hj
    · cases hj; cases hsm
    · cases hj
  · rename_i hij
    have hs0 := h.rows.get hj
    rcases hA hg1.2 with h2 | h2
    · exact h.rows.apt (i := i) (j := j) hij hi hj (by simp [Rw.mut]) g (show bl A = some g from h2 ▸ hg1.1) hg2
    · have h3 := hg1.1; rw [h2] at h3; cases h3
      exact absurd (hs0.lt hg2) (Nat.lt_irrefl _)
/-- 'append' onto a row that is only read from here on, as is what it yields. -/
theorem SL.appendRo {x y : Operand} {t e : TypeId} {z by_ : Nat} {zero : Value} {A A' : Option Addr} {m c m' c' B : Nat} {cs cs' : List Value} (i mm : Nat) (ls : List Value) (hS : St X w0 mr w R) (hi : R[i]? = some (.row e z A m c cs)) (ht : P.underlying t = some (.slice e)) (he : Elem P e z by_ zero)
    (hR : Rd B w z A' m' c' cs') (h1 : ∀ u ∈ cs', u.oneCell' = true) (hx : ev L x = some (.slice A m c)) (hy : ev L y = some (.slice A' m' c')) (hm0 : 0 < m ∧ 0 < m')
    (hmax : m + m' ≤ maxLen) (hby : (m + m') * by_ ≤ 140737488355328) (hmm : m + m' = mm) (hls : cs ++ cs' = ls) (hn : Nat.blt d n = true)
    (h : ∀ A2 c2 w', St X w0 mr w' (.ro z A2 mm c2 ls :: R.set i (.ro z A m c cs)) → (∀ g, bl A2 = some g → w0.heap.size ≤ g ∨ mr = some g) → WL P n ro df ops rest N ((d, .slice A2 mm c2) :: L) w') :
    WL P n ro df ops (⟨some d, .call ⟨.builtin .append, #[x, y], #[t, t]⟩, ty, pos, af, none⟩ :: rest) N L w := by
  subst hmm; subst hls
  obtain ⟨inf, i1, i2, i3, i4⟩ := he.ex
  have hO := hS.own hi
  obtain ⟨g, cur, rfl, hg0, hg, hmc, hcm, hcs, htake⟩ := own_cur hO hm0.1
  obtain ⟨ad, rfl, _, hcell⟩ := hR.cells hm0.2
  have hgl : g < w.heap.size := (Array.getElem?_eq_some_iff.1 hg).1
  by_cases hroom : m + m' ≤ c
  · obtain ⟨w', hr, o1, o2⟩ := run_append_fits (P := P) w 0 t ty e inf z ht i1 i3 g m c cs hO ad m' c' cs' hR.len hcell h1 hroom
    have h2 : Rd w'.heap.size w' z (some ⟨g, 0, none⟩) (m + m') c (cs ++ cs') := Own.rd (e := e) (b := 0) o1
    have h3 : Rd w'.heap.size w' z (some ⟨g, 0, none⟩) m c cs := by
      have h4 := h2.take (k := m) (by omega)
      rwa [← hO.len, List.take_left] at h4
    refine WL.val rfl rfl hn (fun a ha => by simp [execOp, resolve, invoke, builtin, ha.ev hx, ha.ev hy, hr]) (h _ c w' (hS.castOwn hi o2 h3 h2 he.pos (fun _ => .inl rfl)) (hS.rows.get hi).2)
  · obtain ⟨v', w', hr, o1, o2⟩ := run_append_arg_grows (P := P) w t ty e inf zero z by_ ht i1 i2 i3 i4 he.zs he.pos ⟨g, 0, none⟩ m c cs hO.len (fun j u hu => hO.rd.at_ hu) ad m' c' cs' hR.len hcell (by omega) hmax hby
    have hv : ∃ A2 c2, v' = .slice A2 (m + m') c2 := by
      rcases o1.2 with ⟨rfl, h3⟩ | ⟨g, cap, cur, rfl, _⟩
      · omega
      · exact ⟨_, _, rfl⟩
    obtain ⟨A2, c2, rfl⟩ := hv
    have hO2 : Own w.heap.size w' e z A2 (m + m') c2 (cs ++ cs') := o1
    have hS2 : St X w0 mr w' (.row e z A2 (m + m') c2 (cs ++ cs') :: R) := hS.push o2 ⟨hO2.low (Nat.zero_le _), fun g hg => .inl (by have := (hO2.bl_ge g hg).1; have := hS.size; omega)⟩ (fun g hg => (hO2.bl_ge g hg).1)
    have hS3 := (hS2.freeze (i := 0) rfl he.pos).freeze (i := i + 1) (e := e) (z := z) (A := some ⟨g, 0, none⟩) (m := m) (c := c) (cs := cs) (by simpa using hi) he.pos
    exact WL.val rfl rfl hn (fun a ha => by simp [execOp, resolve, invoke, builtin, ha.ev hx, ha.ev hy, hr]) (h A2 c2 w' (by simpa using hS3) (fun g hg => .inl (by have := (hO2.bl_ge g hg).1; have := hS.size; omega)))
/-- 'a[j:]' -/
theorem SL.slFrom {x y : Operand} {t e : TypeId} {by_ B : Nat} {zero : Value} {A : Option Addr} {m c : Nat} {cs : List Value} {wR : World} {k : IntKind} {J : Int} (ht : P.underlying t = some (.slice e)) (he : Elem P e 1 by_ zero) (hR : Rd B wR 1 A m c cs)
    (hx : ev L x = some (.slice A m c)) (hy : ev L y = some (.int k J)) (hJ : 0 ≤ J ∧ J ≤ (m : Nat)) (hn : Nat.blt d n = true)
    (h : WL P n ro df ops rest N ((d, .slice (if c = J.toNat then A else A.map (·.add (J.toNat * 1))) (m - J.toNat) (c - J.toNat)) :: L) w) : WL P n ro df ops (⟨some d, .slice t x (some y) none none, ty, pos, af, none⟩ :: rest) N L w :=
  WL.slFrom J.toNat ht he hx hy (by omega) (by omega) hn h
end
end Go.Proofs.Ytlibahphimfmjaa
set_option linter.unusedSimpArgs false
set_option linter.unusedVariables false
namespace Go.Proofs.Ytlibahphimfmjaa
open Go.RowKit
/-! ### pointers and functions beside nil; entries of an array that lies in memory -/
section
variable {P : Program} {n : Nat} {ro : Option Nat} {df : List Deferred} {N : Post} {L : Fr} {w : World} {rest : List Oper} {ops : Array Oper}
variable {d : Nat} {ty : TypeId} {pos : String} {af : Array Edge}
theorem run_eqPn {t e : TypeId} {a : Option Addr} (hu : P.underlying t = some (.pointer e)) : (Op.equal t (.pointer a) (.pointer none)).run P w = .ok a.isNone w := by
  have : ∀ k, (Op.equalIn (k + 1) t (.pointer a) (.pointer none)).run P w = .ok a.isNone w := fun k => by
    rw [Op.equalIn]
    cases a <;> simp [run_underlying hu]
  exact this 9999
theorem WL.eqlPn {x y : Operand} {tx tb e : TypeId} {a : Option Addr} {b : Bool} (hu : P.underlying tx = some (.pointer e)) (hx : ev L x = some (.pointer a)) (hy : ev L y = some (.pointer none)) (hb : a.isNone = b) (hn : Nat.blt d n = true)
    (h : WL P n ro df ops rest N ((d, .bool b) :: L) w) : WL P n ro df ops (⟨some d, .binOp .eql tx x y tb, ty, pos, af, none⟩ :: rest) N L w :=
  WL.val rfl rfl hn (fun q ha => by subst hb; simp [execOp, eqGuard, binOp, ha.ev hx, ha.ev hy, run_eqPn hu]) h
end
end Go.Proofs.Ytlibahphimfmjaa
set_option linter.unusedSimpArgs false
set_option linter.unusedVariables false
namespace Go.Proofs.Ytlibahphimfmjaa
open Go.RowKit
end Go.Proofs.Ytlibahphimfmjaa
set_option linter.unusedSimpArgs false
set_option linter.unusedVariables false
namespace Go.Proofs.Ytlibahphimfmjaa
open Go.RowKit
theorem Own.take {b : Nat} {w : World} {e z : Nat} {A : Option Addr} {m c : Nat} {cs : List Value} (h : Own b w e z A m c cs) {k : Nat} (hk : k ≤ m) : Own b w e z A k c (cs.take (k * z)) := by
  obtain ⟨h1, h2⟩ := h
  have hkz : k * z ≤ m * z := Nat.mul_le_mul_right z hk
  refine ⟨by rw [List.length_take, h1]; omega, ?_⟩
  rcases h2 with ⟨h3, h4⟩ | ⟨g, cap, cur, h3, h4, h5, h6, h7, h8, h9⟩
  · have : k = 0 := by omega
    subst this
    cases h3
    exact .inl ⟨rfl, rfl⟩
  · cases h3
    refine .inr ⟨g, c, cur, rfl, h4, h5, by omega, h7, h8, ?_⟩
    rw [← h9, List.take_take, Nat.min_eq_left hkz]
section
variable {X : World → Prop} {w0 w w' : World} {mr : Option Nat} {R : List Rw}
end
/-- a readable slice of readable slices of ints -/
def Al (w : World) : List Value → List (List Int) → Prop
  | [], [] => True
  | v :: vs, l :: ls => (∃ A k B, v = .slice A l.length k ∧ Rd B w 1 A l.length k (is l)) ∧ Al w vs ls
  | _, _ => False
theorem Al.len {w : World} : ∀ {vs : List Value} {ls : List (List Int)}, Al w vs ls → vs.length = ls.length
  | [], [], _ => rfl
  | v :: vs, l :: ls, h => by rw [List.length_cons, List.length_cons, Al.len h.2]
  | [], _ :: _, h => h.elim
  | _ :: _, [], h => h.elim
theorem Al.ext {w w' : World} (hg : w.grownBy w' none) : ∀ {vs : List Value} {ls : List (List Int)}, Al w vs ls → Al w' vs ls
  | [], [], _ => trivial
  | v :: vs, l :: ls, ⟨⟨A, k, B, h1, h2⟩, h3⟩ => ⟨⟨A, k, B, h1, h2.ext hg⟩, Al.ext hg h3⟩
  | [], _ :: _, h => h.elim
  | _ :: _, [], h => h.elim
def gl (l : List (List Int)) (i : Int) : List Int := l.getD i.toNat []
theorem Al.at_ {w : World} : ∀ {vs : List Value} {ls : List (List Int)} {i : Nat}, Al w vs ls → i < ls.length → ∃ A k B, vs[i]? = some (.slice A (ls.getD i []).length k) ∧ Rd B w 1 A (ls.getD i []).length k (is (ls.getD i []))
  | v :: vs, l :: ls, 0, ⟨⟨A, k, B, h1, h2⟩, h3⟩, _ => ⟨A, k, B, by rw [h1]; rfl, h2⟩
  | v :: vs, l :: ls, i + 1, ⟨_, h3⟩, hi => Al.at_ (i := i) h3 (by simpa using hi)
  | [], [], i, _, hi => absurd hi (Nat.not_lt_zero i)
  | [], _ :: _, _, h, _ => h.elim
  | _ :: _, [], _, h, _ => h.elim
structure Rl (w : World) (A : Option Addr) (n k : Nat) (ls : List (List Int)) : Prop where
  ex : ∃ B cs, Rd B w 1 A n k cs ∧ Al w cs ls
theorem Rl.len {w : World} {A : Option Addr} {n k : Nat} {ls : List (List Int)} (h : Rl w A n k ls) : ls.length = n := by
  obtain ⟨B, cs, h1, h2⟩ := h.ex
  rw [← h2.len, h1.len, Nat.mul_one]
theorem Rl.ext {w w' : World} {A : Option Addr} {n k : Nat} {ls : List (List Int)} (h : Rl w A n k ls) (hg : w.grownBy w' none) : Rl w' A n k ls := by
  obtain ⟨B, cs, h1, h2⟩ := h.ex
  exact ⟨B, cs, h1.ext hg, h2.ext hg⟩
theorem Rl.nil (w : World) : Rl w none 0 0 [] := ⟨0, [], Rd.nil (by simp only [maxLen]; omega), trivial⟩
theorem Rl.at_ {w : World} {A : Option Addr} {n k : Nat} {ls : List (List Int)} (h : Rl w A n k ls) {I : Int} (hI : 0 ≤ I ∧ I < (n : Nat)) :
    ∃ A2 k2 B2, w.cell? ((adOf A).add I.toNat) = some (.slice A2 (gl ls I).length k2) ∧ Rd B2 w 1 A2 (gl ls I).length k2 (is (gl ls I)) := by
  obtain ⟨B, cs, h1, h2⟩ := h.ex
  have hl := h.len
  obtain ⟨A2, k2, B2, e1, e2⟩ := h2.at_ (i := I.toNat) (by omega)
  exact ⟨A2, k2, B2, h1.at_ e1, e2⟩
theorem Rl.m64 {w : World} {A : Option Addr} {n k : Nat} {ls : List (List Int)} (h : Rl w A n k ls) : n ≤ 9223372036854775807 := by
  obtain ⟨B, cs, h1, h2⟩ := h.ex; exact h1.m64
section
variable {P : Program} {n : Nat} {ro : Option Nat} {df : List Deferred} {N : Post} {L : Fr} {w w0 : World} {ops : Array Oper} {rest : List Oper}
variable {d : Nat} {ty : TypeId} {pos : String} {af : Array Edge} {X : World → Prop} {mr : Option Nat} {R : List Rw}
end
theorem St.cell {X : World → Prop} {w0 w : World} {R : List Rw} (h : St X w0 none w R) {p : Addr} {u : Value} (hc : w0.cell? p = some u) : w.cell? p = some u := cell_grown h.ext hc (by simp)
end Go.Proofs.Ytlibahphimfmjaa
set_option linter.unusedSimpArgs false
set_option linter.unusedVariables false
namespace Go.Proofs.Ytlibahphimfmjaa
open Go.ChangeShapes Go.WideShapes Go.ChangeAt Go.RowKit
section
variable {H : Type} {enc : TypeId × Value → H} {P : Program} {W : World} {base : Nat} {spare : Nat → Bool} {held : Bool}
end
end Go.Proofs.Ytlibahphimfmjaa
set_option linter.unusedVariables false
namespace Go.Proofs.Ytlibahphimfmjaa
open Go
/-! ### the head of a program's list of roots, without walking the list -/
theorem ws_cons {c : Char} (h : c ≠ Char.ofNat 32) (r : List Char) : wordsSigns (c :: r) = match wordsSigns r with | w :: ws => (c :: w) :: ws | [] => [[c]] := by
  rw [wordsSigns.eq_def]
  split
  · rename_i he; cases he
  · rename_i he; cases he; exact absurd rfl h
  · rename_i he; cases he; rfl
theorem ws_ne : ∀ a : List Char, wordsSigns a ≠ []
  | [] => fun h => by cases h
  | c :: a => by
    by_cases h : c = Char.ofNat 32
    · subst h
      show [] :: wordsSigns a ≠ []
      exact List.cons_ne_nil _ _
    · rw [ws_cons h]
      cases wordsSigns a with
      | nil => exact List.cons_ne_nil _ _
      | cons w ws => exact List.cons_ne_nil _ _
theorem ws_app : ∀ a b : List Char, wordsSigns (a ++ Char.ofNat 32 :: b) = wordsSigns a ++ wordsSigns b
  | [], b => rfl
  | c :: a, b => by
    by_cases h : c = Char.ofNat 32
    · subst h
      show [] :: wordsSigns (a ++ Char.ofNat 32 :: b) = ([] :: wordsSigns a) ++ wordsSigns b
      rw [ws_app a b]; rfl
    · rw [List.cons_append, ws_cons h, ws_cons h, ws_app a b]
      cases hw : wordsSigns a with
      | nil => exact absurd hw (ws_ne a)
      | cons w ws => rfl
/-- a program whose list of roots begins with 'harness', a sum, 'cut' -/
theorem roots_of {P : Program} {A B : String} {hs : List (List Char)} (h : P.initOrder = A ++ (String.singleton (Char.ofNat 32)) ++ B) (hA : wordsSigns A.toList = hs) : ∃ rest, wordsSigns P.initOrder.toList = hs ++ rest :=
  ⟨wordsSigns B.toList, by rw [h, String.toList_append, String.toList_append, ← hA]; exact (congrArg wordsSigns (by simp)).trans (ws_app A.toList B.toList)⟩
theorem head_strip (rest : List (List Char)) : stripLifts liftWords ("cut".toList :: rest) = ([], "cut".toList :: rest) := by kernel_rfl
theorem finals_of {P : Program} {rest : List (List Char)} (h : behindMainWord (wordsSigns P.initOrder.toList) = "cut".toList :: rest) : P.liftsFinal = false := by
  unfold Program.liftsFinal Program.headLifts
  simp only [h, head_strip]
  kernel_rfl
theorem make_of {P : Program} {rest : List (List Char)} (h : behindMainWord (wordsSigns P.initOrder.toList) = "cut".toList :: rest) : P.make = some .cut := by
  unfold Program.make
  rw [h]
  exact (if_neg (Bool.eq_false_iff.1 (by kernel_rfl))).trans (if_pos (by kernel_rfl))
theorem enter_of {P : Program} {rest : List (List Char)} (h : behindMainWord (wordsSigns P.initOrder.toList) = "cut".toList :: rest) (h1 : P.laysLater = false) (h2 : P.bearsReflect = false) (h3 : P.doorFits [] = true) : P.mayEnter = true := by
  unfold Program.mayEnter
  rw [h]
  refine (Bool.or_eq_true _ _).mpr (Or.inr ?_)
  rw [head_strip, h1, h2, h3]
  kernel_rfl
theorem and_mk {a b : Bool} (h1 : a = true) (h2 : b = true) : (a && b) = true := by rw [h1, h2]; rfl
end Go.Proofs.Ytlibahphimfmjaa
set_option linter.unusedVariables false
namespace Go.Proofs.Ytlibahphimfmjaa
open Go Go.Proofs
/-! ### the head of the seat's list of roots -/
def headA : String := "harness 48d3ca4092e8e1a560deda7dcd860584415cd70e84e07f9f605717b4f26228e8 cut"
def tailC : String := "at codewright/codewrightlaw08.DlogOrders codewright/codewrightlaw08.DlogAccepts codewright/codewrightlaw08.DlogSound codewright/codewrightlaw08.DlogPrimitive codewright/codewrightlaw08.DlogReaches codewright/codewrightlaw08.DlogSolves codewright/codewrightlaw08.DlogPowers codewright/codewrightlaw08.DlogTables codewright/codewrightlaw08.DlogProducts codewright/codewrightlaw08.DlogZech"
theorem seat_order : Try.checked.prog.initOrder = headA ++ String.singleton (Char.ofNat 32) ++ tailC := by kernel_rfl
theorem head_words : wordsSigns headA.toList = ["harness".toList, "48d3ca4092e8e1a560deda7dcd860584415cd70e84e07f9f605717b4f26228e8".toList, "cut".toList] := by kernel_rfl
theorem head_behind (rest : List (List Char)) : behindMainWord (["harness".toList, "48d3ca4092e8e1a560deda7dcd860584415cd70e84e07f9f605717b4f26228e8".toList, "cut".toList] ++ rest) = "cut".toList :: rest := by kernel_rfl
theorem seat_words : ∃ rest, behindMainWord (wordsSigns Try.checked.prog.initOrder.toList) = "cut".toList :: rest := by
  obtain ⟨rest, h⟩ := roots_of seat_order head_words
  exact ⟨rest, by rw [h]; exact head_behind rest⟩
theorem seat_enter : Try.checked.prog.mayEnter = true := by
  obtain ⟨rest, h⟩ := seat_words
  exact enter_of h (by kernel_rfl) (by kernel_rfl) (by kernel_rfl)
theorem seat_finals : Try.checked.prog.liftsFinal = false := by
  obtain ⟨rest, h⟩ := seat_words
  exact finals_of h
theorem seat_make : Try.checked.prog.make = some .cut := by
  obtain ⟨rest, h⟩ := seat_words
  exact make_of h
end Go.Proofs.Ytlibahphimfmjaa
set_option linter.unusedVariables false
namespace Go.Proofs.Ytlibahphimfmjaa
open Go.RowKit
theorem Try.mixed : Try.prog.follows .mixedOrders = true := by kernel_rfl
theorem Try.el3 : Elem Try.prog 3 1 8 (.int .i64 0) := .mk' (by kernel_rfl) rfl (by decide)
theorem Try.el4 : Elem Try.prog 4 1 1 (.bool false) := .mk' (by kernel_rfl) rfl (by decide)
theorem Try.el22 : Elem Try.prog 22 1 24 (.slice none 0 0) := .mk' (by kernel_rfl) rfl (by decide)
theorem Try.el92 : Elem Try.prog 92 1 24 (.slice none 0 0) := .mk' (by kernel_rfl) rfl (by decide)
theorem Try.el24 : Elem Try.prog 24 3 40 (.agg #[.int .i64 0, .int .i64 0, .slice none 0 0]) := .mk' (by kernel_rfl) rfl (by decide)
theorem Try.agg24 : aggB Try.prog 24 = true := by kernel_rfl
theorem Try.fla24_0 : fldA Try.prog 24 0 0 = true := by kernel_rfl
theorem Try.fla24_1 : fldA Try.prog 24 1 1 = true := by kernel_rfl
theorem Try.fla24_2 : fldA Try.prog 24 2 2 = true := by kernel_rfl
theorem Try.fla69_0 : fldA Try.prog 69 0 0 = true := by kernel_rfl
theorem Try.fla69_1 : fldA Try.prog 69 1 3 = true := by kernel_rfl
theorem Try.fla69_2 : fldA Try.prog 69 2 4 = true := by kernel_rfl
theorem Try.fla69_3 : fldA Try.prog 69 3 5 = true := by kernel_rfl
theorem Try.fla69_4 : fldA Try.prog 69 4 6 = true := by kernel_rfl
theorem Try.bld69 : bldP Try.prog 69 [(0, 3), (3, 1), (4, 1), (5, 1), (6, 1)] #[.int .i64 0, .int .i64 0, .slice none 0 0, .int .i64 0, .slice none 0 0, .slice none 0 0, .slice none 0 0] := ⟨by kernel_rfl, _, Try.underlying69, by kernel_rfl⟩
theorem Try.nm13 : (Try.f13.name == "runtime.NumGoroutine") = false := by kernel_rfl
theorem Try.nm20 : (Try.f20.name == "runtime.NumGoroutine") = false := by kernel_rfl
theorem Try.nm21 : (Try.f21.name == "runtime.NumGoroutine") = false := by kernel_rfl
theorem Try.nm22 : (Try.f22.name == "runtime.NumGoroutine") = false := by kernel_rfl
theorem Try.nm23 : (Try.f23.name == "runtime.NumGoroutine") = false := by kernel_rfl
theorem Try.nm24 : (Try.f24.name == "runtime.NumGoroutine") = false := by kernel_rfl
theorem Try.nm26 : (Try.f26.name == "runtime.NumGoroutine") = false := by kernel_rfl
theorem Try.nm33 : (Try.f33.name == "runtime.NumGoroutine") = false := by kernel_rfl
theorem Try.nm38 : (Try.f38.name == "runtime.NumGoroutine") = false := by kernel_rfl
theorem Try.nm39 : (Try.f39.name == "runtime.NumGoroutine") = false := by kernel_rfl
theorem Try.nm40 : (Try.f40.name == "runtime.NumGoroutine") = false := by kernel_rfl
theorem Try.nm42 : (Try.f42.name == "runtime.NumGoroutine") = false := by kernel_rfl
theorem Try.nm44 : (Try.f44.name == "runtime.NumGoroutine") = false := by kernel_rfl
theorem Try.nm47 : (Try.f47.name == "runtime.NumGoroutine") = false := by kernel_rfl
theorem Try.nm49 : (Try.f49.name == "runtime.NumGoroutine") = false := by kernel_rfl
theorem Try.nm57 : (Try.f57.name == "runtime.NumGoroutine") = false := by kernel_rfl
theorem Try.nm58 : (Try.f58.name == "runtime.NumGoroutine") = false := by kernel_rfl
theorem Try.nm59 : (Try.f59.name == "runtime.NumGoroutine") = false := by kernel_rfl
theorem Try.nm60 : (Try.f60.name == "runtime.NumGoroutine") = false := by kernel_rfl
theorem Try.nm61 : (Try.f61.name == "runtime.NumGoroutine") = false := by kernel_rfl
theorem Try.nm62 : (Try.f62.name == "runtime.NumGoroutine") = false := by kernel_rfl
theorem Try.nm63 : (Try.f63.name == "runtime.NumGoroutine") = false := by kernel_rfl
theorem Try.nm64 : (Try.f64.name == "runtime.NumGoroutine") = false := by kernel_rfl
theorem Try.nm65 : (Try.f65.name == "runtime.NumGoroutine") = false := by kernel_rfl
theorem Try.nm66 : (Try.f66.name == "runtime.NumGoroutine") = false := by kernel_rfl
theorem Try.nm69 : (Try.f69.name == "runtime.NumGoroutine") = false := by kernel_rfl
theorem Try.nm70 : (Try.f70.name == "runtime.NumGoroutine") = false := by kernel_rfl
theorem Try.nm71 : (Try.f71.name == "runtime.NumGoroutine") = false := by kernel_rfl
theorem Try.nm72 : (Try.f72.name == "runtime.NumGoroutine") = false := by kernel_rfl
theorem Try.nm73 : (Try.f73.name == "runtime.NumGoroutine") = false := by kernel_rfl
theorem Try.nm74 : (Try.f74.name == "runtime.NumGoroutine") = false := by kernel_rfl
theorem Try.nm75 : (Try.f75.name == "runtime.NumGoroutine") = false := by kernel_rfl
theorem Try.nm76 : (Try.f76.name == "runtime.NumGoroutine") = false := by kernel_rfl
theorem Try.nm77 : (Try.f77.name == "runtime.NumGoroutine") = false := by kernel_rfl
theorem Try.nm78 : (Try.f78.name == "runtime.NumGoroutine") = false := by kernel_rfl
theorem Try.nm82 : (Try.f82.name == "runtime.NumGoroutine") = false := by kernel_rfl
theorem Try.nm83 : (Try.f83.name == "runtime.NumGoroutine") = false := by kernel_rfl
theorem Try.nm84 : (Try.f84.name == "runtime.NumGoroutine") = false := by kernel_rfl
theorem Try.nm85 : (Try.f85.name == "runtime.NumGoroutine") = false := by kernel_rfl
theorem Try.nm86 : (Try.f86.name == "runtime.NumGoroutine") = false := by kernel_rfl
theorem Try.nm87 : (Try.f87.name == "runtime.NumGoroutine") = false := by kernel_rfl
theorem Try.nm88 : (Try.f88.name == "runtime.NumGoroutine") = false := by kernel_rfl
theorem Try.nm89 : (Try.f89.name == "runtime.NumGoroutine") = false := by kernel_rfl
theorem Try.nm90 : (Try.f90.name == "runtime.NumGoroutine") = false := by kernel_rfl
theorem Try.nm91 : (Try.f91.name == "runtime.NumGoroutine") = false := by kernel_rfl
theorem Try.nm92 : (Try.f92.name == "runtime.NumGoroutine") = false := by kernel_rfl
end Go.Proofs.Ytlibahphimfmjaa
set_option linter.unusedSimpArgs false
set_option linter.unusedVariables false
namespace Go.Proofs.Ytlibahphimfmjaa
open Go.RowKit
def V_okIf (b : Bool) (Q : Int → Prop) : Prop :=
  ((b = true) → (Q (0 : Int))) ∧ (b = false → (Q (1 : Int)))
theorem ok_okIf {w : World} {Q : Int → Prop} {b : Bool}  (hv : V_okIf b Q) :
    Calls Try.prog 71 #[.bool b] w fun e w' => ∃ v Qr, e = .returned v ∧ w.grownBy w' none ∧ Rows w.heap.size none w' Qr ∧ News w.heap.size Qr ∧ ∃ (r0 : Int), v = .int .i64 r0 ∧ Qr = [] ∧ Q r0 := by
  refine calls_swap ?_
  refine calls_of_W (vs := [.bool b]) [2] Try.func71 rfl rfl rfl rfl ?_
  have hS := St.start w
  unfold V_okIf at hv
  refine W.seq ?_
  refine W.region ?_
  refine WL.assign rfl rfl ?_
  refine WL.done ?_
  refine W.seq ?_
  refine W.seq ?_
  refine W.region ?_
  refine WL.move rfl rfl ?_
  refine WL.done ?_
  refine W.cond2 rfl (fun c11 => ?_) (fun c11 => ?_)
  · have hv := hv.1 (c11)
    refine W.seq ?_
    refine W.region ?_
    refine WL.assign rfl rfl ?_
    refine WL.done ?_
    refine W.ret ?_
    refine ⟨_, rfl, Fin.nil ?_⟩
    exact ⟨_, hS.ext, (hS.pick [] rfl).rows, News.of (hS.pick [] rfl).rows rfl, ⟨(0 : Int), rfl, rfl, hv⟩⟩
  · have hv := hv.2 (c11)
    refine W.skip ?_
    refine W.seq ?_
    refine W.region ?_
    refine WL.assign rfl rfl ?_
    refine WL.done ?_
    refine W.ret ?_
    refine ⟨_, rfl, Fin.nil ?_⟩
    exact ⟨_, hS.ext, (hS.pick [] rfl).rows, News.of (hS.pick [] rfl).rows rfl, ⟨(1 : Int), rfl, rfl, hv⟩⟩

def V_leastDivisor (x : Int) (Q : Int → Prop) : Prop :=
  ∃ (I14 : Int → Prop) (μ15 : Int → Nat), I14 (2 : Int) ∧ ∀ (z13 : Int), (I14 z13 → ((I64 (z13 * z13)) ∧ ((((z13 * z13) ≤ x) → ((z13 ≠ 0) ∧ ((((x.tmod z13) = (0 : Int)) → Q z13) ∧ (¬ ((x.tmod z13) = (0 : Int)) → ((I64 (z13 + (1 : Int))) ∧ (I14 (z13 + (1 : Int)) ∧ μ15 (z13 + (1 : Int)) < μ15 z13)))))) ∧ (¬ ((z13 * z13) ≤ x) → Q x))))
theorem ok_leastDivisor {w : World} {Q : Int → Prop} {x : Int}  (hv : V_leastDivisor x Q) :
    Calls Try.prog 82 #[.int .i64 x] w fun e w' => ∃ v Qr, e = .returned v ∧ w.grownBy w' none ∧ Rows w.heap.size none w' Qr ∧ News w.heap.size Qr ∧ ∃ (r0 : Int), v = .int .i64 r0 ∧ Qr = [] ∧ Q r0 := by
  refine calls_swap ?_
  refine calls_of_W (vs := [.int .i64 x]) [2] Try.func82 rfl rfl rfl rfl ?_
  have hS := St.start w
  unfold V_leastDivisor at hv
  refine W.seq ?_
  refine W.region ?_
  refine WL.assign rfl rfl ?_
  refine WL.done ?_
  refine W.seq ?_
  refine W.seq ?_
  refine W.region ?_
  refine WL.assign rfl rfl ?_
  refine WL.done ?_
  refine W.block ?_
  obtain ⟨I14, μ15, hv, hk22⟩ := hv
  change St _ _ _ _ [] at hS
  refine W.loop (σ := Int) (fun z13 w1 => I14 z13 ∧ St TT w none w1 []) (fun z13 => [(0, .int .i64 x), (2, .int .i64 (0 : Int)), (3, .int .i64 z13)]) (fun z13 => μ15 z13) (2 : Int) ⟨hv, hS⟩ ⟨rfl, rfl, rfl, trivial⟩ ?_
  rintro z13 w16 ⟨hv, hS⟩
  have hv := hk22 z13 hv
  refine W.seq ?_
  refine W.seq ?_
  refine W.region ?_
  refine WL.move rfl rfl ?_
  refine WL.move rfl rfl ?_
  obtain ⟨o17, hv⟩ := hv
  refine WL.mul (r := (z13 * z13)) rfl rfl (wr o17) rfl ?_
  refine WL.move rfl rfl ?_
  refine WL.leqD rfl rfl rfl ?_
  refine WL.done ?_
  refine W.cond2 rfl (fun c18 => ?_) (fun c18 => ?_)
  · have hv := hv.1 (of_decide_eq_true c18)
    refine W.skip ?_
    refine W.seq ?_
    refine W.block ?_
    refine W.seq ?_
    refine W.region ?_
    refine WL.move rfl rfl ?_
    refine WL.move rfl rfl ?_
    obtain ⟨o19, hv⟩ := hv
    refine WL.rem (r := (x.tmod z13)) rfl rfl o19 rfl rfl ?_
    refine WL.eqlD rfl rfl rfl ?_
    refine WL.done ?_
    refine W.cond2 rfl (fun c20 => ?_) (fun c20 => ?_)
    · have hv := hv.1 (of_decide_eq_true c20)
      refine W.seq ?_
      refine W.region ?_
      refine WL.move rfl rfl ?_
      refine WL.assign rfl rfl ?_
      refine WL.done ?_
      refine W.ret ?_
      refine ⟨_, rfl, Fin.nil ?_⟩
      exact ⟨_, hS.ext, (hS.pick [] rfl).rows, News.of (hS.pick [] rfl).rows rfl, ⟨z13, rfl, rfl, hv⟩⟩
    · have hv := hv.2 (of_decide_eq_false c20)
      refine W.skip ?_
      refine W.region ?_
      refine WL.move rfl rfl ?_
      obtain ⟨o21, hv⟩ := hv
      refine WL.add (r := (z13 + (1 : Int))) rfl rfl (wr o21) rfl ?_
      refine WL.assign rfl rfl ?_
      refine WL.done ?_
      change St _ _ _ _ [] at hS
      exact ⟨(z13 + (1 : Int)), ⟨rfl, rfl, rfl, trivial⟩, hv.2, rfl, hv.1, hS⟩
  · have hv := hv.2 (of_decide_eq_false c18)
    refine W.exit ?_
    refine W.seq ?_
    refine W.region ?_
    refine WL.move rfl rfl ?_
    refine WL.assign rfl rfl ?_
    refine WL.done ?_
    refine W.ret ?_
    refine ⟨_, rfl, Fin.nil ?_⟩
    exact ⟨_, hS.ext, (hS.pick [] rfl).rows, News.of (hS.pick [] rfl).rows rfl, ⟨x, rfl, rfl, hv⟩⟩

def V_isPrime (x : Int) (Q : Bool → Prop) : Prop :=
  (((2 : Int) ≤ x) → (V_leastDivisor x (fun r13 => Q (decide (r13 = x))))) ∧ (¬ ((2 : Int) ≤ x) → Q false)
theorem ok_isPrime {w : World} {Q : Bool → Prop} {x : Int}  (hv : V_isPrime x Q) :
    Calls Try.prog 70 #[.int .i64 x] w fun e w' => ∃ v Qr, e = .returned v ∧ w.grownBy w' none ∧ Rows w.heap.size none w' Qr ∧ News w.heap.size Qr ∧ ∃ (r0 : Bool), v = .bool r0 ∧ Qr = [] ∧ Q r0 := by
  refine calls_swap ?_
  refine calls_of_W (vs := [.int .i64 x]) [2] Try.func70 rfl rfl rfl rfl ?_
  have hS := St.start w
  unfold V_isPrime at hv
  refine W.seq ?_
  refine W.region ?_
  refine WL.assign rfl rfl ?_
  refine WL.done ?_
  refine W.seq ?_
  refine W.region ?_
  refine WL.move rfl rfl ?_
  refine WL.geqD rfl rfl rfl ?_
  refine WL.move rfl rfl ?_
  by_cases g11 : (2 : Int) ≤ x
  · have hv := hv.1 g11
    rw [decide_eq_true g11]
    refine WL.take rfl ?_
    refine WL.move rfl rfl ?_
    refine WL.take rfl ?_
    refine SL.call hS (ok_leastDivisor  hv) Try.func82 rfl Try.nm82 rfl rfl ?_
    rintro _ _ w12 ⟨r13, rfl, rfl, hv⟩ hGw12 hS
    change St _ _ _ _ [] at hS
    refine WL.take rfl ?_
    refine WL.move rfl rfl ?_
    refine WL.take rfl ?_
    refine WL.eqlD rfl rfl rfl ?_
    refine WL.pick rfl rfl rfl ?_
    refine WL.assign rfl rfl ?_
    refine WL.done ?_
    refine W.ret ?_
    refine ⟨_, rfl, Fin.nil ?_⟩
    exact ⟨_, hS.ext, (hS.pick [] rfl).rows, News.of (hS.pick [] rfl).rows rfl, ⟨(decide (r13 = x)), rfl, rfl, hv⟩⟩
  · have hv := hv.2 g11
    rw [decide_eq_false g11]
    refine WL.pass rfl rfl rfl ?_
    refine WL.pass rfl rfl rfl ?_
    refine WL.pass rfl rfl rfl ?_
    refine WL.pass rfl rfl rfl ?_
    refine WL.pick rfl rfl rfl ?_
    refine WL.assign rfl rfl ?_
    refine WL.done ?_
    refine W.ret ?_
    refine ⟨_, rfl, Fin.nil ?_⟩
    exact ⟨_, hS.ext, (hS.pick [] rfl).rows, News.of (hS.pick [] rfl).rows rfl, ⟨false, rfl, rfl, hv⟩⟩

def V_order (Pf : Int) (Mf : Int) (mf : List Int) (Q : Int → Prop) : Prop :=
  ∃ J14 : Int → Prop, (∃ (I21 : Int → Int → Prop) (μ22 : Int → Int → Nat), I21 (1 : Int) (0 : Int) ∧ ∀ (z19 : Int) (z20 : Int), (I21 z19 z20 → (((z20 < Mf) → (((z19 ≤ (256 : Int)) → ((I64 (z19 * Pf)) ∧ ((I64 (z20 + (1 : Int))) ∧ (I21 (z19 * Pf) (z20 + (1 : Int)) ∧ μ22 (z19 * Pf) (z20 + (1 : Int)) < μ22 z19 z20)))) ∧ (¬ (z19 ≤ (256 : Int)) → J14 z19))) ∧ (¬ (z20 < Mf) → J14 z19)))) ∧ ∀ (z13 : Int), (J14 z13 → Q z13)
theorem ok_order {w : World} {Q : Int → Prop} {Pf : Int} {Mf : Int} {mf : List Int} {Bf : Nat} {Af : Option Addr} {nf kf : Nat} (hf : Rd Bf w 1 Af nf kf (is mf)) (hv : V_order Pf Mf mf Q) :
    Calls Try.prog 61 #[.agg #[.int .i64 Pf, .int .i64 Mf, .slice Af nf kf]] w fun e w' => ∃ v Qr, e = .returned v ∧ w.grownBy w' none ∧ Rows w.heap.size none w' Qr ∧ News w.heap.size Qr ∧ ∃ (r0 : Int), v = .int .i64 r0 ∧ Qr = [] ∧ Q r0 := by
  have hnf := hf.ilen
  subst hnf
  refine calls_swap ?_
  refine calls_of_W (vs := [.agg #[.int .i64 Pf, .int .i64 Mf, .slice Af mf.length kf]]) [2] Try.func61 rfl rfl rfl rfl ?_
  have hS := St.start w
  unfold V_order at hv
  refine W.seq ?_
  refine W.region ?_
  refine SL.box (z := 3) (cs := [.int .i64 Pf, .int .i64 Mf, .slice Af mf.length kf]) hS rfl rfl rfl rfl ?_
  intro g11 w12 hS
  refine WL.assign rfl rfl ?_
  refine WL.done ?_
  refine W.seq ?_
  refine W.region ?_
  refine WL.assign rfl rfl ?_
  refine WL.done ?_
  refine W.seq ?_
  refine W.seq ?_
  refine W.region ?_
  refine WL.assign rfl rfl ?_
  refine WL.done ?_
  obtain ⟨J14, hv, hk30⟩ := hv
  refine W.cutN (σ := Int) (fun z13 w1 => J14 z13 ∧ St TT w none w1 [.row 24 3 (some ⟨g11, 0, none⟩) 1 1 [.int .i64 Pf, .int .i64 Mf, .slice Af mf.length kf]]) (fun z13 => [(2, .int .i64 (0 : Int)), (3, .int .i64 z13)]) ?_ ?_
  · refine W.block ?_
    obtain ⟨I21, μ22, hv, hk28⟩ := hv
    change St _ _ _ _ [.row 24 3 (some ⟨g11, 0, none⟩) 1 1 [.int .i64 Pf, .int .i64 Mf, .slice Af mf.length kf]] at hS
    refine W.loop (σ := Int × Int) (fun q w1 => match q with | (z19, z20) => I21 z19 z20 ∧ St TT w none w1 [.row 24 3 (some ⟨g11, 0, none⟩) 1 1 [.int .i64 Pf, .int .i64 Mf, .slice Af mf.length kf]]) (fun q => match q with | (z19, z20) => [(1, .pointer (some ⟨g11, 0, none⟩)), (2, .int .i64 (0 : Int)), (3, .int .i64 z19), (4, .int .i64 z20)]) (fun q => match q with | (z19, z20) => μ22 z19 z20) ((1 : Int), (0 : Int)) ⟨hv, hS⟩ ⟨rfl, rfl, rfl, rfl, trivial⟩ ?_
    rintro ⟨z19, z20⟩ w23 ⟨hv, hS⟩
    have hv := hk28 z19 z20 hv
    refine W.seq ?_
    refine W.seq ?_
    refine W.region ?_
    refine WL.move rfl rfl ?_
    refine WL.fieldA (off := 1) Try.fla24_1 rfl rfl ?_
    refine WL.load Try.underlying3 rfl rfl (Own.vcells (hS.own (i := 0) rfl) 1 _ rfl) rfl ?_
    refine WL.lssD rfl rfl rfl ?_
    refine WL.move rfl rfl ?_
    by_cases g24 : z20 < Mf
    · have hv := hv.1 g24
      rw [decide_eq_true g24]
      refine WL.take rfl ?_
      refine WL.move rfl rfl ?_
      refine WL.take rfl ?_
      refine WL.leqD rfl rfl rfl ?_
      refine WL.pick rfl rfl rfl ?_
      refine WL.done ?_
      refine W.cond2 rfl (fun c25 => ?_) (fun c25 => ?_)
      · have hv := hv.1 (of_decide_eq_true c25)
        refine W.skip ?_
        refine W.seq ?_
        refine W.block ?_
        refine W.region ?_
        refine WL.move rfl rfl ?_
        refine WL.fieldA (off := 0) Try.fla24_0 rfl rfl ?_
        refine WL.load Try.underlying3 rfl rfl (Own.vcells (hS.own (i := 0) rfl) 0 _ rfl) rfl ?_
        obtain ⟨o26, hv⟩ := hv
        refine WL.mul (r := (z19 * Pf)) rfl rfl (wr o26) rfl ?_
        refine WL.assign rfl rfl ?_
        refine WL.done ?_
        refine W.region ?_
        refine WL.move rfl rfl ?_
        obtain ⟨o27, hv⟩ := hv
        refine WL.add (r := (z20 + (1 : Int))) rfl rfl (wr o27) rfl ?_
        refine WL.assign rfl rfl ?_
        refine WL.done ?_
        change St _ _ _ _ [.row 24 3 (some ⟨g11, 0, none⟩) 1 1 [.int .i64 Pf, .int .i64 Mf, .slice Af mf.length kf]] at hS
        exact ⟨((z19 * Pf), (z20 + (1 : Int))), ⟨rfl, rfl, rfl, rfl, trivial⟩, hv.2, rfl, hv.1, hS⟩
      · have hv := hv.2 (of_decide_eq_false c25)
        refine W.exit ?_
        change St _ _ _ _ [.row 24 3 (some ⟨g11, 0, none⟩) 1 1 [.int .i64 Pf, .int .i64 Mf, .slice Af mf.length kf]] at hS
        exact ⟨z19, ⟨rfl, rfl, trivial⟩, rfl, hv, hS⟩
    · have hv := hv.2 g24
      rw [decide_eq_false g24]
      refine WL.pass rfl rfl rfl ?_
      refine WL.pass rfl rfl rfl ?_
      refine WL.pick rfl rfl rfl ?_
      refine WL.done ?_
      refine W.condF rfl ?_
      refine W.exit ?_
      change St _ _ _ _ [.row 24 3 (some ⟨g11, 0, none⟩) 1 1 [.int .i64 Pf, .int .i64 Mf, .slice Af mf.length kf]] at hS
      exact ⟨z19, ⟨rfl, rfl, trivial⟩, rfl, hv, hS⟩
  · rintro z13 w29 ⟨hv, hS⟩
    have hv := hk30 z13 hv
    refine W.seq ?_
    refine W.region ?_
    refine WL.move rfl rfl ?_
    refine WL.assign rfl rfl ?_
    refine WL.done ?_
    refine W.ret ?_
    refine ⟨_, rfl, Fin.nil ?_⟩
    exact ⟨_, hS.ext, (hS.pick [] rfl).rows, News.of (hS.pick [] rfl).rows rfl, ⟨z13, rfl, rfl, hv⟩⟩

def V_digits (p : Int) (n : Int) (x : Int) (Q : List Int → Prop) : Prop :=
  (0 ≤ n ∧ n * 8 ≤ 281474976710656 ∧ n ≤ 281474976710656) ∧ (∃ (I24 : List Int → Int → Int → Prop) (μ25 : List Int → Int → Int → Nat), I24 (List.replicate n.toNat (0 : Int)) x (0 : Int) ∧ ∀ (x21 : List Int) (z22 : Int) (z23 : Int), (I24 x21 z22 z23 → (((z23 < ((n.toNat : Nat) : Int)) → ((p ≠ 0) ∧ ((0 ≤ z23 ∧ z23 < (n.toNat : Nat)) ∧ ((p ≠ 0 ∧ I64 (z22.tdiv p)) ∧ ((I64 (z23 + (1 : Int))) ∧ (I24 (si x21 z23 (z22.tmod p)) (z22.tdiv p) (z23 + (1 : Int)) ∧ μ25 (si x21 z23 (z22.tmod p)) (z22.tdiv p) (z23 + (1 : Int)) < μ25 x21 z22 z23)))))) ∧ (¬ (z23 < ((n.toNat : Nat) : Int)) → Q x21))))
theorem ok_digits {w : World} {Q : List Int → Prop} {p : Int} {n : Int} {x : Int}  (hv : V_digits p n x Q) :
    Calls Try.prog 85 #[.int .i64 p, .int .i64 n, .int .i64 x] w fun e w' => ∃ v Qr, e = .returned v ∧ w.grownBy w' none ∧ Rows w.heap.size none w' Qr ∧ News w.heap.size Qr ∧ ∃ (x : List Int)  (A : Option Addr) (c : Nat), v = .slice A x.length c ∧ Qr = [.row 3 1 A x.length c (is x)] ∧ Q x := by
  refine calls_swap ?_
  refine calls_of_W (vs := [.int .i64 p, .int .i64 n, .int .i64 x]) [6] Try.func85 rfl rfl rfl rfl ?_
  have hS := St.start w
  unfold V_digits at hv
  refine W.seq ?_
  refine W.region ?_
  refine WL.assign rfl rfl ?_
  refine WL.done ?_
  refine W.seq ?_
  refine W.region ?_
  refine WL.move rfl rfl ?_
  obtain ⟨o11, hv⟩ := hv
  refine SL.make (J := n) hS Try.underlying22 Try.el3 rfl rfl o11 (made_is _) rfl ?_
  intro A12 w13 hS
  refine WL.assign rfl rfl ?_
  refine WL.done ?_
  refine W.seq ?_
  refine W.seq ?_
  refine W.region ?_
  refine WL.move rfl rfl ?_
  refine WL.len Try.underlying22 rfl rfl ?_
  refine WL.move rfl rfl ?_
  refine WL.done ?_
  refine W.block ?_
  obtain ⟨I24, μ25, hv, hk33⟩ := hv
  change St _ _ _ _ [.row 3 1 A12 n.toNat n.toNat (is (List.replicate n.toNat (0 : Int)))] at hS
  refine W.loop (σ := List Int × Int × Int) (fun q w1 => match q with | (x21, z22, z23) => I24 x21 z22 z23 ∧ St TT w none w1 [.row 3 1 A12 n.toNat n.toNat (is x21)]) (fun q => match q with | (x21, z22, z23) => [(0, .int .i64 p), (2, .int .i64 z22), (6, .slice none 0 0), (7, .slice A12 n.toNat n.toNat), (12, .int .i64 ((n.toNat : Nat) : Int)), (13, .int .i64 z23)]) (fun q => match q with | (x21, z22, z23) => μ25 x21 z22 z23) (List.replicate n.toNat (0 : Int), x, (0 : Int)) ⟨hv, hS⟩ ⟨rfl, rfl, rfl, rfl, rfl, rfl, trivial⟩ ?_
  rintro ⟨x21, z22, z23⟩ w26 ⟨hv, hS⟩
  have hv := hk33 x21 z22 z23 hv
  refine W.seq ?_
  refine W.region ?_
  refine WL.lssD rfl rfl rfl ?_
  refine WL.done ?_
  refine W.seq ?_
  refine W.cond2 rfl (fun c27 => ?_) (fun c27 => ?_)
  · have hv := hv.1 (of_decide_eq_true c27)
    refine W.skip ?_
    refine W.seq ?_
    refine W.block ?_
    refine W.seq ?_
    refine W.region ?_
    refine WL.move rfl rfl ?_
    refine WL.assign rfl rfl ?_
    refine WL.done ?_
    refine W.seq ?_
    refine W.region ?_
    refine WL.move rfl rfl ?_
    refine WL.move rfl rfl ?_
    refine WL.move rfl rfl ?_
    refine WL.move rfl rfl ?_
    obtain ⟨o28, hv⟩ := hv
    refine WL.rem (r := (z22.tmod p)) rfl rfl o28 rfl rfl ?_
    obtain ⟨o29, hv⟩ := hv
    refine SL.index Try.underlying22 Try.el3 (hS.rd (i := 0) rfl) rfl rfl o29 rfl ?_
    refine SL.store (cs' := is (si x21 z23 (z22.tmod p))) 0 z23.toNat hS rfl Try.el3 rfl rfl rfl (is_lt (hS.rd (i := 0) rfl) o29) (is_set _ _ _) ?_
    intro w30 hS
    refine WL.done ?_
    refine W.region ?_
    refine WL.move rfl rfl ?_
    refine WL.move rfl rfl ?_
    obtain ⟨o31, hv⟩ := hv
    refine WL.quo (r := (z22.tdiv p)) rfl rfl o31.1 (wr o31.2) rfl ?_
    refine WL.assign rfl rfl ?_
    refine WL.done ?_
    refine W.region ?_
    obtain ⟨o32, hv⟩ := hv
    refine WL.add (r := (z23 + (1 : Int))) rfl rfl (wr o32) rfl ?_
    refine WL.move rfl rfl ?_
    refine WL.done ?_
    change St _ _ _ _ [.row 3 1 A12 n.toNat n.toNat (is (si x21 z23 (z22.tmod p)))] at hS
    exact ⟨(si x21 z23 (z22.tmod p), (z22.tdiv p), (z23 + (1 : Int))), ⟨rfl, rfl, rfl, rfl, rfl, rfl, trivial⟩, hv.2, rfl, hv.1, hS⟩
  · have hv := hv.2 (of_decide_eq_false c27)
    refine W.exit ?_
    refine W.seq ?_
    refine W.region ?_
    refine WL.move rfl rfl ?_
    refine WL.assign rfl rfl ?_
    refine WL.done ?_
    refine W.ret ?_
    have hm := (hS.rd (i := 0) rfl).ilen
    have hS := hS.relen (i := 0) rfl hm.symm
    refine ⟨_, rfl, Fin.nil ?_⟩
    exact ⟨_, hS.ext, (hS.pick [0] rfl).rows, News.of (hS.pick [0] rfl).rows rfl, ⟨x21, A12, n.toNat, (by rw [hm]), rfl, hv⟩⟩

def V_successor (Pf : Int) (Mf : Int) (mf : List Int) (x : Int) (Q : Int → Prop) : Prop :=
  (Pf ≠ 0) ∧ ((I64 (Pf - (1 : Int))) ∧ ((((x.tmod Pf) = (Pf - (1 : Int))) → ((Pf ≠ 0) ∧ ((I64 (x - (x.tmod Pf))) ∧ (Q (x - (x.tmod Pf)))))) ∧ (¬ ((x.tmod Pf) = (Pf - (1 : Int))) → ((I64 (x + (1 : Int))) ∧ (Q (x + (1 : Int)))))))
theorem ok_successor {w : World} {Q : Int → Prop} {Pf : Int} {Mf : Int} {mf : List Int} {x : Int} {Bf : Nat} {Af : Option Addr} {nf kf : Nat} (hf : Rd Bf w 1 Af nf kf (is mf)) (hv : V_successor Pf Mf mf x Q) :
    Calls Try.prog 63 #[.agg #[.int .i64 Pf, .int .i64 Mf, .slice Af nf kf], .int .i64 x] w fun e w' => ∃ v Qr, e = .returned v ∧ w.grownBy w' none ∧ Rows w.heap.size none w' Qr ∧ News w.heap.size Qr ∧ ∃ (r0 : Int), v = .int .i64 r0 ∧ Qr = [] ∧ Q r0 := by
  have hnf := hf.ilen
  subst hnf
  refine calls_swap ?_
  refine calls_of_W (vs := [.agg #[.int .i64 Pf, .int .i64 Mf, .slice Af mf.length kf], .int .i64 x]) [4] Try.func63 rfl rfl rfl rfl ?_
  have hS := St.start w
  unfold V_successor at hv
  refine W.seq ?_
  refine W.region ?_
  refine SL.box (z := 3) (cs := [.int .i64 Pf, .int .i64 Mf, .slice Af mf.length kf]) hS rfl rfl rfl rfl ?_
  intro g11 w12 hS
  refine WL.assign rfl rfl ?_
  refine WL.done ?_
  refine W.seq ?_
  refine W.seq ?_
  obtain ⟨o17, hv⟩ := hv
  obtain ⟨o21, hv⟩ := hv
  have hS0 := hS
  refine W.drawX 8 (fun _ => false) (fun _ => none) [⟨[], [1], true⟩, ⟨[], [2], true⟩, ⟨[1], [], false⟩, ⟨[0, 2], [], true⟩, ⟨[], [2], true⟩, ⟨[4], [], false⟩, ⟨[5], [], true⟩, ⟨[3, 6], [], true⟩] [[(1, .int .i64 x)], [(2, .pointer (some ⟨g11, 0, none⟩))], [], [], [(2, .pointer (some ⟨g11, 0, none⟩))], [], [], []] (fun iQ => [fun v _ => v = .int .i64 x, fun v _ => v = .pointer (some ⟨g11, 0, none⟩), fun v _ => v = .int .i64 Pf, fun v _ => v = .int .i64 (x.tmod Pf), fun v _ => v = .pointer (some ⟨g11, 0, none⟩), fun v _ => v = .int .i64 Pf, fun v _ => v = .int .i64 (Pf - (1 : Int)), fun v _ => v = .bool (decide ((x.tmod Pf) = (Pf - (1 : Int))))].getD iQ (fun _ _ => True)) Try.mixed (by kernel_rfl) ?_ (by kernel_rfl) ?_ ?_
  · refine Vs_monoT _ ?_
    intro VQ hVQ vQ wQ1 wQ2 hQ1 hQ2
    simp only [List.mem_cons, List.not_mem_nil, or_false] at hVQ
    rcases hVQ with rfl | rfl | rfl | rfl | rfl | rfl | rfl | rfl
    · exact hQ1
    · exact hQ1
    · exact hQ1
    · exact hQ1
    · exact hQ1
    · exact hQ1
    · exact hQ1
    · exact hQ1
  · refine ⟨⟨rfl, ⟨rfl, trivial⟩, ?_⟩, ⟨rfl, ⟨rfl, trivial⟩, ?_⟩, ⟨rfl, trivial, ?_⟩, ⟨rfl, trivial, ?_⟩, ⟨rfl, ⟨rfl, trivial⟩, ?_⟩, ⟨rfl, trivial, ?_⟩, ⟨rfl, trivial, ?_⟩, ⟨rfl, trivial, ?_⟩, trivial⟩
    · intro w13 hE
      intro RR
      refine WL.move rfl rfl ?_
      exact WL.done ⟨_, rfl, rfl, rfl, (fun h => absurd h (by decide)), (fun j h => by cases h)⟩
    · intro w14 hE
      intro RR
      refine WL.fieldA (off := 0) Try.fla24_0 rfl rfl ?_
      exact WL.done ⟨_, rfl, rfl, rfl, (fun h => absurd h (by decide)), (fun j h => by cases h)⟩
    · intro w15 hE
      have hE := hE rfl
      have hS := hS.grow hE
      rintro _ rfl
      intro RR
      refine WL.load Try.underlying3 rfl rfl (Own.vcells (hS.own (i := 0) rfl) 0 _ rfl) rfl ?_
      exact WL.done ⟨_, rfl, ext_refl _, rfl, (fun h => absurd h (by decide)), (fun j h => by cases h)⟩
    · intro w16 hE
      rintro _ rfl
      rintro _ rfl
      intro RR
      refine WL.rem (r := (x.tmod Pf)) rfl rfl o17 rfl rfl ?_
      exact WL.done ⟨_, rfl, rfl, rfl, (fun h => absurd h (by decide)), (fun j h => by cases h)⟩
    · intro w18 hE
      intro RR
      refine WL.fieldA (off := 0) Try.fla24_0 rfl rfl ?_
      exact WL.done ⟨_, rfl, rfl, rfl, (fun h => absurd h (by decide)), (fun j h => by cases h)⟩
    · intro w19 hE
      have hE := hE rfl
      have hS := hS.grow hE
      rintro _ rfl
      intro RR
      refine WL.load Try.underlying3 rfl rfl (Own.vcells (hS.own (i := 0) rfl) 0 _ rfl) rfl ?_
      exact WL.done ⟨_, rfl, ext_refl _, rfl, (fun h => absurd h (by decide)), (fun j h => by cases h)⟩
    · intro w20 hE
      rintro _ rfl
      intro RR
      refine WL.sub (r := (Pf - (1 : Int))) rfl rfl (wr o21) rfl ?_
      exact WL.done ⟨_, rfl, rfl, rfl, (fun h => absurd h (by decide)), (fun j h => by cases h)⟩
    · intro w22 hE
      rintro _ rfl
      rintro _ rfl
      intro RR
      refine WL.eqlD rfl rfl rfl ?_
      exact WL.done ⟨_, rfl, rfl, rfl, (fun h => absurd h (by decide)), (fun j h => by cases h)⟩
  · intro vals w23 hT hVs hAp hCp
    have hS := hS.grow hT
    have hv0 : vals 0 = _ := hVs 0 (by decide)
    have hv1 : vals 1 = _ := hVs 1 (by decide)
    have hv2 : vals 2 = _ := hVs 2 (by decide)
    have hv3 : vals 3 = _ := hVs 3 (by decide)
    have hv4 : vals 4 = _ := hVs 4 (by decide)
    have hv5 : vals 5 = _ := hVs 5 (by decide)
    have hv6 : vals 6 = _ := hVs 6 (by decide)
    have hv7 : vals 7 = _ := hVs 7 (by decide)
    rw [show (List.filterMap (fun i => Option.map (fun t => (t, vals i)) (dstAt _ i)) (List.range _)) = [(5, .int .i64 x), (6, .pointer (some ⟨g11, 0, none⟩)), (7, .int .i64 Pf), (8, .int .i64 (x.tmod Pf)), (9, .pointer (some ⟨g11, 0, none⟩)), (10, .int .i64 Pf), (11, .int .i64 (Pf - (1 : Int))), (12, .bool (decide ((x.tmod Pf) = (Pf - (1 : Int)))))] from by
      show [(5, vals 0), (6, vals 1), (7, vals 2), (8, vals 3), (9, vals 4), (10, vals 5), (11, vals 6), (12, vals 7)] = _
      rw [hv0, hv1, hv2, hv3, hv4, hv5, hv6, hv7]]
    refine WA.done (by decide +kernel) ?_
    refine W.cond2 rfl (fun c24 => ?_) (fun c24 => ?_)
    · have hv := hv.1 (of_decide_eq_true c24)
      refine W.seq ?_
      refine W.region ?_
      refine WL.move rfl rfl ?_
      refine WL.move rfl rfl ?_
      refine WL.fieldA (off := 0) Try.fla24_0 rfl rfl ?_
      refine WL.load Try.underlying3 rfl rfl (Own.vcells (hS.own (i := 0) rfl) 0 _ rfl) rfl ?_
      obtain ⟨o25, hv⟩ := hv
      refine WL.rem (r := (x.tmod Pf)) rfl rfl o25 rfl rfl ?_
      obtain ⟨o26, hv⟩ := hv
      refine WL.sub (r := (x - (x.tmod Pf))) rfl rfl (wr o26) rfl ?_
      refine WL.assign rfl rfl ?_
      refine WL.done ?_
      refine W.ret ?_
      refine ⟨_, rfl, Fin.nil ?_⟩
      exact ⟨_, hS.ext, (hS.pick [] rfl).rows, News.of (hS.pick [] rfl).rows rfl, ⟨(x - (x.tmod Pf)), rfl, rfl, hv⟩⟩
    · have hv := hv.2 (of_decide_eq_false c24)
      refine W.skip ?_
      refine W.seq ?_
      refine W.region ?_
      refine WL.move rfl rfl ?_
      obtain ⟨o27, hv⟩ := hv
      refine WL.add (r := (x + (1 : Int))) rfl rfl (wr o27) rfl ?_
      refine WL.assign rfl rfl ?_
      refine WL.done ?_
      refine W.ret ?_
      refine ⟨_, rfl, Fin.nil ?_⟩
      exact ⟨_, hS.ext, (hS.pick [] rfl).rows, News.of (hS.pick [] rfl).rows rfl, ⟨(x + (1 : Int)), rfl, rfl, hv⟩⟩

def V_clone (l : List Int) (Q : List Int → Prop) : Prop :=
  ∀ b11 : Bool, (b11 = true → l = []) → (((b11 = true) → (Q ([] : List Int))) ∧ (b11 = false → ((((0 : Nat) + (l.length : Nat) : Int) * 8 ≤ 140737488355328) ∧ (Q (([] : List Int) ++ l)))))
theorem ok_clone {w : World} {Q : List Int → Prop} {l : List Int} {Bl : Nat} {Al : Option Addr} {nl kl : Nat} (hl : Rd Bl w 1 Al nl kl (is l)) (hv : V_clone l Q) :
    Calls Try.prog 75 #[.slice Al nl kl] w fun e w' => ∃ v Qr, e = .returned v ∧ w.grownBy w' none ∧ Rows w.heap.size none w' Qr ∧ News w.heap.size Qr ∧ ∃ (x : List Int)  (A : Option Addr) (c : Nat), v = .slice A x.length c ∧ Qr = [.row 3 1 A x.length c (is x)] ∧ Q x := by
  have hnl := hl.ilen
  subst hnl
  refine calls_swap ?_
  refine calls_of_W (vs := [.slice Al l.length kl]) [2] Try.func75 rfl rfl rfl rfl ?_
  have hS := St.start w
  unfold V_clone at hv
  refine W.seq ?_
  refine W.region ?_
  refine WL.assign rfl rfl ?_
  refine WL.done ?_
  refine W.seq ?_
  refine W.seq ?_
  refine W.region ?_
  refine WL.move rfl rfl ?_
  obtain ⟨b11, hb11⟩ : ∃ b, Al.isNone = b := ⟨_, rfl⟩
  have hv := hv b11 (fun h => Rd.isnone (hS.ro hl) (hb11.trans h))
  refine WL.eqlNil hb11 Try.underlying22 rfl rfl rfl ?_
  refine WL.done ?_
  refine W.cond2 rfl (fun c12 => ?_) (fun c12 => ?_)
  · have hv := hv.1 (c12)
    refine W.seq ?_
    refine W.region ?_
    refine WL.assign rfl rfl ?_
    refine WL.done ?_
    refine W.ret ?_
    have hS := hS.nil (e := 3) (z := 1)
    refine ⟨_, rfl, Fin.nil ?_⟩
    exact ⟨_, hS.ext, (hS.pick [0] rfl).rows, News.of (hS.pick [0] rfl).rows rfl, ⟨([] : List Int), none, 0, rfl, rfl, hv⟩⟩
  · have hv := hv.2 (c12)
    refine W.skip ?_
    refine W.seq ?_
    refine W.region ?_
    refine SL.lit1 (vs := is ([] : List Int)) hS Try.underlying22 Try.el3 rfl rfl rfl rfl (is_one _) rfl ?_
    intro A13 w14 hS
    refine WL.move rfl rfl ?_
    obtain ⟨o16, hv⟩ := hv
    refine SL.append (cs := is ([] : List Int)) (cs' := is l) 0 ((([] : List Int) ++ l).length) (is (([] : List Int) ++ l)) hS rfl Try.underlying22 Try.el3 (hS.ro hl) (is_one _) rfl rfl (apk o16).1 (apk o16).2 (is_ap (hS.rd (i := 0) rfl) (hS.ro hl)) (is_append _ _) rfl ?_
    intro A17 k18 w19 hS
    refine WL.assign rfl rfl ?_
    refine WL.done ?_
    refine W.ret ?_
    refine ⟨_, rfl, Fin.nil ?_⟩
    exact ⟨_, hS.ext, (hS.pick [0] rfl).rows, News.of (hS.pick [0] rfl).rows rfl, ⟨([] : List Int) ++ l, A17, k18, rfl, rfl, hv⟩⟩

def V_rOrder (Pf : Int) (Mf : Int) (mf : List Int) (Q : Int → Prop) : Prop :=
  ((Pf < (2 : Int)) → (Q (0 : Int))) ∧ (¬ (Pf < (2 : Int)) → (((Mf < (1 : Int)) → (Q (0 : Int))) ∧ (¬ (Mf < (1 : Int)) → ((((8 : Int) < Mf) → (Q (0 : Int))) ∧ (¬ ((8 : Int) < Mf) → (∃ (I22 : Int → Int → Prop) (μ23 : Int → Int → Nat), I22 (1 : Int) (0 : Int) ∧ ∀ (z20 : Int) (z21 : Int), (I22 z20 z21 → (((z21 < Mf) → ((Pf ≠ 0 ∧ I64 ((256 : Int).tdiv Pf)) ∧ (((((256 : Int).tdiv Pf) < z20) → (Q (0 : Int))) ∧ (¬ (((256 : Int).tdiv Pf) < z20) → ((I64 (z20 * Pf)) ∧ ((I64 (z21 + (1 : Int))) ∧ (I22 (z20 * Pf) (z21 + (1 : Int)) ∧ μ23 (z20 * Pf) (z21 + (1 : Int)) < μ23 z20 z21))))))) ∧ (¬ (z21 < Mf) → Q z20)))))))))
theorem ok_rOrder {w : World} {Q : Int → Prop} {Pf : Int} {Mf : Int} {mf : List Int} {Bf : Nat} {Af : Option Addr} {nf kf : Nat} (hf : Rd Bf w 1 Af nf kf (is mf)) (hv : V_rOrder Pf Mf mf Q) :
    Calls Try.prog 26 #[.agg #[.int .i64 Pf, .int .i64 Mf, .slice Af nf kf]] w fun e w' => ∃ v Qr, e = .returned v ∧ w.grownBy w' none ∧ Rows w.heap.size none w' Qr ∧ News w.heap.size Qr ∧ ∃ (r0 : Int), v = .int .i64 r0 ∧ Qr = [] ∧ Q r0 := by
  have hnf := hf.ilen
  subst hnf
  refine calls_swap ?_
  refine calls_of_W (vs := [.agg #[.int .i64 Pf, .int .i64 Mf, .slice Af mf.length kf]]) [2] Try.func26 rfl rfl rfl rfl ?_
  have hS := St.start w
  unfold V_rOrder at hv
  refine W.seq ?_
  refine W.region ?_
  refine SL.box (z := 3) (cs := [.int .i64 Pf, .int .i64 Mf, .slice Af mf.length kf]) hS rfl rfl rfl rfl ?_
  intro g11 w12 hS
  refine WL.assign rfl rfl ?_
  refine WL.done ?_
  refine W.seq ?_
  refine W.seq ?_
  refine W.region ?_
  refine WL.fieldA (off := 0) Try.fla24_0 rfl rfl ?_
  refine WL.load Try.underlying3 rfl rfl (Own.vcells (hS.own (i := 0) rfl) 0 _ rfl) rfl ?_
  refine WL.lssD rfl rfl rfl ?_
  refine WL.move rfl rfl ?_
  by_cases g13 : Pf < (2 : Int)
  · have hv := hv.1 g13
    rw [decide_eq_true g13]
    refine WL.pass rfl rfl rfl ?_
    refine WL.pass rfl rfl rfl ?_
    refine WL.pass rfl rfl rfl ?_
    refine WL.pick rfl rfl rfl ?_
    refine WL.move rfl rfl ?_
    refine WL.pass rfl rfl rfl ?_
    refine WL.pass rfl rfl rfl ?_
    refine WL.pass rfl rfl rfl ?_
    refine WL.pick rfl rfl rfl ?_
    refine WL.done ?_
    refine W.condT rfl ?_
    refine W.seq ?_
    refine W.region ?_
    refine WL.assign rfl rfl ?_
    refine WL.done ?_
    refine W.ret ?_
    refine ⟨_, rfl, Fin.nil ?_⟩
    exact ⟨_, hS.ext, (hS.pick [] rfl).rows, News.of (hS.pick [] rfl).rows rfl, ⟨(0 : Int), rfl, rfl, hv⟩⟩
  · have hv := hv.2 g13
    rw [decide_eq_false g13]
    refine WL.take rfl ?_
    refine WL.fieldA (off := 1) Try.fla24_1 rfl rfl ?_
    refine WL.take rfl ?_
    refine WL.load Try.underlying3 rfl rfl (Own.vcells (hS.own (i := 0) rfl) 1 _ rfl) rfl ?_
    refine WL.take rfl ?_
    refine WL.lssD rfl rfl rfl ?_
    refine WL.pick rfl rfl rfl ?_
    refine WL.move rfl rfl ?_
    by_cases g14 : Mf < (1 : Int)
    · have hv := hv.1 g14
      rw [decide_eq_true g14]
      refine WL.pass rfl rfl rfl ?_
      refine WL.pass rfl rfl rfl ?_
      refine WL.pass rfl rfl rfl ?_
      refine WL.pick rfl rfl rfl ?_
      refine WL.done ?_
      refine W.condT rfl ?_
      refine W.seq ?_
      refine W.region ?_
      refine WL.assign rfl rfl ?_
      refine WL.done ?_
      refine W.ret ?_
      refine ⟨_, rfl, Fin.nil ?_⟩
      exact ⟨_, hS.ext, (hS.pick [] rfl).rows, News.of (hS.pick [] rfl).rows rfl, ⟨(0 : Int), rfl, rfl, hv⟩⟩
    · have hv := hv.2 g14
      rw [decide_eq_false g14]
      refine WL.take rfl ?_
      refine WL.fieldA (off := 1) Try.fla24_1 rfl rfl ?_
      refine WL.take rfl ?_
      refine WL.load Try.underlying3 rfl rfl (Own.vcells (hS.own (i := 0) rfl) 1 _ rfl) rfl ?_
      refine WL.take rfl ?_
      refine WL.gtrD rfl rfl rfl ?_
      refine WL.pick rfl rfl rfl ?_
      refine WL.done ?_
      refine W.cond2 rfl (fun c15 => ?_) (fun c15 => ?_)
      · have hv := hv.1 (of_decide_eq_true c15)
        refine W.seq ?_
        refine W.region ?_
        refine WL.assign rfl rfl ?_
        refine WL.done ?_
        refine W.ret ?_
        refine ⟨_, rfl, Fin.nil ?_⟩
        exact ⟨_, hS.ext, (hS.pick [] rfl).rows, News.of (hS.pick [] rfl).rows rfl, ⟨(0 : Int), rfl, rfl, hv⟩⟩
      · have hv := hv.2 (of_decide_eq_false c15)
        refine W.skip ?_
        refine W.seq ?_
        refine W.region ?_
        refine WL.assign rfl rfl ?_
        refine WL.done ?_
        refine W.seq ?_
        refine W.seq ?_
        refine W.region ?_
        refine WL.assign rfl rfl ?_
        refine WL.done ?_
        refine W.block ?_
        obtain ⟨I22, μ23, hv, hk30⟩ := hv
        change St _ _ _ _ [.row 24 3 (some ⟨g11, 0, none⟩) 1 1 [.int .i64 Pf, .int .i64 Mf, .slice Af mf.length kf]] at hS
        refine W.loop (σ := Int × Int) (fun q w1 => match q with | (z20, z21) => I22 z20 z21 ∧ St TT w none w1 [.row 24 3 (some ⟨g11, 0, none⟩) 1 1 [.int .i64 Pf, .int .i64 Mf, .slice Af mf.length kf]]) (fun q => match q with | (z20, z21) => [(1, .pointer (some ⟨g11, 0, none⟩)), (2, .int .i64 (0 : Int)), (3, .int .i64 z20), (4, .int .i64 z21)]) (fun q => match q with | (z20, z21) => μ23 z20 z21) ((1 : Int), (0 : Int)) ⟨hv, hS⟩ ⟨rfl, rfl, rfl, rfl, trivial⟩ ?_
        rintro ⟨z20, z21⟩ w24 ⟨hv, hS⟩
        have hv := hk30 z20 z21 hv
        refine W.seq ?_
        refine W.seq ?_
        refine W.region ?_
        refine WL.move rfl rfl ?_
        refine WL.fieldA (off := 1) Try.fla24_1 rfl rfl ?_
        refine WL.load Try.underlying3 rfl rfl (Own.vcells (hS.own (i := 0) rfl) 1 _ rfl) rfl ?_
        refine WL.lssD rfl rfl rfl ?_
        refine WL.done ?_
        refine W.cond2 rfl (fun c25 => ?_) (fun c25 => ?_)
        · have hv := hv.1 (of_decide_eq_true c25)
          refine W.skip ?_
          refine W.seq ?_
          refine W.block ?_
          refine W.seq ?_
          refine W.seq ?_
          refine W.region ?_
          refine WL.move rfl rfl ?_
          refine WL.fieldA (off := 0) Try.fla24_0 rfl rfl ?_
          refine WL.load Try.underlying3 rfl rfl (Own.vcells (hS.own (i := 0) rfl) 0 _ rfl) rfl ?_
          obtain ⟨o26, hv⟩ := hv
          refine WL.quo (r := ((256 : Int).tdiv Pf)) rfl rfl o26.1 (wr o26.2) rfl ?_
          refine WL.gtrD rfl rfl rfl ?_
          refine WL.done ?_
          refine W.cond2 rfl (fun c27 => ?_) (fun c27 => ?_)
          · have hv := hv.1 (of_decide_eq_true c27)
            refine W.seq ?_
            refine W.region ?_
            refine WL.assign rfl rfl ?_
            refine WL.done ?_
            refine W.ret ?_
            refine ⟨_, rfl, Fin.nil ?_⟩
            exact ⟨_, hS.ext, (hS.pick [] rfl).rows, News.of (hS.pick [] rfl).rows rfl, ⟨(0 : Int), rfl, rfl, hv⟩⟩
          · have hv := hv.2 (of_decide_eq_false c27)
            refine W.skip ?_
            refine W.region ?_
            refine WL.move rfl rfl ?_
            refine WL.fieldA (off := 0) Try.fla24_0 rfl rfl ?_
            refine WL.load Try.underlying3 rfl rfl (Own.vcells (hS.own (i := 0) rfl) 0 _ rfl) rfl ?_
            obtain ⟨o28, hv⟩ := hv
            refine WL.mul (r := (z20 * Pf)) rfl rfl (wr o28) rfl ?_
            refine WL.assign rfl rfl ?_
            refine WL.done ?_
            refine W.region ?_
            refine WL.move rfl rfl ?_
            obtain ⟨o29, hv⟩ := hv
            refine WL.add (r := (z21 + (1 : Int))) rfl rfl (wr o29) rfl ?_
            refine WL.assign rfl rfl ?_
            refine WL.done ?_
            change St _ _ _ _ [.row 24 3 (some ⟨g11, 0, none⟩) 1 1 [.int .i64 Pf, .int .i64 Mf, .slice Af mf.length kf]] at hS
            exact ⟨((z20 * Pf), (z21 + (1 : Int))), ⟨rfl, rfl, rfl, rfl, trivial⟩, hv.2, rfl, hv.1, hS⟩
        · have hv := hv.2 (of_decide_eq_false c25)
          refine W.exit ?_
          refine W.seq ?_
          refine W.region ?_
          refine WL.move rfl rfl ?_
          refine WL.assign rfl rfl ?_
          refine WL.done ?_
          refine W.ret ?_
          refine ⟨_, rfl, Fin.nil ?_⟩
          exact ⟨_, hS.ext, (hS.pick [] rfl).rows, News.of (hS.pick [] rfl).rows rfl, ⟨z20, rfl, rfl, hv⟩⟩

def V_rprime (x : Int) (Q : Bool → Prop) : Prop :=
  ∃ (I14 : Int → Prop) (μ15 : Int → Nat), I14 (2 : Int) ∧ ∀ (z13 : Int), (I14 z13 → (((z13 < x) → ((z13 ≠ 0) ∧ ((((x.tmod z13) = (0 : Int)) → Q false) ∧ (¬ ((x.tmod z13) = (0 : Int)) → ((I64 (z13 + (1 : Int))) ∧ (I14 (z13 + (1 : Int)) ∧ μ15 (z13 + (1 : Int)) < μ15 z13)))))) ∧ (¬ (z13 < x) → Q true)))
theorem ok_rprime {w : World} {Q : Bool → Prop} {x : Int}  (hv : V_rprime x Q) :
    Calls Try.prog 64 #[.int .i64 x] w fun e w' => ∃ v Qr, e = .returned v ∧ w.grownBy w' none ∧ Rows w.heap.size none w' Qr ∧ News w.heap.size Qr ∧ ∃ (r0 : Bool), v = .bool r0 ∧ Qr = [] ∧ Q r0 := by
  refine calls_swap ?_
  refine calls_of_W (vs := [.int .i64 x]) [2] Try.func64 rfl rfl rfl rfl ?_
  have hS := St.start w
  unfold V_rprime at hv
  refine W.seq ?_
  refine W.region ?_
  refine WL.assign rfl rfl ?_
  refine WL.done ?_
  refine W.seq ?_
  refine W.seq ?_
  refine W.region ?_
  refine WL.assign rfl rfl ?_
  refine WL.done ?_
  refine W.block ?_
  obtain ⟨I14, μ15, hv, hk21⟩ := hv
  change St _ _ _ _ [] at hS
  refine W.loop (σ := Int) (fun z13 w1 => I14 z13 ∧ St TT w none w1 []) (fun z13 => [(0, .int .i64 x), (2, .bool false), (3, .int .i64 z13)]) (fun z13 => μ15 z13) (2 : Int) ⟨hv, hS⟩ ⟨rfl, rfl, rfl, trivial⟩ ?_
  rintro z13 w16 ⟨hv, hS⟩
  have hv := hk21 z13 hv
  refine W.seq ?_
  refine W.seq ?_
  refine W.region ?_
  refine WL.move rfl rfl ?_
  refine WL.move rfl rfl ?_
  refine WL.lssD rfl rfl rfl ?_
  refine WL.done ?_
  refine W.cond2 rfl (fun c17 => ?_) (fun c17 => ?_)
  · have hv := hv.1 (of_decide_eq_true c17)
    refine W.skip ?_
    refine W.seq ?_
    refine W.block ?_
    refine W.seq ?_
    refine W.region ?_
    refine WL.move rfl rfl ?_
    refine WL.move rfl rfl ?_
    obtain ⟨o18, hv⟩ := hv
    refine WL.rem (r := (x.tmod z13)) rfl rfl o18 rfl rfl ?_
    refine WL.eqlD rfl rfl rfl ?_
    refine WL.done ?_
    refine W.cond2 rfl (fun c19 => ?_) (fun c19 => ?_)
    · have hv := hv.1 (of_decide_eq_true c19)
      refine W.seq ?_
      refine W.region ?_
      refine WL.assign rfl rfl ?_
      refine WL.done ?_
      refine W.ret ?_
      refine ⟨_, rfl, Fin.nil ?_⟩
      exact ⟨_, hS.ext, (hS.pick [] rfl).rows, News.of (hS.pick [] rfl).rows rfl, ⟨false, rfl, rfl, hv⟩⟩
    · have hv := hv.2 (of_decide_eq_false c19)
      refine W.skip ?_
      refine W.region ?_
      refine WL.move rfl rfl ?_
      obtain ⟨o20, hv⟩ := hv
      refine WL.add (r := (z13 + (1 : Int))) rfl rfl (wr o20) rfl ?_
      refine WL.assign rfl rfl ?_
      refine WL.done ?_
      change St _ _ _ _ [] at hS
      exact ⟨(z13 + (1 : Int)), ⟨rfl, rfl, rfl, trivial⟩, hv.2, rfl, hv.1, hS⟩
  · have hv := hv.2 (of_decide_eq_false c17)
    refine W.exit ?_
    refine W.seq ?_
    refine W.region ?_
    refine WL.assign rfl rfl ?_
    refine WL.done ?_
    refine W.ret ?_
    refine ⟨_, rfl, Fin.nil ?_⟩
    exact ⟨_, hS.ext, (hS.pick [] rfl).rows, News.of (hS.pick [] rfl).rows rfl, ⟨true, rfl, rfl, hv⟩⟩

def V_rdigits (x : Int) (p : Int) (n : Int) (Q : List Int → Prop) : Prop :=
  (0 ≤ n ∧ n * 8 ≤ 281474976710656 ∧ n ≤ 281474976710656) ∧ (∃ (I24 : List Int → Int → Int → Prop) (μ25 : List Int → Int → Int → Nat), I24 (List.replicate n.toNat (0 : Int)) x (0 : Int) ∧ ∀ (x21 : List Int) (z22 : Int) (z23 : Int), (I24 x21 z22 z23 → (((z23 < n) → ((p ≠ 0) ∧ ((0 ≤ z23 ∧ z23 < (n.toNat : Nat)) ∧ ((p ≠ 0 ∧ I64 (z22.tdiv p)) ∧ ((I64 (z23 + (1 : Int))) ∧ (I24 (si x21 z23 (z22.tmod p)) (z22.tdiv p) (z23 + (1 : Int)) ∧ μ25 (si x21 z23 (z22.tmod p)) (z22.tdiv p) (z23 + (1 : Int)) < μ25 x21 z22 z23)))))) ∧ (¬ (z23 < n) → Q x21))))
theorem ok_rdigits {w : World} {Q : List Int → Prop} {x : Int} {p : Int} {n : Int}  (hv : V_rdigits x p n Q) :
    Calls Try.prog 69 #[.int .i64 x, .int .i64 p, .int .i64 n] w fun e w' => ∃ v Qr, e = .returned v ∧ w.grownBy w' none ∧ Rows w.heap.size none w' Qr ∧ News w.heap.size Qr ∧ ∃ (x : List Int)  (A : Option Addr) (c : Nat), v = .slice A x.length c ∧ Qr = [.row 3 1 A x.length c (is x)] ∧ Q x := by
  refine calls_swap ?_
  refine calls_of_W (vs := [.int .i64 x, .int .i64 p, .int .i64 n]) [6] Try.func69 rfl rfl rfl rfl ?_
  have hS := St.start w
  unfold V_rdigits at hv
  refine W.seq ?_
  refine W.region ?_
  refine WL.assign rfl rfl ?_
  refine WL.done ?_
  refine W.seq ?_
  refine W.region ?_
  refine WL.move rfl rfl ?_
  obtain ⟨o11, hv⟩ := hv
  refine SL.make (J := n) hS Try.underlying22 Try.el3 rfl rfl o11 (made_is _) rfl ?_
  intro A12 w13 hS
  refine WL.assign rfl rfl ?_
  refine WL.done ?_
  refine W.seq ?_
  refine W.seq ?_
  refine W.region ?_
  refine WL.assign rfl rfl ?_
  refine WL.done ?_
  refine W.block ?_
  obtain ⟨I24, μ25, hv, hk33⟩ := hv
  change St _ _ _ _ [.row 3 1 A12 n.toNat n.toNat (is (List.replicate n.toNat (0 : Int)))] at hS
  refine W.loop (σ := List Int × Int × Int) (fun q w1 => match q with | (x21, z22, z23) => I24 x21 z22 z23 ∧ St TT w none w1 [.row 3 1 A12 n.toNat n.toNat (is x21)]) (fun q => match q with | (x21, z22, z23) => [(0, .int .i64 z22), (1, .int .i64 p), (2, .int .i64 n), (6, .slice none 0 0), (7, .slice A12 n.toNat n.toNat), (8, .int .i64 z23)]) (fun q => match q with | (x21, z22, z23) => μ25 x21 z22 z23) (List.replicate n.toNat (0 : Int), x, (0 : Int)) ⟨hv, hS⟩ ⟨rfl, rfl, rfl, rfl, rfl, rfl, trivial⟩ ?_
  rintro ⟨x21, z22, z23⟩ w26 ⟨hv, hS⟩
  have hv := hk33 x21 z22 z23 hv
  refine W.seq ?_
  refine W.seq ?_
  refine W.region ?_
  refine WL.move rfl rfl ?_
  refine WL.move rfl rfl ?_
  refine WL.lssD rfl rfl rfl ?_
  refine WL.done ?_
  refine W.cond2 rfl (fun c27 => ?_) (fun c27 => ?_)
  · have hv := hv.1 (of_decide_eq_true c27)
    refine W.skip ?_
    refine W.seq ?_
    refine W.block ?_
    refine W.seq ?_
    refine W.region ?_
    refine WL.move rfl rfl ?_
    refine WL.move rfl rfl ?_
    refine WL.move rfl rfl ?_
    refine WL.move rfl rfl ?_
    obtain ⟨o28, hv⟩ := hv
    refine WL.rem (r := (z22.tmod p)) rfl rfl o28 rfl rfl ?_
    obtain ⟨o29, hv⟩ := hv
    refine SL.index Try.underlying22 Try.el3 (hS.rd (i := 0) rfl) rfl rfl o29 rfl ?_
    refine SL.store (cs' := is (si x21 z23 (z22.tmod p))) 0 z23.toNat hS rfl Try.el3 rfl rfl rfl (is_lt (hS.rd (i := 0) rfl) o29) (is_set _ _ _) ?_
    intro w30 hS
    refine WL.done ?_
    refine W.region ?_
    refine WL.move rfl rfl ?_
    refine WL.move rfl rfl ?_
    obtain ⟨o31, hv⟩ := hv
    refine WL.quo (r := (z22.tdiv p)) rfl rfl o31.1 (wr o31.2) rfl ?_
    refine WL.assign rfl rfl ?_
    refine WL.done ?_
    refine W.region ?_
    refine WL.move rfl rfl ?_
    obtain ⟨o32, hv⟩ := hv
    refine WL.add (r := (z23 + (1 : Int))) rfl rfl (wr o32) rfl ?_
    refine WL.assign rfl rfl ?_
    refine WL.done ?_
    change St _ _ _ _ [.row 3 1 A12 n.toNat n.toNat (is (si x21 z23 (z22.tmod p)))] at hS
    exact ⟨(si x21 z23 (z22.tmod p), (z22.tdiv p), (z23 + (1 : Int))), ⟨rfl, rfl, rfl, rfl, rfl, rfl, trivial⟩, hv.2, rfl, hv.1, hS⟩
  · have hv := hv.2 (of_decide_eq_false c27)
    refine W.exit ?_
    refine W.seq ?_
    refine W.region ?_
    refine WL.move rfl rfl ?_
    refine WL.assign rfl rfl ?_
    refine WL.done ?_
    refine W.ret ?_
    have hm := (hS.rd (i := 0) rfl).ilen
    have hS := hS.relen (i := 0) rfl hm.symm
    refine ⟨_, rfl, Fin.nil ?_⟩
    exact ⟨_, hS.ext, (hS.pick [0] rfl).rows, News.of (hS.pick [0] rfl).rows rfl, ⟨x21, A12, n.toNat, (by rw [hm]), rfl, hv⟩⟩
end Go.Proofs.Ytlibahphimfmjaa
set_option linter.unusedSimpArgs false
set_option linter.unusedVariables false
namespace Go.Proofs.Ytlibahphimfmjaa
open Go.RowKit
/-! ### the iterators of the program -/
theorem backward_seq {w : World} {p : Addr} {A : Option Addr} {m c : Nat} (hm : m ≤ 9223372036854775807) :
    SeqJ Try.prog 92 #[.pointer (some p)] (fun w1 => w1.cell? p = some (.slice A m c) ∧ ∃ l : List Int, ∃ B, Rd B w1 1 A m c (is l)) (fun i x w1 => ∃ v : Int, x = #[.int .i64 ((m - 1 - i : Nat) : Int), .int .i64 v] ∧ w1.cell? ((adOf A).add (m - 1 - i)) = some (.int .i64 v)) m w := by
  intro l J Jx Wn hW hJ hJx hM hY h0
  refine calls_of_W (vs := [.func (.yield l) #[] #[], .pointer (some p)]) (R := fun _ w' => J m w' ∨ ∃ i, i ≤ m ∧ Jx i w') [] Try.func92 rfl rfl rfl rfl ?_
  have hM0 := hM 0 Wn h0
  refine W.seq ?_
  refine W.region ?_
  refine WL.load Try.underlying22 rfl rfl hM0.1 rfl ?_
  refine WL.len Try.underlying22 rfl rfl ?_
  refine WL.sub (r := (m : Int) - 1) rfl rfl (wi64 (by omega) (by omega) rfl) rfl ?_
  refine WL.assign rfl rfl ?_
  refine WL.done ?_
  refine W.block ?_
  refine W.loop (σ := Nat) (fun i w1 => J i w1 ∧ i ≤ m) (fun i => [(0, .func (.yield l) #[] #[]), (1, .pointer (some p)), (3, .int .i64 ((m : Int) - 1 - i))]) (fun i => m - i) 0 ⟨h0, Nat.zero_le _⟩ ⟨rfl, rfl, iv (by omega), trivial⟩ ?_
  rintro i w1 ⟨hi, hle⟩
  obtain ⟨hMp, xs, Bx, hR⟩ := hM i w1 hi
  refine W.seq ?_
  refine W.seq ?_
  refine W.region ?_
  refine WL.move rfl rfl ?_
  refine WL.geqD rfl rfl rfl ?_
  refine WL.done ?_
  refine W.cond2 rfl (fun c => ?_) (fun c => ?_)
  · have c := of_decide_eq_true c
    have hj : (m : Int) - 1 - i = ((m - 1 - i : Nat) : Int) := by omega
    rw [hj]
    refine W.skip ?_
    refine W.seq ?_
    refine W.block ?_
    refine W.seq ?_
    refine W.region ?_
    refine WL.move rfl rfl ?_
    refine WL.move rfl rfl ?_
    refine WL.load Try.underlying22 rfl rfl hMp rfl ?_
    refine WL.move rfl rfl ?_
    refine WL.index1 (m - 1 - i) Try.underlying22 Try.el3 rfl rfl rfl (by omega) hR rfl ?_
    have hcell := hR.at_ (is_at (show m - 1 - i < xs.length by have := hR.ilen; omega))
    refine WL.load Try.underlying3 rfl rfl hcell rfl ?_
    refine WL.yield (vs := [.int .i64 ((m - 1 - i : Nat) : Int), .int .i64 (xs.getD (m - 1 - i) 0)]) rfl rfl rfl (hY i #[.int .i64 ((m - 1 - i : Nat) : Int), .int .i64 (xs.getD (m - 1 - i) 0)] w1 hi (by omega) ⟨_, rfl, hcell⟩) (fun e w' h => by rcases h with ⟨h, _⟩ | ⟨h, _⟩ <;> exact ⟨_, h⟩) ?_
    rintro v w2 (⟨hv, h⟩ | ⟨hv, h⟩)
    · cases hv
      refine WL.not rfl rfl ?_
      refine WL.done ?_
      refine W.condF rfl ?_
      refine W.skip ?_
      refine W.region ?_
      refine WL.move rfl rfl ?_
      refine WL.sub (r := (m : Int) - 1 - ((i + 1 : Nat) : Int)) rfl rfl (wi64 (by omega) (by omega) (by omega)) rfl ?_
      refine WL.assign rfl rfl ?_
      refine WL.done ?_
      exact ⟨i + 1, ⟨rfl, rfl, rfl, trivial⟩, by omega, rfl, h, by omega⟩
    · cases hv
      refine WL.not rfl rfl ?_
      refine WL.done ?_
      refine W.condT rfl ?_
      refine W.ret ?_
      exact ⟨_, rfl, Fin.nil (.inr ⟨i + 1, by omega, h⟩)⟩
  · have c := of_decide_eq_false c
    refine W.exit ?_
    have : i = m := by omega
    subst this
    exact ⟨_, rfl, Fin.nil (.inl hi)⟩
theorem elements_seq {w : World} {p ad : Addr} {q : Int} (hq : I64 q) (hp : w.cell? p = some (.pointer (some ad))) (ha : w.cell? (ad.add 3) = some (.int .i64 q)) :
    SeqJ Try.prog 86 #[.pointer (some p)] (fun _ => True) (fun i x _ => x = #[.int .i64 (i : Int)]) q.toNat w := by
  intro l J Jx Wn hW hJ hJx _ hY h0
  have hp' : Wn.cell? p = some (.pointer (some ad)) := (hW.cell (World.block_lt_of_cell? w _ hp)).trans hp
  have ha' : Wn.cell? (ad.add 3) = some (.int .i64 q) := (hW.cell (World.block_lt_of_cell? w _ ha)).trans ha
  refine calls_of_W (vs := [.func (.yield l) #[] #[], .pointer (some p)]) (R := fun _ w' => J q.toNat w' ∨ ∃ i, i ≤ q.toNat ∧ Jx i w') [] Try.func86 rfl rfl rfl rfl ?_
  refine W.seq ?_
  refine W.region ?_
  refine WL.load Try.underlying25 rfl rfl hp' rfl ?_
  refine WL.nilCheck rfl rfl ?_
  refine WL.fieldA (off := 3) Try.fla69_1 rfl rfl ?_
  refine WL.load Try.underlying3 rfl rfl ha' rfl ?_
  refine WL.move rfl rfl ?_
  refine WL.done ?_
  refine W.block ?_
  refine W.loop (σ := Nat) (fun i w1 => J i w1 ∧ i ≤ q.toNat) (fun i => [(0, .func (.yield l) #[] #[]), (7, .int .i64 q), (8, .int .i64 (i : Int))]) (fun i => q.toNat - i) 0 ⟨h0, Nat.zero_le _⟩ ⟨rfl, rfl, rfl, trivial⟩ ?_
  rintro i w1 ⟨hi, hle⟩
  refine W.seq ?_
  refine W.region ?_
  refine WL.lssD rfl rfl rfl ?_
  refine WL.done ?_
  refine W.seq ?_
  refine W.cond2 rfl (fun c => ?_) (fun c => ?_)
  · have c := of_decide_eq_true c
    refine W.skip ?_
    refine W.seq ?_
    refine W.block ?_
    refine W.seq ?_
    refine W.region ?_
    refine WL.move rfl rfl ?_
    refine WL.assign rfl rfl ?_
    refine WL.done ?_
    refine W.seq ?_
    refine W.region ?_
    refine WL.move rfl rfl ?_
    refine WL.move rfl rfl ?_
    refine WL.yield (vs := [.int .i64 (i : Int)]) rfl rfl rfl (hY i #[.int .i64 (i : Int)] w1 hi (by omega) rfl) (fun e w' h => by rcases h with ⟨h, _⟩ | ⟨h, _⟩ <;> exact ⟨_, h⟩) ?_
    rintro v w2 (⟨hv, h⟩ | ⟨hv, h⟩)
    · cases hv
      refine WL.not rfl rfl ?_
      refine WL.done ?_
      refine W.condF rfl ?_
      refine W.skip ?_
      refine W.region ?_
      refine WL.add (r := ((i + 1 : Nat) : Int)) rfl rfl (wi64 (by omega) (by have := hq.2; omega) (by omega)) rfl ?_
      refine WL.move rfl rfl ?_
      refine WL.done ?_
      exact ⟨i + 1, ⟨rfl, rfl, rfl, trivial⟩, by omega, rfl, h, by omega⟩
    · cases hv
      refine WL.not rfl rfl ?_
      refine WL.done ?_
      refine W.condT rfl ?_
      refine W.ret ?_
      exact ⟨_, rfl, Fin.nil (.inr ⟨i + 1, by omega, h⟩)⟩
  · have c := of_decide_eq_false c
    refine W.exit ?_
    have : i = q.toNat := by omega
    subst this
    exact ⟨_, rfl, Fin.nil (.inl hi)⟩
end Go.Proofs.Ytlibahphimfmjaa
set_option linter.unusedSimpArgs false
set_option linter.unusedVariables false
namespace Go.Proofs.Ytlibahphimfmjaa
open Go.RowKit
/-! ### a field in memory -/
structure GFv where
  P : Int
  M : Int
  mod : List Int
  q : Int
  exp : List Int
  log : List Int
  above : List Int
def GFR (B : Nat) (w : World) (ad : Addr) (F : GFv) : Prop := ∃ A1 k1 A2 k2 A3 k3 A4 k4,
  Rd B w 7 (some ad) 1 1 [.int .i64 F.P, .int .i64 F.M, .slice A1 F.mod.length k1, .int .i64 F.q, .slice A2 F.exp.length k2, .slice A3 F.log.length k3, .slice A4 F.above.length k4] ∧
  Rd B w 1 A1 F.mod.length k1 (is F.mod) ∧ Rd B w 1 A2 F.exp.length k2 (is F.exp) ∧ Rd B w 1 A3 F.log.length k3 (is F.log) ∧ Rd B w 1 A4 F.above.length k4 (is F.above)
theorem GFR.ext {B : Nat} {w w' : World} {ad : Addr} {F : GFv} (h : GFR B w ad F) (hg : w.grownBy w' none) : GFR B w' ad F := by
  obtain ⟨A1, k1, A2, k2, A3, k3, A4, k4, h1, h2, h3, h4, h5⟩ := h
  exact ⟨A1, k1, A2, k2, A3, k3, A4, k4, h1.ext hg, h2.ext hg, h3.ext hg, h4.ext hg, h5.ext hg⟩
/-- A field that lies between two blocks. -/
def GFX (lo B : Nat) (w : World) (ad : Addr) (F : GFv) : Prop := ∃ A1 k1 A2 k2 A3 k3 A4 k4,
  (Rd B w 7 (some ad) 1 1 [.int .i64 F.P, .int .i64 F.M, .slice A1 F.mod.length k1, .int .i64 F.q, .slice A2 F.exp.length k2, .slice A3 F.log.length k3, .slice A4 F.above.length k4] ∧ lo ≤ ad.block) ∧
  (Rd B w 1 A1 F.mod.length k1 (is F.mod) ∧ ∀ g, bl A1 = some g → lo ≤ g) ∧ (Rd B w 1 A2 F.exp.length k2 (is F.exp) ∧ ∀ g, bl A2 = some g → lo ≤ g) ∧ (Rd B w 1 A3 F.log.length k3 (is F.log) ∧ ∀ g, bl A3 = some g → lo ≤ g) ∧ (Rd B w 1 A4 F.above.length k4 (is F.above) ∧ ∀ g, bl A4 = some g → lo ≤ g)
theorem GFX.gfr {lo B : Nat} {w : World} {ad : Addr} {F : GFv} (h : GFX lo B w ad F) : GFR B w ad F := by
  obtain ⟨A1, k1, A2, k2, A3, k3, A4, k4, h1, h2, h3, h4, h5⟩ := h
  exact ⟨A1, k1, A2, k2, A3, k3, A4, k4, h1.1, h2.1, h3.1, h4.1, h5.1⟩
theorem Rd.steady {lo B : Nat} {w w' : World} {z : Nat} {A : Option Addr} {m c : Nat} {cs : List Value} (h : Rd B w z A m c cs) (hl : ∀ g, bl A = some g → lo ≤ g) (hw : ∀ k, lo ≤ k → k < B → w'.heap[k]? = w.heap[k]?) : Rd B w' z A m c cs :=
  ⟨h.len, h.cap, h.max, fun hm => by
    obtain ⟨ad, e1, e2, e3⟩ := h.cells hm
    refine ⟨ad, e1, e2, fun j u hu => (World.cell?_of_block (hw _ ?_ ?_)).trans (e3 j u hu)⟩
    · rw [block_add]; exact hl _ (by rw [e1]; rfl)
    · rw [block_add]; exact e2⟩
theorem GFX.steady {lo B : Nat} {ad : Addr} {F : GFv} : Steady lo B (fun w => GFX lo B w ad F) := by
  rintro w w' hw ⟨A1, k1, A2, k2, A3, k3, A4, k4, h1, h2, h3, h4, h5⟩
  exact ⟨A1, k1, A2, k2, A3, k3, A4, k4, ⟨h1.1.steady (fun g hg => by cases hg; exact h1.2) hw, h1.2⟩, ⟨h2.1.steady h2.2 hw, h2.2⟩, ⟨h3.1.steady h3.2 hw, h3.2⟩, ⟨h4.1.steady h4.2 hw, h4.2⟩, ⟨h5.1.steady h5.2 hw, h5.2⟩⟩
theorem gfx_mk {lo B : Nat} {w : World} {ad : Addr} {F : GFv} {A1 A2 A3 A4 : Option Addr} {k1 k2 k3 k4 n1 n2 n3 n4 : Nat}
    (h : Rd B w 7 (some ad) 1 1 [.int .i64 F.P, .int .i64 F.M, .slice A1 n1 k1, .int .i64 F.q, .slice A2 n2 k2, .slice A3 n3 k3, .slice A4 n4 k4]) (hl : lo ≤ ad.block)
    (h1 : Rd B w 1 A1 n1 k1 (is F.mod) ∧ ∀ g, bl A1 = some g → lo ≤ g) (h2 : Rd B w 1 A2 n2 k2 (is F.exp) ∧ ∀ g, bl A2 = some g → lo ≤ g) (h3 : Rd B w 1 A3 n3 k3 (is F.log) ∧ ∀ g, bl A3 = some g → lo ≤ g) (h4 : Rd B w 1 A4 n4 k4 (is F.above) ∧ ∀ g, bl A4 = some g → lo ≤ g) : GFX lo B w ad F := by
  have e1 := h1.1.ilen; have e2 := h2.1.ilen; have e3 := h3.1.ilen; have e4 := h4.1.ilen
  subst e1; subst e2; subst e3; subst e4
  exact ⟨A1, k1, A2, k2, A3, k3, A4, k4, ⟨h, hl⟩, h1, h2, h3, h4⟩
theorem St.base {X : World → Prop} {w0 w : World} {R : List Rw} {i e z m c : Nat} {A : Option Addr} {cs : List Value} (h : St X w0 none w R) (hi : R[i]? = some (.row e z A m c cs)) : ∀ g, bl A = some g → w0.heap.size ≤ g := fun g hg => ((h.rows.get hi).2 g hg).resolve_right (by simp)
theorem GFR.norm {B : Nat} {w : World} {ad : Addr} {F : GFv} (h : GFR B w ad F) : GFR w.heap.size w ad F := by
  obtain ⟨A1, k1, A2, k2, A3, k3, A4, k4, h1, h2, h3, h4, h5⟩ := h
  exact ⟨A1, k1, A2, k2, A3, k3, A4, k4, h1.norm, h2.norm, h3.norm, h4.norm, h5.norm⟩
end Go.Proofs.Ytlibahphimfmjaa
