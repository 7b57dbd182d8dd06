/- Contracts of functions of the program, and what they lean on. -/
import Derived.Test.YthfpcebcfjlkmabSt
import Derived.Test.YthfpcebcfjlkmabEntry
set_option linter.unusedSimpArgs false
set_option linter.unusedVariables false
namespace Go.Proofs.Ythfpcebcfjlkmab
open Go.RowKit
/-! ### variables of struct type -/
def aggB (P : Program) (t : Nat) : Bool := match P.underlying t with | some (.struct _) => true | some (.array _ _) => true | _ => false
theorem isAgg_of {P : Program} {t : Nat} (h : aggB P t = true) (w : World) : (isAgg t).run P w = .ok true w := by
  unfold aggB at h
  cases hu : P.underlying t with
  | none => rw [hu] at h; cases h
  | some D =>
    rw [hu] at h
    simp only [isAgg, Sem.run_bind, run_underlying hu, Result.andThen_ok]
    cases D <;> simp_all
theorem run_loadV {P : Program} {w : World} {t z by_ : Nat} {zero : Value} {p : Addr} {cs : List Value} (he : Elem P t z by_ zero) (ha : aggB P t = true) (hl : cs.length = z) (hc : ∀ j u, cs[j]? = some u → w.cell? (p.add j) = some u) :
    (loadVar t p).run P w = .ok (.agg cs.toArray) w := by
  obtain ⟨inf, i1, i2, i3, i4⟩ := he.ex
  have h := run_loadCells_list (P := P) w p cs hc
  rw [hl] at h
  simp [loadVar, Sem.run_bind, isAgg_of ha, sizeOf, typeInfo, i1, i3, h]
theorem Own.vcells {b : Nat} {w : World} {e z g : Nat} {cs : List Value} (h : Own b w e z (some ⟨g, 0, none⟩) 1 1 cs) : ∀ j u, cs[j]? = some u → w.cell? ((⟨g, 0, none⟩ : Addr).add j) = some u := fun j u hu => h.rd.at_ hu
/-- A field's place: one that is no empty one. -/
def fldA (P : Program) (t f off : Nat) : Bool :=
  match P.underlying t with
  | some (.struct fs) =>
    match fs[f]? with
    | some fd => fd.offset == off && (match P.info? fd.type with | some i => i.size != 0 | none => false)
    | none => false
  | _ => false
theorem run_fieldAt {P : Program} {w : World} {t f off : Nat} {p : Addr} (h : fldA P t f off = true) : (Instr.fieldAt t (.pointer (some p)) f).run P w = .ok (.pointer (some (p.add off))) w := by
  unfold fldA at h
  split at h
  · rename_i fs hu
    split at h
    · rename_i fd hfd
      simp only [Bool.and_eq_true, beq_iff_eq] at h
      obtain ⟨ho, hk⟩ := h
      subst ho
      cases hi : P.info? fd.type with
      | none => rw [hi] at hk; cases hk
      | some i =>
        rw [hi] at hk
        have hk' : i.size ≠ 0 := by simpa using hk
        simp [Instr.fieldAt, run_underlying hu, hfd, Instr.sureAddr, fieldPlace, sizeOf, typeInfo, hi, hk']
    · cases h
  · cases h
theorem apart {g h : Nat} (hn : g ≠ h) : ∀ k, bl (some ⟨h, 0, none⟩) = some k → bl (some ⟨g, 0, none⟩) ≠ some k := fun k e1 e2 => by
  simp only [bl, Option.map_some, Option.some.injEq] at e1 e2
  omega
theorem ap_row {A : Option Addr} {g : Nat} (h : ∀ k, bl A = some k → k ≠ g) : ∀ k, bl (some ⟨g, 0, none⟩) = some k → bl A ≠ some k := fun k e1 e2 => by
  simp only [bl, Option.map_some, Option.some.injEq] at e1
  exact h k e2 e1.symm
theorem ap_var {A : Option Addr} {g : Nat} (h : ∀ k, bl A = some k → k ≠ g) : ∀ k, bl A = some k → bl (some ⟨g, 0, none⟩) ≠ some k := fun k e1 e2 => by
  simp only [bl, Option.map_some, Option.some.injEq] at e2
  exact h k e1 e2.symm
theorem ap_new {b : Nat} {w : World} {e z m c : Nat} {A : Option Addr} {cs : List Value} {g : Nat} (h : Own b w e z A m c cs) (hg : g < b) : ∀ k, bl A = some k → k ≠ g := fun k hk => by
  have := (h.bl_ge k hk).1; omega
theorem ap_old {b : Nat} {w : World} {e z m c : Nat} {A : Option Addr} {cs : List Value} {g : Nat} (h : Own b w e z A m c cs) (hg : g = w.heap.size) : ∀ k, bl A = some k → k ≠ g := fun k hk => by
  have := (h.bl_ge k hk).2; omega
theorem own_new (w : World) (t z : Nat) (cs : Array Value) (hz : cs.size = z) : Own w.heap.size (w.alloc (.cells cs t)) t z (some ⟨w.heap.size, 0, none⟩) 1 1 cs.toList :=
  World.ownsRow_lit (e := t) (size := z) w cs 1 (Nat.le_refl _) (by simp [maxLen]) (by simpa using hz)

section
variable {P : Program} {n : Nat} {N : Post} {L : Fr} {w : World} {ops : Array Oper} {rest : List Oper}
variable {d : Nat} {ty : TypeId} {pos : String} {af : Array Edge}
theorem WL.alloc {t z by_ : Nat} {zero : Value} (he : Elem P t z by_ zero) (hn : Nat.blt d n = true)
    (h : ∀ g w', g = w.heap.size → Own w.heap.size w' t z (some ⟨g, 0, none⟩) 1 1 zero.cells.toList → w.grownBy w' none → WL P n ops rest N ((d, .pointer (some ⟨g, 0, none⟩)) :: L) w') :
    WL P n ops (⟨some d, .alloc t, ty, pos, af, none⟩ :: rest) N L w := by
  obtain ⟨inf, i1, i2, i3, i4⟩ := he.ex
  refine WL.val rfl rfl hn (fun a ha => ?_) (h _ _ rfl (own_new w t z zero.cells he.zs) (World.grownBy_alloc w _ none))
  simp [execOp, Instr.alloc, zeroValue, typeInfo, i1, i2, newVar, newRow]
theorem WL.box {x : Operand} {t z by_ : Nat} {zero : Value} {cs : Array Value} (he : Elem P t z by_ zero) (hx : ev L x = some (.agg cs)) (hz : cs.size = z) (hn : Nat.blt d n = true)
    (h : ∀ g w', g = w.heap.size → Own w.heap.size w' t z (some ⟨g, 0, none⟩) 1 1 cs.toList → w.grownBy w' none → WL P n ops rest N ((d, .pointer (some ⟨g, 0, none⟩)) :: L) w') :
    WL P n ops (⟨some d, .box t x, ty, pos, af, none⟩ :: rest) N L w := by
  refine WL.val rfl rfl hn (fun a ha => ?_) (h _ _ rfl (own_new w t z cs hz) (World.grownBy_alloc w _ none))
  simp [execOp, ha.ev hx, Instr.box, newVar, newRow, Value.cells]
theorem WL.loadV {x : Operand} {t z by_ : Nat} {zero : Value} {p : Addr} {cs : List Value} (he : Elem P t z by_ zero) (hag : aggB P t = true) (hx : ev L x = some (.pointer (some p))) (hl : cs.length = z) (hc : ∀ j u, cs[j]? = some u → w.cell? (p.add j) = some u)
    (hn : Nat.blt d n = true) (h : WL P n ops rest N ((d, .agg cs.toArray) :: L) w) : WL P n ops (⟨some d, .load t x, ty, pos, af, none⟩ :: rest) N L w :=
  WL.val rfl rfl hn (fun a ha => by simp [execOp, ha.ev hx, Instr.loadAt, Instr.sureAddr, run_loadV he hag hl hc]) h
theorem WL.fieldA {x : Operand} {t f off : Nat} {p : Addr} (hF : fldA P t f off = true) (hx : ev L x = some (.pointer (some p))) (hn : Nat.blt d n = true)
    (h : WL P n ops rest N ((d, .pointer (some (p.add off))) :: L) w) : WL P n ops (⟨some d, .fieldAddr t x f, ty, pos, af, none⟩ :: rest) N L w :=
  WL.val rfl rfl hn (fun a ha => by simp [execOp, ha.ev hx, run_fieldAt hF]) h
theorem WL.storeV {x y : Operand} {t e z by_ b g : Nat} {zero : Value} {cells : Array Value} {old : List Value} (he : Elem P t z by_ zero) (hx : ev L x = some (.pointer (some ⟨g, 0, none⟩))) (hy : ev L y = some (.agg cells)) (hz : cells.size = z)
    (h1 : cells.toList.all (·.oneCell') = true) (hO : Own b w e z (some ⟨g, 0, none⟩) 1 1 old)
    (h : ∀ w', Own b w' e z (some ⟨g, 0, none⟩) 1 1 cells.toList → w.grownBy w' (bl (some ⟨g, 0, none⟩)) → WL P n ops rest N L w') : WL P n ops (⟨none, .store t x y, ty, pos, af, none⟩ :: rest) N L w := by
  obtain ⟨inf, i1, i2, i3, i4⟩ := he.ex
  obtain ⟨hl, hO2⟩ := hO
  rcases hO2 with ⟨hx0, _⟩ | ⟨g', cap, cur, hg1, hg2, hg3, hg4, hg5, hg6, hg7⟩
  · cases hx0
  · cases hg1
    have hcz : cur.size = cells.size := by rw [hg6, hz, Nat.one_mul]
    have hrun := run_storeVar_row (P := P) w g e t cur cells hg3 (by simp [i1, i3, hz]) hcz (by rw [← Array.all_toList]; exact h1)
    refine WL.act (w' := w.setRow g cells) rfl rfl (fun a ha => by simp [execOp, ha.ev hx, ha.ev hy, Instr.storeAt, Instr.sureAddr, hrun]) (h _ ?_ ?_)
    · refine ⟨by simp [hz], .inr ⟨g, 1, cells, rfl, hg2, setRow_heap w g cur cells e _ hg3, Nat.le_refl _, by simp [maxLen], by simp [hz], ?_⟩⟩
      rw [Nat.one_mul, ← hz, ← Array.length_toList, List.take_length]
    · refine ⟨rfl, rfl, rfl, Nat.le_of_eq (setRow_size w g cells).symm, fun k hk hr => setRow_other w g k cells (fun e => hr (by rw [e]; rfl))⟩
/-- A store into one cell of a variable. -/
theorem WL.storeF {x y : Operand} {t e z by_ b g j : Nat} {zero v : Value} {cs : List Value} (he : Elem P t 1 by_ zero) (hx : ev L x = some (.pointer (some ((⟨g, 0, none⟩ : Addr).add j)))) (hy : ev L y = some v) (h1 : v.oneCell' = true) (hj : Nat.blt j cs.length = true)
    (hO : Own b w e z (some ⟨g, 0, none⟩) 1 1 cs)
    (h : ∀ w', Own b w' e z (some ⟨g, 0, none⟩) 1 1 (cs.set j v) → w.grownBy w' (bl (some ⟨g, 0, none⟩)) → WL P n ops rest N L w') : WL P n ops (⟨none, .store t x y, ty, pos, af, none⟩ :: rest) N L w := by
  obtain ⟨inf, i1, i2, i3, i4⟩ := he.ex
  have hj' : j < cs.length := by simpa [Nat.blt_eq] using hj
  have hs := World.ownsRow.stored hO j v
  have hO2 := hO
  obtain ⟨hl, hO3⟩ := hO2
  rcases hO3 with ⟨hx0, _⟩ | ⟨g', cap, cur, hg1, hg2, hg3, hg4, hg5, hg6, hg7⟩
  · cases hx0
  · cases hg1
    have hadd : (⟨g, 0, none⟩ : Addr).add j = ⟨g, j, none⟩ := by unfold Addr.add; simp; intro h; exact h.symm
    have hjc : j < cur.size := by rw [hg6, ← hl]; exact hj'
    have hce : w.cell? ⟨g, j, none⟩ = some cur[j] := by simp [World.cell?, hg3, hjc]
    have hfr : w.frozen? ⟨g, j, none⟩ = false := by simp [World.frozen?, hg3]
    have hcs : v.cells = #[v] := by cases v <;> simp_all [Value.cells, Value.oneCell']
    rw [hadd] at hx
    have hz : (⟨g, j, none⟩ : Addr).add 0 = ⟨g, j, none⟩ := rfl
    refine WL.act (w' := w.setCell ⟨g, j, none⟩ v) rfl rfl (fun a ha => ?_) (h _ hs.1 hs.2)
    simp [execOp, ha.ev hx, ha.ev hy, Instr.storeAt, Instr.sureAddr, storeVar, sizeOf, typeInfo, i1, i3, hcs, storeCells, run_store _ _ _ _ _ h1, hce, hfr, hz]
/-- The call of a function value. -/
theorem WL.callv {x : Operand} {f : FuncId} {fn : Func} {c : Code} {xs : List Operand} {ts : Array TypeId} {vs : List Value} {R : Value → World → Prop} (hfv : ev L x = some (.func (.func f) #[] #[])) (hf : P.funcs[f]? = some fn) (hb : fn.body = some c) (hnm : (fn.name == "runtime.NumGoroutine") = false)
    (hx : evs L xs = some vs) (hn : Nat.blt d n = true)
    (hc : Calls P f vs.toArray w fun e w' => ∃ v, e = .returned v ∧ R v w') (h : ∀ v w', R v w' → WL P n ops rest N ((d, v) :: L) w') :
    WL P n ops (⟨some d, .call ⟨.value x, xs.toArray, ts⟩, ty, pos, af, none⟩ :: rest) N L w := by
  refine WL.enter rfl rfl hn (fun a ha => ?_) hc h
  have hm := ha.evs hx
  have hfe := ha.ev hfv
  have hnm' : ¬ fn.name = "runtime.NumGoroutine" := by simpa using hnm
  simp only [execOp, resolve, Sem.run_bind]
  simp [Deferred.ofValue, hfe, invoke, callFunc, hm, program, Sem.run, hf, hb, hnm']
end

/-! ### results that are read out of variables -/
def resC (P : Program) (L : Fr) (w : World) : List ResultVar → List Value → Prop
  | [], vs => vs = []
  | .tmp t :: r, vs => ∃ v us, vs = v :: us ∧ lk L t = some v ∧ resC P L w r us
  | .cell a ty :: r, vs => ∃ p v us, vs = v :: us ∧ lk L a = some (.pointer (some p)) ∧ (loadVar ty p).run P w = .ok v w ∧ resC P L w r us
def resV : List Value → Value
  | [v] => v
  | vs => .tuple vs.toArray
def endCN (P : Program) (res : List ResultVar) (R : Value → World → Prop) : Post := fun L w => ∃ vs, resC P L w res vs ∧ R (resV vs) w
def endC (P : Program) (res : List ResultVar) (R : Value → World → Prop) : BPost
  | .ret, L, w => ∃ vs, resC P L w res vs ∧ R (resV vs) w
  | _, _, _ => False
theorem run_resC {P : Program} {a : Act} {n : Nat} {L : Fr} {w : World} (ha : Has n a L) (g : ResultVar → Sem Value) (hg : ∀ t, g (.tmp t) = pure (a.tmps.getD t undef)) (hg2 : ∀ p t, g (.cell p t) = (do loadVar t (← asAddr (a.tmps.getD p undef)))) :
    ∀ (res : List ResultVar) (vs : List Value), resC P L w res vs → (List.mapM g res).run P w = .ok vs w
  | [], vs, h => by cases h; rfl
  | .tmp t :: r, vs, h => by
    obtain ⟨v, us, rfl, h1, h2⟩ := h
    have ih := run_resC ha g hg hg2 r us h2
    have hv : a.tmps.getD t undef = v := by simp [Array.getD_eq_getD_getElem?, ha.at_ t v h1]
    rw [List.mapM_cons, Sem.run_bind, hg, Sem.run_pure, Result.andThen_ok, Sem.run_bind, ih, hv]
    rfl
  | .cell p ty :: r, vs, h => by
    obtain ⟨q, v, us, rfl, h1, h2, h3⟩ := h
    have ih := run_resC ha g hg hg2 r us h3
    have hv : a.tmps.getD p undef = .pointer (some q) := by simp [Array.getD_eq_getD_getElem?, ha.at_ p _ h1]
    rw [List.mapM_cons, Sem.run_bind, hg2, hv]
    have : (do loadVar ty (← asAddr (.pointer (some q))) : Sem Value).run P w = .ok v w := by simp [asAddr, h2]
    rw [this, Result.andThen_ok, Sem.run_bind, ih]
    rfl
theorem run_resultsC {P : Program} {fn : Func} {res : List ResultVar} {a : Act} {n : Nat} {L : Fr} {vs : List Value} {w : World} (hres : fn.results = res.toArray) (ha : Has n a L) (hv : resC P L w res vs) : (results fn a.tmps).run P w = .ok (resV vs) w := by
  unfold results
  rw [Sem.run_bind, hres, List.mapM_toArray, Sem.run_map, run_resC ha _ (fun _ => rfl) (fun _ _ => rfl) res vs hv]
  simp only [Result.andThen_ok]
  match vs with
  | [] => simp [resV]
  | [v] => simp [resV]
  | v :: u :: us => simp [resV]
theorem calls_of_Wc {P : Program} {f : FuncId} {fn : Func} {c : Code} {n : Nat} {vs : List Value} {R : Value → World → Prop} {w : World} (res : List ResultVar) (hf : P.funcs[f]? = some fn) (hb : fn.body = some c) (hn : fn.ntmps = n)
    (hres : fn.results = res.toArray) (hle : Nat.ble vs.length n = true) (h : W P n c (endCN P res R) (endC P res R) (args0 0 vs) w) : Calls P f vs.toArray w fun e w' => ∃ v, e = .returned v ∧ R v w' := by
  have hle' : vs.length ≤ n := by simpa [Nat.ble_eq] using hle
  refine calls_of_wp hf hb (wp_mono (h.out _ ⟨rfl, by simp [hn]; omega, fun t v hv => ?_⟩) fun e a w' q => ?_)
  · obtain ⟨_, h2⟩ := args0_at vs 0 t v hv
    have ht : t < vs.length := (List.getElem?_eq_some_iff.1 h2).1
    rw [Array.getElem?_append_left (by simpa using ht)]
    simpa using h2
  · cases e with
    | normal =>
      obtain ⟨L, hL, us, hv, hR⟩ := q
      exact ⟨hL.nd, _, run_resultsC hres hL hv, _, rfl, hR⟩
    | ret =>
      obtain ⟨L, hL, us, hv, hR⟩ := q
      exact ⟨hL.nd, _, run_resultsC hres hL hv, _, rfl, hR⟩
    | _ => obtain ⟨L, _, h⟩ := q; exact h.elim
end Go.Proofs.Ythfpcebcfjlkmab
