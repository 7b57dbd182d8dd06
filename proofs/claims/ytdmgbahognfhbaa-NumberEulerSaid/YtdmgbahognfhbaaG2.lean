/- Contracts of functions of the program, and what they lean on: Vr, Ap, Sc, Se, Facts, Nn, Bl, Pw, Ch, Nm, Va, Ne, Ii, Nx. -/
import Derived.Test.YtdmgbahognfhbaaG1
import Derived.Scope
import Derived.Laws.StructEq
import Derived.Test.YtdmgbahognfhbaaProg
set_option linter.unusedSimpArgs false
set_option linter.unusedVariables false
namespace Go.Proofs.Ytdmgbahognfhbaa
open Go.RowKit
/-! ### variables of struct type -/
def aggB (P : Program) (t : Nat) : Bool := match P.underlying t with | some (.struct _) => true | some (.array _ _) => true | _ => false
theorem isAgg_of {P : Program} {t : Nat} (h : aggB P t = true) (w : World) : (isAgg t).run P w = .ok true w := by
  unfold aggB at h
  cases hu : P.underlying t with
  | none => rw [hu] at h; cases h
  | some D =>
    rw [hu] at h
    simp only [isAgg, Sem.run_bind, run_underlying hu, Result.andThen_ok]
    cases D <;> simp_all
theorem run_loadV {P : Program} {w : World} {t z by_ : Nat} {zero : Value} {p : Addr} {cs : List Value} (he : Elem P t z by_ zero) (ha : aggB P t = true) (hl : cs.length = z) (hc : ∀ j u, cs[j]? = some u → w.cell? (p.add j) = some u) :
    (loadVar t p).run P w = .ok (.agg cs.toArray) w := by
  obtain ⟨inf, i1, i2, i3, i4⟩ := he.ex
  have h := run_loadCells_list (P := P) w p cs hc
  rw [hl] at h
  simp [loadVar, Sem.run_bind, isAgg_of ha, sizeOf, typeInfo, i1, i3, h]
theorem Own.vcells {b : Nat} {w : World} {e z g : Nat} {cs : List Value} (h : Own b w e z (some ⟨g, 0, none⟩) 1 1 cs) : ∀ j u, cs[j]? = some u → w.cell? ((⟨g, 0, none⟩ : Addr).add j) = some u := fun j u hu => h.rd.at_ hu
/-- A field's place: one that is no empty one. -/
def fldA (P : Program) (t f off : Nat) : Bool :=
  match P.underlying t with
  | some (.struct fs) =>
    match fs[f]? with
    | some fd => fd.offset == off && (match P.info? fd.type with | some i => i.size != 0 | none => false)
    | none => false
  | _ => false
theorem run_fieldAt {P : Program} {w : World} {t f off : Nat} {p : Addr} (h : fldA P t f off = true) : (Instr.fieldAt t (.pointer (some p)) f).run P w = .ok (.pointer (some (p.add off))) w := by
  unfold fldA at h
  split at h
  · rename_i fs hu
    split at h
    · rename_i fd hfd
      simp only [Bool.and_eq_true, beq_iff_eq] at h
      obtain ⟨ho, hk⟩ := h
      subst ho
      cases hi : P.info? fd.type with
      | none => rw [hi] at hk; cases hk
      | some i =>
        rw [hi] at hk
        have hk' : i.size ≠ 0 := by simpa using hk
        simp [Instr.fieldAt, run_underlying hu, hfd, Instr.sureAddr, fieldPlace, sizeOf, typeInfo, hi, hk']
    · cases h
  · cases h
theorem apart {g h : Nat} (hn : g ≠ h) : ∀ k, bl (some ⟨h, 0, none⟩) = some k → bl (some ⟨g, 0, none⟩) ≠ some k := fun k e1 e2 => by
  simp only [bl, Option.map_some, Option.some.injEq] at e1 e2
  omega
theorem ap_row {A : Option Addr} {g : Nat} (h : ∀ k, bl A = some k → k ≠ g) : ∀ k, bl (some ⟨g, 0, none⟩) = some k → bl A ≠ some k := fun k e1 e2 => by
  simp only [bl, Option.map_some, Option.some.injEq] at e1
  exact h k e2 e1.symm
theorem ap_var {A : Option Addr} {g : Nat} (h : ∀ k, bl A = some k → k ≠ g) : ∀ k, bl A = some k → bl (some ⟨g, 0, none⟩) ≠ some k := fun k e1 e2 => by
  simp only [bl, Option.map_some, Option.some.injEq] at e2
  exact h k e1 e2.symm
theorem ap_new {b : Nat} {w : World} {e z m c : Nat} {A : Option Addr} {cs : List Value} {g : Nat} (h : Own b w e z A m c cs) (hg : g < b) : ∀ k, bl A = some k → k ≠ g := fun k hk => by
  have := (h.bl_ge k hk).1; omega
theorem ap_old {b : Nat} {w : World} {e z m c : Nat} {A : Option Addr} {cs : List Value} {g : Nat} (h : Own b w e z A m c cs) (hg : g = w.heap.size) : ∀ k, bl A = some k → k ≠ g := fun k hk => by
  have := (h.bl_ge k hk).2; omega
theorem own_new (w : World) (t z : Nat) (cs : Array Value) (hz : cs.size = z) : Own w.heap.size (w.alloc (.cells cs t)) t z (some ⟨w.heap.size, 0, none⟩) 1 1 cs.toList :=
  World.ownsRow_lit (e := t) (size := z) w cs 1 (Nat.le_refl _) (by simp [maxLen]) (by simpa using hz)

section
variable {P : Program} {n : Nat} {N : Post} {L : Fr} {w : World} {ops : Array Oper} {rest : List Oper}
variable {d : Nat} {ty : TypeId} {pos : String} {af : Array Edge}
theorem WL.alloc {t z by_ : Nat} {zero : Value} (he : Elem P t z by_ zero) (hn : Nat.blt d n = true)
    (h : ∀ g w', g = w.heap.size → Own w.heap.size w' t z (some ⟨g, 0, none⟩) 1 1 zero.cells.toList → w.grownBy w' none → WL P n ops rest N ((d, .pointer (some ⟨g, 0, none⟩)) :: L) w') :
    WL P n ops (⟨some d, .alloc t, ty, pos, af, none⟩ :: rest) N L w := by
  obtain ⟨inf, i1, i2, i3, i4⟩ := he.ex
  refine WL.val rfl rfl hn (fun a ha => ?_) (h _ _ rfl (own_new w t z zero.cells he.zs) (World.grownBy_alloc w _ none))
  simp [execOp, Instr.alloc, zeroValue, typeInfo, i1, i2, newVar, newRow]
theorem WL.box {x : Operand} {t z by_ : Nat} {zero : Value} {cs : Array Value} (he : Elem P t z by_ zero) (hx : ev L x = some (.agg cs)) (hz : cs.size = z) (hn : Nat.blt d n = true)
    (h : ∀ g w', g = w.heap.size → Own w.heap.size w' t z (some ⟨g, 0, none⟩) 1 1 cs.toList → w.grownBy w' none → WL P n ops rest N ((d, .pointer (some ⟨g, 0, none⟩)) :: L) w') :
    WL P n ops (⟨some d, .box t x, ty, pos, af, none⟩ :: rest) N L w := by
  refine WL.val rfl rfl hn (fun a ha => ?_) (h _ _ rfl (own_new w t z cs hz) (World.grownBy_alloc w _ none))
  simp [execOp, ha.ev hx, Instr.box, newVar, newRow, Value.cells]
theorem WL.loadV {x : Operand} {t z by_ : Nat} {zero : Value} {p : Addr} {cs : List Value} (he : Elem P t z by_ zero) (hag : aggB P t = true) (hx : ev L x = some (.pointer (some p))) (hl : cs.length = z) (hc : ∀ j u, cs[j]? = some u → w.cell? (p.add j) = some u)
    (hn : Nat.blt d n = true) (h : WL P n ops rest N ((d, .agg cs.toArray) :: L) w) : WL P n ops (⟨some d, .load t x, ty, pos, af, none⟩ :: rest) N L w :=
  WL.val rfl rfl hn (fun a ha => by simp [execOp, ha.ev hx, Instr.loadAt, Instr.sureAddr, run_loadV he hag hl hc]) h
theorem WL.fieldA {x : Operand} {t f off : Nat} {p : Addr} (hF : fldA P t f off = true) (hx : ev L x = some (.pointer (some p))) (hn : Nat.blt d n = true)
    (h : WL P n ops rest N ((d, .pointer (some (p.add off))) :: L) w) : WL P n ops (⟨some d, .fieldAddr t x f, ty, pos, af, none⟩ :: rest) N L w :=
  WL.val rfl rfl hn (fun a ha => by simp [execOp, ha.ev hx, run_fieldAt hF]) h
theorem WL.storeV {x y : Operand} {t e z by_ b g : Nat} {zero : Value} {cells : Array Value} {old : List Value} (he : Elem P t z by_ zero) (hx : ev L x = some (.pointer (some ⟨g, 0, none⟩))) (hy : ev L y = some (.agg cells)) (hz : cells.size = z)
    (h1 : cells.toList.all (·.oneCell') = true) (hO : Own b w e z (some ⟨g, 0, none⟩) 1 1 old)
    (h : ∀ w', Own b w' e z (some ⟨g, 0, none⟩) 1 1 cells.toList → w.grownBy w' (bl (some ⟨g, 0, none⟩)) → WL P n ops rest N L w') : WL P n ops (⟨none, .store t x y, ty, pos, af, none⟩ :: rest) N L w := by
  obtain ⟨inf, i1, i2, i3, i4⟩ := he.ex
  obtain ⟨hl, hO2⟩ := hO
  rcases hO2 with ⟨hx0, _⟩ | ⟨g', cap, cur, hg1, hg2, hg3, hg4, hg5, hg6, hg7⟩
  · cases hx0
  · cases hg1
    have hcz : cur.size = cells.size := by rw [hg6, hz, Nat.one_mul]
    have hrun := run_storeVar_row (P := P) w g e t cur cells hg3 (by simp [i1, i3, hz]) hcz (by rw [← Array.all_toList]; exact h1)
    refine WL.act (w' := w.setRow g cells) rfl rfl (fun a ha => by simp [execOp, ha.ev hx, ha.ev hy, Instr.storeAt, Instr.sureAddr, hrun]) (h _ ?_ ?_)
    · refine ⟨by simp [hz], .inr ⟨g, 1, cells, rfl, hg2, setRow_heap w g cur cells e _ hg3, Nat.le_refl _, by simp [maxLen], by simp [hz], ?_⟩⟩
      rw [Nat.one_mul, ← hz, ← Array.length_toList, List.take_length]
    · refine ⟨rfl, rfl, rfl, Nat.le_of_eq (setRow_size w g cells).symm, fun k hk hr => setRow_other w g k cells (fun e => hr (by rw [e]; rfl))⟩
/-- A store into one cell of a variable. -/
theorem WL.storeF {x y : Operand} {t e z by_ b g j : Nat} {zero v : Value} {cs : List Value} (he : Elem P t 1 by_ zero) (hx : ev L x = some (.pointer (some ((⟨g, 0, none⟩ : Addr).add j)))) (hy : ev L y = some v) (h1 : v.oneCell' = true) (hj : Nat.blt j cs.length = true)
    (hO : Own b w e z (some ⟨g, 0, none⟩) 1 1 cs)
    (h : ∀ w', Own b w' e z (some ⟨g, 0, none⟩) 1 1 (cs.set j v) → w.grownBy w' (bl (some ⟨g, 0, none⟩)) → WL P n ops rest N L w') : WL P n ops (⟨none, .store t x y, ty, pos, af, none⟩ :: rest) N L w := by
  obtain ⟨inf, i1, i2, i3, i4⟩ := he.ex
  have hj' : j < cs.length := by simpa [Nat.blt_eq] using hj
  have hs := World.ownsRow.stored hO j v
  have hO2 := hO
  obtain ⟨hl, hO3⟩ := hO2
  rcases hO3 with ⟨hx0, _⟩ | ⟨g', cap, cur, hg1, hg2, hg3, hg4, hg5, hg6, hg7⟩
  · cases hx0
  · cases hg1
    have hadd : (⟨g, 0, none⟩ : Addr).add j = ⟨g, j, none⟩ := by unfold Addr.add; simp; intro h; exact h.symm
    have hjc : j < cur.size := by rw [hg6, ← hl]; exact hj'
    have hce : w.cell? ⟨g, j, none⟩ = some cur[j] := by simp [World.cell?, hg3, hjc]
    have hfr : w.frozen? ⟨g, j, none⟩ = false := by simp [World.frozen?, hg3]
    have hcs : v.cells = #[v] := by cases v <;> simp_all [Value.cells, Value.oneCell']
    rw [hadd] at hx
    have hz : (⟨g, j, none⟩ : Addr).add 0 = ⟨g, j, none⟩ := rfl
    refine WL.act (w' := w.setCell ⟨g, j, none⟩ v) rfl rfl (fun a ha => ?_) (h _ hs.1 hs.2)
    simp [execOp, ha.ev hx, ha.ev hy, Instr.storeAt, Instr.sureAddr, storeVar, sizeOf, typeInfo, i1, i3, hcs, storeCells, run_store _ _ _ _ _ h1, hce, hfr, hz]
/-- The call of a function value. -/
theorem WL.callv {x : Operand} {f : FuncId} {fn : Func} {c : Code} {xs : List Operand} {ts : Array TypeId} {vs : List Value} {R : Value → World → Prop} (hfv : ev L x = some (.func (.func f) #[] #[])) (hf : P.funcs[f]? = some fn) (hb : fn.body = some c) (hnm : (fn.name == "runtime.NumGoroutine") = false)
    (hx : evs L xs = some vs) (hn : Nat.blt d n = true)
    (hc : Calls P f vs.toArray w fun e w' => ∃ v, e = .returned v ∧ R v w') (h : ∀ v w', R v w' → WL P n ops rest N ((d, v) :: L) w') :
    WL P n ops (⟨some d, .call ⟨.value x, xs.toArray, ts⟩, ty, pos, af, none⟩ :: rest) N L w := by
  refine WL.enter rfl rfl hn (fun a ha => ?_) hc h
  have hm := ha.evs hx
  have hfe := ha.ev hfv
  have hnm' : ¬ fn.name = "runtime.NumGoroutine" := by simpa using hnm
  simp only [execOp, resolve, Sem.run_bind]
  simp [Deferred.ofValue, hfe, invoke, callFunc, hm, program, Sem.run, hf, hb, hnm']
end

/-! ### results that are read out of variables -/
def resC (P : Program) (L : Fr) (w : World) : List ResultVar → List Value → Prop
  | [], vs => vs = []
  | .tmp t :: r, vs => ∃ v us, vs = v :: us ∧ lk L t = some v ∧ resC P L w r us
  | .cell a ty :: r, vs => ∃ p v us, vs = v :: us ∧ lk L a = some (.pointer (some p)) ∧ (loadVar ty p).run P w = .ok v w ∧ resC P L w r us
def resV : List Value → Value
  | [v] => v
  | vs => .tuple vs.toArray
def endCN (P : Program) (res : List ResultVar) (R : Value → World → Prop) : Post := fun L w => ∃ vs, resC P L w res vs ∧ R (resV vs) w
def endC (P : Program) (res : List ResultVar) (R : Value → World → Prop) : BPost
  | .ret, L, w => ∃ vs, resC P L w res vs ∧ R (resV vs) w
  | _, _, _ => False
theorem run_resC {P : Program} {a : Act} {n : Nat} {L : Fr} {w : World} (ha : Has n a L) (g : ResultVar → Sem Value) (hg : ∀ t, g (.tmp t) = pure (a.tmps.getD t undef)) (hg2 : ∀ p t, g (.cell p t) = (do loadVar t (← asAddr (a.tmps.getD p undef)))) :
    ∀ (res : List ResultVar) (vs : List Value), resC P L w res vs → (List.mapM g res).run P w = .ok vs w
  | [], vs, h => by cases h; rfl
  | .tmp t :: r, vs, h => by
    obtain ⟨v, us, rfl, h1, h2⟩ := h
    have ih := run_resC ha g hg hg2 r us h2
    have hv : a.tmps.getD t undef = v := by simp [Array.getD_eq_getD_getElem?, ha.at_ t v h1]
    rw [List.mapM_cons, Sem.run_bind, hg, Sem.run_pure, Result.andThen_ok, Sem.run_bind, ih, hv]
    rfl
  | .cell p ty :: r, vs, h => by
    obtain ⟨q, v, us, rfl, h1, h2, h3⟩ := h
    have ih := run_resC ha g hg hg2 r us h3
    have hv : a.tmps.getD p undef = .pointer (some q) := by simp [Array.getD_eq_getD_getElem?, ha.at_ p _ h1]
    rw [List.mapM_cons, Sem.run_bind, hg2, hv]
    have : (do loadVar ty (← asAddr (.pointer (some q))) : Sem Value).run P w = .ok v w := by simp [asAddr, h2]
    rw [this, Result.andThen_ok, Sem.run_bind, ih]
    rfl
theorem run_resultsC {P : Program} {fn : Func} {res : List ResultVar} {a : Act} {n : Nat} {L : Fr} {vs : List Value} {w : World} (hres : fn.results = res.toArray) (ha : Has n a L) (hv : resC P L w res vs) : (results fn a.tmps).run P w = .ok (resV vs) w := by
  unfold results
  rw [Sem.run_bind, hres, List.mapM_toArray, Sem.run_map, run_resC ha _ (fun _ => rfl) (fun _ _ => rfl) res vs hv]
  simp only [Result.andThen_ok]
  match vs with
  | [] => simp [resV]
  | [v] => simp [resV]
  | v :: u :: us => simp [resV]
theorem calls_of_Wc {P : Program} {f : FuncId} {fn : Func} {c : Code} {n : Nat} {vs : List Value} {R : Value → World → Prop} {w : World} (res : List ResultVar) (hf : P.funcs[f]? = some fn) (hb : fn.body = some c) (hn : fn.ntmps = n)
    (hres : fn.results = res.toArray) (hle : Nat.ble vs.length n = true) (h : W P n c (endCN P res R) (endC P res R) (args0 0 vs) w) : Calls P f vs.toArray w fun e w' => ∃ v, e = .returned v ∧ R v w' := by
  have hle' : vs.length ≤ n := by simpa [Nat.ble_eq] using hle
  refine calls_of_wp hf hb (wp_mono (h.out _ ⟨rfl, by simp [hn]; omega, fun t v hv => ?_⟩) fun e a w' q => ?_)
  · obtain ⟨_, h2⟩ := args0_at vs 0 t v hv
    have ht : t < vs.length := (List.getElem?_eq_some_iff.1 h2).1
    rw [Array.getElem?_append_left (by simpa using ht)]
    simpa using h2
  · cases e with
    | normal =>
      obtain ⟨L, hL, us, hv, hR⟩ := q
      exact ⟨hL.nd, _, run_resultsC hres hL hv, _, rfl, hR⟩
    | ret =>
      obtain ⟨L, hL, us, hv, hR⟩ := q
      exact ⟨hL.nd, _, run_resultsC hres hL hv, _, rfl, hR⟩
    | _ => obtain ⟨L, _, h⟩ := q; exact h.elim
end Go.Proofs.Ytdmgbahognfhbaa
namespace Go.Proofs.Ytdmgbahognfhbaa
open Go.RowKit
/-- Rows of two types are apart. -/
theorem ap_type {b b' : Nat} {w : World} {e e' z z' m c m' c' g : Nat} {A : Option Addr} {cs cs' : List Value} (h : Own b w e z A m c cs) (hV : Own b' w e' z' (some ⟨g, 0, none⟩) m' c' cs') (hne : e ≠ e') : ∀ k, bl A = some k → k ≠ g := by
  intro k hk hkg
  subst hkg
  rcases h.2 with ⟨h1, _⟩ | ⟨g1, cap, cur, h1, h2, h3, _⟩
  · cases h1; cases hk
  · cases h1
    rcases hV.2 with ⟨k1, _⟩ | ⟨g2, cap2, cur2, k1, k2, k3, _⟩
    · cases k1
    · cases k1
      cases hk
      rw [h3] at k3
      cases k3
      exact hne rfl
end Go.Proofs.Ytdmgbahognfhbaa
set_option linter.unusedSimpArgs false
set_option linter.unusedVariables false
namespace Go.Proofs.Ytdmgbahognfhbaa
open Go.RowKit
/-- A scope that no jump leaves. -/
def ng (B : BPost) : BPost
  | .goto _, _, _ => False
  | e, L, w => B e L w
section
variable {P : Program} {n : Nat} {N : Post} {B : BPost} {L : Fr} {w : World}
theorem W.scope {c : Code} (h : W P n c N (ng B) L w) : W P n (.scope c) N B L w :=
  ⟨fun a ha => wp_scope_straight (wp_mono (h.out a ha) fun e a' w' q => by
    cases e with
    | goto l => obtain ⟨L', h1, h2⟩ := q; exact h2.elim
    | normal => exact q
    | exit id => exact q
    | ret => exact q
    | panic ch => exact q
    | outgrown => exact q)⟩
theorem W.label {l : Nat} (h : N L w) : W P n (.label l) N B L w := ⟨fun a ha => wp_label ⟨L, ha, h⟩⟩
end
/-- Arrays as values: one cell an entry. -/
def arrB (P : Program) (t n : Nat) : Bool :=
  match P.underlying t with
  | some (.array m e) => m == n && (match P.underlying e with | some (.struct _) => false | some (.array _ _) => false | some _ => true | none => false) && (match P.info? e with | some i => i.size == 1 | none => false)
  | _ => false
theorem run_indexA {P : Program} {w : World} {t n j : Nat} {cs : Array Value} {v : Value} {k : IntKind} {J : Int} (h : arrB P t n = true) (hJ : J = j) (hj : j < n) (hv : cs[j]? = some v) : (Instr.index t (.agg cs) (.int k J)).run P w = .ok v w := by
  unfold arrB at h
  split at h
  · rename_i m e hu
    simp only [Bool.and_eq_true, beq_iff_eq] at h
    obtain ⟨⟨hm, hk⟩, hs⟩ := h
    subst hm
    cases hi : P.info? e with
    | none => rw [hi] at hs; cases hs
    | some it =>
      rw [hi] at hs
      simp only [beq_iff_eq] at hs
      cases hD : P.underlying e with
      | none => rw [hD] at hk; cases hk
      | some D =>
        rw [hD] at hk
        have hag : (isAgg e).run P w = .ok false w := by
          simp only [isAgg, Sem.run_bind, run_underlying hD, Result.andThen_ok]
          cases D <;> simp_all
        have h1 : 0 ≤ J ∧ J < (m : Int) := by omega
        simp [Instr.index, asIntOf, run_underlying hu, h1, sizeOf, typeInfo, hi, hs, part, hag, hJ, hv, hj]
  · cases h
section
variable {P : Program} {n : Nat} {N : Post} {L : Fr} {w : World} {ops : Array Oper} {rest : List Oper}
variable {d : Nat} {ty : TypeId} {pos : String} {af : Array Edge}
theorem WL.indexA {x i : Operand} {t m : Nat} {cs : Array Value} {v : Value} {k : IntKind} {J : Int} (j : Nat) (hA : arrB P t m = true) (hx : ev L x = some (.agg cs)) (hi : ev L i = some (.int k J)) (hJ : J = j) (hj : j < m) (hv : cs[j]? = some v) (hn : Nat.blt d n = true)
    (h : WL P n ops rest N ((d, v) :: L) w) : WL P n ops (⟨some d, .index t x i, ty, pos, af, none⟩ :: rest) N L w :=
  WL.val rfl rfl hn (fun a ha => by simp [execOp, ha.ev hx, ha.ev hi, run_indexA hA hJ hj hv]) h
theorem WL.buildG {t : Nat} {cells : Array Value} {parts : List (Nat × Operand)} {vs : List Value} (hx : evs L (parts.map (·.2)) = some vs)
    (hf : P.built t ((parts.map (·.1)).zip vs) = some cells) (hn : Nat.blt d n = true)
    (h : WL P n ops rest N ((d, .agg cells) :: L) w) : WL P n ops (⟨some d, .build t parts.toArray, ty, pos, af, none⟩ :: rest) N L w := by
  refine WL.val rfl rfl hn (fun a ha => ?_) h
  have hm := ha.evs hx
  have hz : (parts.map fun x => (x.1, a.eval x.2)) = (parts.map (·.1)).zip vs := by
    rw [← hm]
    clear hm hf hx
    induction parts with
    | nil => rfl
    | cons p l ih => simp [ih]
  have hb : P.built t (parts.map fun x => (x.1, a.eval x.2)) = some cells := by rw [hz]; exact hf
  have := run_build (P := P) w t (parts.map fun x => (x.1, a.eval x.2)).toArray cells (by simpa using hb)
  simp [execOp] at this ⊢
  simp [this]
end
end Go.Proofs.Ytdmgbahognfhbaa
set_option linter.unusedSimpArgs false
set_option linter.unusedVariables false
namespace Go.Proofs.Ytdmgbahognfhbaa
open Go.RowKit
/-- A struct type of two ints. -/
structure Eq2 (P : Program) (t : TypeId) : Prop where
  ht : P.underlying t = some (.struct (P.fieldsOf t))
  hp : P.stoodInHeld t = false
  hg : P.eqGuardType P.depth t = false
  fs : ∃ f0 f1, (P.fieldsOf t).toList = [f0, f1] ∧ (f0.name == "_") = false ∧ (f1.name == "_") = false ∧ f0.offset = 0 ∧ f1.offset = 1 ∧ P.underlying f0.type = some (.int .i64) ∧ P.underlying f1.type = some (.int .i64)
theorem run_part_int {P : Program} {w : World} {t : TypeId} {xs : Array Value} {i : Nat} {v : Value} (ht : P.underlying t = some (.int .i64)) (hv : xs[i]? = some v) : (part t xs i).run P w = .ok v w := by
  have hag : (isAgg t).run P w = .ok false w := by simp only [isAgg, Sem.run_bind, run_underlying ht, Result.andThen_ok]; rfl
  simp [part, hag, hv]
theorem run_eq2 {P : Program} {w : World} {t : TypeId} (h : Eq2 P t) (a b c d : Int) (n : Nat) : (Op.equalIn (n + 2) t (.agg #[.int .i64 a, .int .i64 b]) (.agg #[.int .i64 c, .int .i64 d])).run P w = .ok (a == c && b == d) w := by
  obtain ⟨f0, f1, hf, n0, n1, o0, o1, u0, u1⟩ := h.fs
  have n0' : f0.name ≠ "_" := by simpa using n0
  have n1' : f1.name ≠ "_" := by simpa using n1
  rw [run_equalIn_struct w (n + 1) t _ _ h.ht h.hp, hf]
  simp only [Op.eqFields, if_pos n0', if_pos n1', o0, o1, Sem.run_bind]
  rw [run_part_int u0 (v := .int .i64 a) rfl, Result.andThen_ok, run_part_int u0 (v := .int .i64 c) rfl, Result.andThen_ok, run_equalIn_int w n _ _ _ _ _ u0, Result.andThen_ok]
  cases hac : (a == c)
  · simp
  · simp only [Bool.not_true, Bool.false_eq_true, if_false, Sem.run_bind]
    rw [run_part_int u1 (v := .int .i64 b) rfl, Result.andThen_ok, run_part_int u1 (v := .int .i64 d) rfl, Result.andThen_ok, run_equalIn_int w n _ _ _ _ _ u1, Result.andThen_ok]
    cases hbd : (b == d) <;> simp
section
variable {P : Program} {n : Nat} {N : Post} {L : Fr} {w : World} {ops : Array Oper} {rest : List Oper}
variable {d : Nat} {ty : TypeId} {pos : String} {af : Array Edge}
theorem WL.eql2 {x y : Operand} {tx tb : TypeId} {a b a' b' : Int} {r : Bool} (hE : Eq2 P tx) (hx : ev L x = some (.agg #[.int .i64 a, .int .i64 b])) (hy : ev L y = some (.agg #[.int .i64 a', .int .i64 b'])) (hr : (a == a' && b == b') = r) (hn : Nat.blt d n = true)
    (h : WL P n ops rest N ((d, .bool r) :: L) w) : WL P n ops (⟨some d, .binOp .eql tx x y tb, ty, pos, af, none⟩ :: rest) N L w :=
  WL.val rfl rfl hn (fun c ha => by
    simp only [execOp, ha.ev hx, ha.ev hy, Sem.run_bind]
    rw [run_eqGuard_agg w _ _ _ _ _ _ hE.hg, Result.andThen_ok, run_eql_struct, run_eq2 hE _ _ _ _ 9998, Result.andThen_ok, hr]; rfl) h
theorem WL.neq2 {x y : Operand} {tx tb : TypeId} {a b a' b' : Int} {r : Bool} (hE : Eq2 P tx) (hx : ev L x = some (.agg #[.int .i64 a, .int .i64 b])) (hy : ev L y = some (.agg #[.int .i64 a', .int .i64 b'])) (hr : (!(a == a' && b == b')) = r) (hn : Nat.blt d n = true)
    (h : WL P n ops rest N ((d, .bool r) :: L) w) : WL P n ops (⟨some d, .binOp .neq tx x y tb, ty, pos, af, none⟩ :: rest) N L w :=
  WL.val rfl rfl hn (fun c ha => by
    simp only [execOp, ha.ev hx, ha.ev hy, Sem.run_bind]
    rw [run_eqGuard_agg w _ _ _ _ _ _ hE.hg, Result.andThen_ok, run_neq_struct, run_eq2 hE _ _ _ _ 9998, Result.andThen_ok, hr]; rfl) h
end
end Go.Proofs.Ytdmgbahognfhbaa
set_option linter.unusedVariables false
namespace Go.Proofs.Ytdmgbahognfhbaa
open Go.RowKit
theorem Try.mixed : Try.prog.follows .mixedOrders = true := by kernel_rfl
theorem Try.el3 : Elem Try.prog 3 1 8 (.int .i64 0) := .mk' (by kernel_rfl) rfl (by decide)
theorem Try.el4 : Elem Try.prog 4 1 1 (.bool false) := .mk' (by kernel_rfl) rfl (by decide)
theorem Try.el37 : Elem Try.prog 37 2 16 (.agg #[.int .i64 0, .int .i64 0]) := .mk' (by kernel_rfl) rfl (by decide)
theorem Try.agg37 : aggB Try.prog 37 = true := by kernel_rfl
theorem Try.fld37_0 : fldB Try.prog 37 0 0 = true := by kernel_rfl
theorem Try.fla37_0 : fldA Try.prog 37 0 0 = true := by kernel_rfl
theorem Try.fld37_1 : fldB Try.prog 37 1 1 = true := by kernel_rfl
theorem Try.fla37_1 : fldA Try.prog 37 1 1 = true := by kernel_rfl
theorem Try.bld37 : bldP Try.prog 37 [(0, 1), (1, 1)] #[.int .i64 0, .int .i64 0] := ⟨by kernel_rfl, _, Try.underlying37, by kernel_rfl⟩
theorem Try.nm3 : (Try.f3.name == "runtime.NumGoroutine") = false := by kernel_rfl
theorem Try.nm4 : (Try.f4.name == "runtime.NumGoroutine") = false := by kernel_rfl
theorem Try.nm5 : (Try.f5.name == "runtime.NumGoroutine") = false := by kernel_rfl
theorem Try.nm6 : (Try.f6.name == "runtime.NumGoroutine") = false := by kernel_rfl
theorem Try.nm7 : (Try.f7.name == "runtime.NumGoroutine") = false := by kernel_rfl
theorem Try.nm8 : (Try.f8.name == "runtime.NumGoroutine") = false := by kernel_rfl
theorem Try.nm9 : (Try.f9.name == "runtime.NumGoroutine") = false := by kernel_rfl
theorem Try.nm10 : (Try.f10.name == "runtime.NumGoroutine") = false := by kernel_rfl
theorem Try.nm11 : (Try.f11.name == "runtime.NumGoroutine") = false := by kernel_rfl
theorem Try.nm12 : (Try.f12.name == "runtime.NumGoroutine") = false := by kernel_rfl
theorem Try.nm13 : (Try.f13.name == "runtime.NumGoroutine") = false := by kernel_rfl
theorem Try.nm14 : (Try.f14.name == "runtime.NumGoroutine") = false := by kernel_rfl
theorem Try.nm15 : (Try.f15.name == "runtime.NumGoroutine") = false := by kernel_rfl
theorem Try.nm16 : (Try.f16.name == "runtime.NumGoroutine") = false := by kernel_rfl
theorem Try.nm17 : (Try.f17.name == "runtime.NumGoroutine") = false := by kernel_rfl
theorem Try.nm18 : (Try.f18.name == "runtime.NumGoroutine") = false := by kernel_rfl
theorem Try.nm19 : (Try.f19.name == "runtime.NumGoroutine") = false := by kernel_rfl
theorem Try.nm20 : (Try.f20.name == "runtime.NumGoroutine") = false := by kernel_rfl
theorem Try.nm21 : (Try.f21.name == "runtime.NumGoroutine") = false := by kernel_rfl
theorem Try.nm22 : (Try.f22.name == "runtime.NumGoroutine") = false := by kernel_rfl
theorem Try.nm23 : (Try.f23.name == "runtime.NumGoroutine") = false := by kernel_rfl
theorem Try.nm24 : (Try.f24.name == "runtime.NumGoroutine") = false := by kernel_rfl
theorem Try.nm25 : (Try.f25.name == "runtime.NumGoroutine") = false := by kernel_rfl
theorem Try.nm26 : (Try.f26.name == "runtime.NumGoroutine") = false := by kernel_rfl
theorem Try.nm27 : (Try.f27.name == "runtime.NumGoroutine") = false := by kernel_rfl
theorem Try.nm28 : (Try.f28.name == "runtime.NumGoroutine") = false := by kernel_rfl
theorem Try.nm29 : (Try.f29.name == "runtime.NumGoroutine") = false := by kernel_rfl
theorem Try.nm30 : (Try.f30.name == "runtime.NumGoroutine") = false := by kernel_rfl
theorem Try.nm31 : (Try.f31.name == "runtime.NumGoroutine") = false := by kernel_rfl
theorem Try.nm32 : (Try.f32.name == "runtime.NumGoroutine") = false := by kernel_rfl
theorem Try.nm33 : (Try.f33.name == "runtime.NumGoroutine") = false := by kernel_rfl
theorem Try.nm34 : (Try.f34.name == "runtime.NumGoroutine") = false := by kernel_rfl
theorem Try.nm35 : (Try.f35.name == "runtime.NumGoroutine") = false := by kernel_rfl
theorem Try.nm36 : (Try.f36.name == "runtime.NumGoroutine") = false := by kernel_rfl
theorem Try.nm37 : (Try.f37.name == "runtime.NumGoroutine") = false := by kernel_rfl
theorem Try.nm38 : (Try.f38.name == "runtime.NumGoroutine") = false := by kernel_rfl
theorem Try.nm39 : (Try.f39.name == "runtime.NumGoroutine") = false := by kernel_rfl
theorem Try.nm40 : (Try.f40.name == "runtime.NumGoroutine") = false := by kernel_rfl
theorem Try.nm41 : (Try.f41.name == "runtime.NumGoroutine") = false := by kernel_rfl
theorem Try.nm42 : (Try.f42.name == "runtime.NumGoroutine") = false := by kernel_rfl
theorem Try.nm43 : (Try.f43.name == "runtime.NumGoroutine") = false := by kernel_rfl
theorem Try.nm44 : (Try.f44.name == "runtime.NumGoroutine") = false := by kernel_rfl
theorem Try.nm45 : (Try.f45.name == "runtime.NumGoroutine") = false := by kernel_rfl
theorem Try.nm46 : (Try.f46.name == "runtime.NumGoroutine") = false := by kernel_rfl
theorem Try.nm47 : (Try.f47.name == "runtime.NumGoroutine") = false := by kernel_rfl
theorem Try.nm48 : (Try.f48.name == "runtime.NumGoroutine") = false := by kernel_rfl
theorem Try.nm49 : (Try.f49.name == "runtime.NumGoroutine") = false := by kernel_rfl
theorem Try.nm50 : (Try.f50.name == "runtime.NumGoroutine") = false := by kernel_rfl
theorem Try.nm51 : (Try.f51.name == "runtime.NumGoroutine") = false := by kernel_rfl
theorem Try.nm52 : (Try.f52.name == "runtime.NumGoroutine") = false := by kernel_rfl
theorem Try.nm53 : (Try.f53.name == "runtime.NumGoroutine") = false := by kernel_rfl
theorem Try.nm54 : (Try.f54.name == "runtime.NumGoroutine") = false := by kernel_rfl
theorem Try.nm55 : (Try.f55.name == "runtime.NumGoroutine") = false := by kernel_rfl
theorem Try.nm56 : (Try.f56.name == "runtime.NumGoroutine") = false := by kernel_rfl
theorem Try.nm57 : (Try.f57.name == "runtime.NumGoroutine") = false := by kernel_rfl
theorem Try.nm58 : (Try.f58.name == "runtime.NumGoroutine") = false := by kernel_rfl
theorem Try.nm59 : (Try.f59.name == "runtime.NumGoroutine") = false := by kernel_rfl
theorem Try.nm60 : (Try.f60.name == "runtime.NumGoroutine") = false := by kernel_rfl
theorem Try.nm61 : (Try.f61.name == "runtime.NumGoroutine") = false := by kernel_rfl
theorem Try.nm62 : (Try.f62.name == "runtime.NumGoroutine") = false := by kernel_rfl
theorem Try.nm63 : (Try.f63.name == "runtime.NumGoroutine") = false := by kernel_rfl
theorem Try.nm64 : (Try.f64.name == "runtime.NumGoroutine") = false := by kernel_rfl
theorem Try.nm65 : (Try.f65.name == "runtime.NumGoroutine") = false := by kernel_rfl
theorem Try.nm66 : (Try.f66.name == "runtime.NumGoroutine") = false := by kernel_rfl
theorem Try.nm67 : (Try.f67.name == "runtime.NumGoroutine") = false := by kernel_rfl
theorem Try.nm68 : (Try.f68.name == "runtime.NumGoroutine") = false := by kernel_rfl
theorem Try.nm69 : (Try.f69.name == "runtime.NumGoroutine") = false := by kernel_rfl
theorem Try.nm70 : (Try.f70.name == "runtime.NumGoroutine") = false := by kernel_rfl
theorem Try.nm71 : (Try.f71.name == "runtime.NumGoroutine") = false := by kernel_rfl
theorem Try.nm72 : (Try.f72.name == "runtime.NumGoroutine") = false := by kernel_rfl
theorem Try.nm73 : (Try.f73.name == "runtime.NumGoroutine") = false := by kernel_rfl
theorem Try.nm74 : (Try.f74.name == "runtime.NumGoroutine") = false := by kernel_rfl
theorem Try.nm75 : (Try.f75.name == "runtime.NumGoroutine") = false := by kernel_rfl
theorem Try.nm76 : (Try.f76.name == "runtime.NumGoroutine") = false := by kernel_rfl
theorem Try.nm77 : (Try.f77.name == "runtime.NumGoroutine") = false := by kernel_rfl
theorem Try.nm78 : (Try.f78.name == "runtime.NumGoroutine") = false := by kernel_rfl
theorem Try.nm79 : (Try.f79.name == "runtime.NumGoroutine") = false := by kernel_rfl
theorem Try.nm80 : (Try.f80.name == "runtime.NumGoroutine") = false := by kernel_rfl
theorem Try.nm81 : (Try.f81.name == "runtime.NumGoroutine") = false := by kernel_rfl
theorem Try.nm82 : (Try.f82.name == "runtime.NumGoroutine") = false := by kernel_rfl
theorem Try.nm83 : (Try.f83.name == "runtime.NumGoroutine") = false := by kernel_rfl
theorem Try.nm84 : (Try.f84.name == "runtime.NumGoroutine") = false := by kernel_rfl
theorem Try.nm85 : (Try.f85.name == "runtime.NumGoroutine") = false := by kernel_rfl
theorem Try.nm86 : (Try.f86.name == "runtime.NumGoroutine") = false := by kernel_rfl
theorem Try.nm87 : (Try.f87.name == "runtime.NumGoroutine") = false := by kernel_rfl
theorem Try.nm88 : (Try.f88.name == "runtime.NumGoroutine") = false := by kernel_rfl
theorem Try.nm89 : (Try.f89.name == "runtime.NumGoroutine") = false := by kernel_rfl
theorem Try.nm90 : (Try.f90.name == "runtime.NumGoroutine") = false := by kernel_rfl
theorem Try.nm91 : (Try.f91.name == "runtime.NumGoroutine") = false := by kernel_rfl
theorem Try.nm92 : (Try.f92.name == "runtime.NumGoroutine") = false := by kernel_rfl
theorem Try.nm93 : (Try.f93.name == "runtime.NumGoroutine") = false := by kernel_rfl
theorem Try.nm94 : (Try.f94.name == "runtime.NumGoroutine") = false := by kernel_rfl
theorem Try.nm95 : (Try.f95.name == "runtime.NumGoroutine") = false := by kernel_rfl
theorem Try.nm96 : (Try.f96.name == "runtime.NumGoroutine") = false := by kernel_rfl
theorem Try.nm97 : (Try.f97.name == "runtime.NumGoroutine") = false := by kernel_rfl
theorem Try.nm98 : (Try.f98.name == "runtime.NumGoroutine") = false := by kernel_rfl
theorem Try.nm99 : (Try.f99.name == "runtime.NumGoroutine") = false := by kernel_rfl
theorem Try.nm100 : (Try.f100.name == "runtime.NumGoroutine") = false := by kernel_rfl
theorem Try.nm101 : (Try.f101.name == "runtime.NumGoroutine") = false := by kernel_rfl
theorem Try.nm102 : (Try.f102.name == "runtime.NumGoroutine") = false := by kernel_rfl
theorem Try.arr63 : arrB Try.prog 63 3 = true := by kernel_rfl
theorem Try.arr64 : arrB Try.prog 64 8 = true := by kernel_rfl
theorem Try.eq37 : Eq2 Try.prog 37 := by
  have h := Try.underlying37
  refine ⟨by unfold Program.fieldsOf; rw [h], by kernel_rfl, by kernel_rfl, ?_⟩
  exact ⟨_, _, by unfold Program.fieldsOf; rw [h], rfl, rfl, rfl, rfl, Try.underlying3, Try.underlying3⟩
end Go.Proofs.Ytdmgbahognfhbaa
set_option linter.unusedSimpArgs false
set_option linter.unusedVariables false
namespace Go.Proofs.Ytdmgbahognfhbaa
/-! ### divisors, prime powers -/
structure IsLf (n d : Nat) : Prop where
  two : 2 ≤ d
  dvd : n % d = 0
  min : ∀ e, 2 ≤ e → n % e = 0 → d ≤ e
theorem IsLf.uniq {n d e : Nat} (h : IsLf n d) (h' : IsLf n e) : d = e := Nat.le_antisymm (h.min e h'.two h'.dvd) (h'.min d h.two h.dvd)
theorem IsLf.le {n d : Nat} (h : IsLf n d) (hn : 0 < n) : d ≤ n := Nat.le_of_dvd hn (Nat.dvd_of_mod_eq_zero h.dvd)
theorem IsLf.of_lt {n d : Nat} (h2 : 2 ≤ d) (hd : n % d = 0) (h : ∀ e, e < d → 2 ≤ e → n % e ≠ 0) : IsLf n d := ⟨h2, hd, fun e he hm => by
  rcases Nat.lt_or_ge e d with hc | hc
  · exact absurd hm (h e hc he)
  · exact hc⟩
/-- A search that stops beyond the root. -/
theorem IsLf.self_of_root {n k : Nat} (hn : 2 ≤ n) (hk : n < k * k) (h : ∀ e, e < k → 2 ≤ e → n % e = 0 → e = n) : IsLf n n := by
  refine ⟨hn, Nat.mod_self n, fun e he hm => ?_⟩
  rcases Nat.lt_or_ge e k with hc | hc
  · exact Nat.le_of_eq (h e hc he hm).symm
  · obtain ⟨q, hq⟩ := Nat.dvd_of_mod_eq_zero hm
    have hq1 : q < k := by
      rcases Nat.lt_or_ge q k with h1 | h1
      · exact h1
      · have := Nat.mul_le_mul hc h1; omega
    rcases Nat.lt_or_ge q 2 with h2 | h2
    · have : q = 0 ∨ q = 1 := by omega
      rcases this with rfl | rfl
      · omega
      · omega
    · have := h q hq1 h2 (by rw [hq]; exact Nat.mul_mod_left _ _)
      subst this
      have := Nat.mul_le_mul_right q he
      omega
instance decAll {n : Nat} {p : Nat → Prop} [DecidablePred p] : Decidable (∀ e, e < n → p e) := Nat.decidableBallLT n (fun e _ => p e)
def sgI (z : Int) : Int := if 0 < z then 1 else if z < 0 then -1 else 0
/-- p ^ e divides n out: m is left. -/
inductive IsFac : Nat → List (Nat × Nat) → Prop
  | one : IsFac 1 []
  | step {n p e m : Nat} {L : List (Nat × Nat)} : IsLf n p → n = m * p ^ e → m % p ≠ 0 → 0 < e → IsFac m L → IsFac n ((p, e) :: L)
theorem strip_uniq {p m m' e e' : Nat} (hp : 2 ≤ p) (h : m * p ^ e = m' * p ^ e') (hm : m % p ≠ 0) (hm' : m' % p ≠ 0) : m = m' ∧ e = e' := by
  have key : ∀ {m m' e e' : Nat}, m * p ^ e = m' * p ^ e' → m % p ≠ 0 → e ≤ e' → m = m' ∧ e = e' := by
    intro m m' e e' h hm hle
    obtain ⟨k, rfl⟩ := Nat.exists_eq_add_of_le hle
    have hpos : 0 < p ^ e := Nat.pow_pos (by omega)
    have h2 : m = m' * p ^ k := by
      rw [Nat.pow_add, ← Nat.mul_assoc, Nat.mul_right_comm] at h
      exact Nat.eq_of_mul_eq_mul_right hpos h
    cases k with
    | zero => simp at h2; exact ⟨h2, rfl⟩
    | succ k => exact absurd (by rw [h2, Nat.pow_succ, ← Nat.mul_assoc]; exact Nat.mul_mod_left _ _) hm
  rcases Nat.le_total e e' with h1 | h1
  · exact key h hm h1
  · obtain ⟨a, b⟩ := key h.symm hm' h1
    exact ⟨a.symm, b.symm⟩
theorem IsFac.pos {n : Nat} {L : List (Nat × Nat)} (h : IsFac n L) : 0 < n := by
  induction h with
  | one => decide
  | step hl hn hm he _ ih => subst hn; exact Nat.mul_pos ih (Nat.pow_pos (by have := hl.two; omega))
theorem IsFac.uniq {n : Nat} {L L' : List (Nat × Nat)} (h : IsFac n L) (h' : IsFac n L') : L = L' := by
  induction h generalizing L' with
  | one =>
    cases h' with
    | one => rfl
    | step hl hn hm he h2 =>
      have := hl.le (by decide); have := hl.two; omega
  | step hl hn hm he h2 ih =>
    rename_i n p e m L
    cases h' with
    | one => have := hl.le (by decide); have := hl.two; omega
    | step hl' hn' hm' he' h2' =>
      have hp := hl.uniq hl'
      subst hp
      obtain ⟨rfl, rfl⟩ := strip_uniq hl.two (hn ▸ hn') hm hm'
      rw [ih h2']
theorem IsFac.nil {n : Nat} (h : IsFac n []) : n = 1 := by cases h; rfl
theorem strip_lt {n p e m : Nat} (hl : IsLf n p) (hn : n = m * p ^ e) (he : 0 < e) (h0 : 0 < m) : 2 * m ≤ n := by
  have h1 : 2 ≤ p ^ e := Nat.le_trans hl.two (Nat.le_pow he)
  have := Nat.mul_le_mul_left m h1
  omega
theorem IsFac.two_pow {n : Nat} {L : List (Nat × Nat)} (h : IsFac n L) : 2 ^ L.length ≤ n := by
  induction h with
  | one => decide
  | step hl hn hm he h2 ih =>
    have := strip_lt hl hn he h2.pos
    rw [List.length_cons, Nat.pow_succ]; omega
/-- The least divisor of what is left is greater than those before it. -/
theorem lf_mono {n p e m q : Nat} (hl : IsLf n p) (hn : n = m * p ^ e) (hm : m % p ≠ 0) (hq : IsLf m q) : p < q := by
  have h1 : n % q = 0 := by
    obtain ⟨k, hk⟩ := Nat.dvd_of_mod_eq_zero hq.dvd
    rw [hn, hk, Nat.mul_assoc]; exact Nat.mul_mod_right _ _
  have h2 := hl.min q hq.two h1
  rcases Nat.lt_or_ge p q with h3 | h3
  · exact h3
  · have : p = q := by omega
    subst this; exact absurd hq.dvd hm
theorem lf_prime {n p : Nat} (hl : IsLf n p) : IsLf p p := ⟨hl.two, Nat.mod_self p, fun e he hm => hl.min e he (by
  obtain ⟨a, ha⟩ := Nat.dvd_of_mod_eq_zero hl.dvd
  obtain ⟨b, hb⟩ := Nat.dvd_of_mod_eq_zero hm
  rw [ha]; exact Nat.mod_eq_zero_of_dvd (Nat.dvd_trans ⟨b, hb⟩ ⟨a, rfl⟩))⟩
/-! ### the extended algorithm of Euclid -/
structure Eu (a0 b0 : Nat) (a b F S : Nat) (e : Int) : Prop where
  sgn : e = 1 ∨ e = -1
  gcd : Nat.gcd a b = Nat.gcd a0 b0
  det : F * b + S * a = b0
  ca : ∃ k : Int, e * F * a0 = a + k * b0
  cb : ∃ k : Int, -(e * S) * a0 = b + k * b0
theorem Eu.start (a0 b0 : Nat) : Eu a0 b0 a0 b0 1 0 1 := ⟨.inl rfl, rfl, by omega, ⟨0, by omega⟩, ⟨-1, by omega⟩⟩
theorem Eu.next {a0 b0 a b F S : Nat} {e : Int} (h : Eu a0 b0 a b F S e) (hb : 0 < b) : Eu a0 b0 b (a % b) S (F + a / b * S) (-e) := by
  obtain ⟨k1, h1⟩ := h.ca; obtain ⟨k2, h2⟩ := h.cb
  have hd := Nat.div_add_mod a b
  refine ⟨by rcases h.sgn with r | r <;> omega, ?_, ?_, ⟨k2, by rw [← h2]; grind⟩, ⟨k1 - (a / b : Nat) * k2, ?_⟩⟩
  · rw [← h.gcd, Nat.gcd_comm, Nat.gcd_comm a b]
    exact (Nat.gcd_rec b a).symm
  · have h3 := h.det
    have h4 : S * a = S * (b * (a / b)) + S * (a % b) := by rw [← Nat.mul_add, hd]
    have h5 : S * (b * (a / b)) = a / b * S * b := by rw [Nat.mul_comm b, ← Nat.mul_assoc, Nat.mul_comm S]
    rw [Nat.add_mul]; omega
  · have h6 : ((a % b : Nat) : Int) = a - b * (a / b : Nat) := by
      have : (a : Int) = b * (a / b : Nat) + (a % b : Nat) := by exact_mod_cast hd.symm
      omega
    rw [h6]
    have e1 : -(-e * ((F + a / b * S : Nat) : Int)) * a0 = (e * F * a0) - (a / b : Nat) * (-(e * S) * a0) := by push_cast; grind
    rw [e1, h1, h2]; grind
theorem Eu.bound {a0 b0 a b F S : Nat} {e : Int} (h : Eu a0 b0 a b F S e) (hb : 0 < b) : F ≤ b0 ∧ S * a ≤ b0 := by
  have h1 := h.det
  have := Nat.le_mul_of_pos_right F hb
  omega
theorem Eu.quo_bound {a0 b0 a b F S : Nat} {e : Int} (h : Eu a0 b0 a b F S e) (hb : 0 < b) : a / b * S ≤ b0 ∧ F + a / b * S ≤ b0 := by
  have h1 := h.det
  have h2 := Nat.div_mul_le_self a b
  have h3 : a / b * S * b ≤ S * a := by
    rw [Nat.mul_right_comm, Nat.mul_comm S a]; exact Nat.mul_le_mul_right S h2
  have h4 := Nat.le_mul_of_pos_right (F + a / b * S) hb
  rw [Nat.add_mul] at h4
  constructor <;> omega
theorem Eu.done {a0 b0 a F S : Nat} {e : Int} (h : Eu a0 b0 a 0 F S e) : a = Nat.gcd a0 b0 := by have := h.gcd; rwa [Nat.gcd_zero_right] at this
end Go.Proofs.Ytdmgbahognfhbaa
namespace Go.Proofs.Ytdmgbahognfhbaa
open Go.RowKit
/-- The number of binary digits. -/
def bitn (x : Nat) : Nat := if x = 0 then 0 else Nat.log2 x + 1
theorem bitn_zero : bitn 0 = 0 := rfl
theorem bitn_le {x k : Nat} : bitn x ≤ k ↔ x < 2 ^ k := by
  unfold bitn
  split
  · rename_i h; subst h; simp [Nat.pow_pos]
  · rename_i h
    rw [← Nat.log2_lt h]; omega
theorem bitn_lt {x k : Nat} : k < bitn x ↔ 2 ^ k ≤ x := by
  have := bitn_le (x := x) (k := k); omega
theorem bitn_uniq {x k : Nat} (h1 : 2 ^ k ≤ x) (h2 : x < 2 ^ (k + 1)) : bitn x = k + 1 := by
  have := bitn_lt.2 h1; have := bitn_le.2 h2; omega
theorem bitn_half {x : Nat} (h : 0 < x) : bitn (x / 2) + 1 = bitn x := by
  rcases Nat.lt_or_ge x 2 with h2 | h2
  · have : x = 1 := by omega
    subst this; decide
  · have e : 0 < bitn (x / 2) := bitn_lt.2 (by omega)
    obtain ⟨k, hk⟩ : ∃ k, bitn (x / 2) = k + 1 := ⟨bitn (x / 2) - 1, by omega⟩
    have h3 : 2 ^ k ≤ x / 2 := bitn_lt.1 (by omega)
    have h4 : x / 2 < 2 ^ (k + 1) := bitn_le.1 (by omega)
    rw [hk, bitn_uniq (k := k + 1) (by rw [Nat.pow_succ]; omega) (by rw [Nat.pow_succ]; omega)]
theorem bitn_shift {x s : Nat} (h : 0 < x / 2 ^ s) : bitn (x / 2 ^ s) + s = bitn x := by
  induction s generalizing x with
  | zero => simp
  | succ s ih =>
    have e : x / 2 ^ (s + 1) = x / 2 / 2 ^ s := by rw [Nat.pow_succ, Nat.mul_comm, Nat.div_div_eq_div_mul]
    rw [e] at h ⊢
    have h1 := ih h
    have hx : 0 < x := by
      rcases Nat.eq_zero_or_pos x with h0 | h0
      · subst h0; simp at h
      · exact h0
    have h2 := bitn_half hx
    omega
theorem bitn_s32 {x : Nat} (h : 4294967296 ≤ x) : bitn (x / 4294967296) + 32 = bitn x := bitn_shift (s := 32) (by omega)
theorem bitn_16 {x : Nat} (h : 65536 ≤ x) : bitn (x / 65536) + 16 = bitn x := bitn_shift (s := 16) (by omega)
theorem bitn_8 {x : Nat} (h : 256 ≤ x) : bitn (x / 256) + 8 = bitn x := bitn_shift (s := 8) (by omega)
theorem bitn_8lt {x : Nat} (h : x < 256) : bitn x ≤ 8 := bitn_le.2 h
theorem bitn_32 {x : Nat} (h : x < 4294967296) : bitn x ≤ 32 := bitn_le.2 h
theorem pow32 (n : Nat) : 4294967296 ^ n = 2 ^ (32 * n) := by rw [Nat.pow_mul]
theorem Lim.take_lt {l : List Nat} (h : Lim l) (i : Nat) : nv (l.take i) < 4294967296 ^ i := by
  have h1 := nv_lt (h.take i)
  have h2 : 4294967296 ^ (l.take i).length ≤ 4294967296 ^ i := Nat.pow_le_pow_right (by decide) (by simp; omega)
  omega
/-- The digits of a number and those of its last limb. -/
theorem bitn_nv {l : List Nat} (h : Lim l) (hp : 0 < sigL l) : bitn (nv l) = 32 * (sigL l - 1) + bitn (l.getD (sigL l - 1) 0) := by
  have ht := sigL_last hp
  have hlim := h.getD (sigL l - 1)
  generalize hs : sigL l - 1 = s at *
  generalize hT : l.getD s 0 = t at *
  have e : nv l = nv (l.take s) + 4294967296 ^ s * t := by
    rw [← nv_take_sig (l := l) (i := s + 1) (by omega), nv_take_succ, hT]
  have hr := h.take_lt s
  obtain ⟨k, hk⟩ : ∃ k, bitn t = k + 1 := ⟨bitn t - 1, by have : 0 < bitn t := bitn_lt.2 (by omega); omega⟩
  have h3 : 2 ^ k ≤ t := bitn_lt.1 (by omega)
  have h4 : t < 2 ^ (k + 1) := bitn_le.1 (by omega)
  rw [hk, e]
  refine bitn_uniq (k := 32 * s + k) ?_ ?_
  · rw [Nat.pow_add, ← pow32]
    have := Nat.mul_le_mul_left (4294967296 ^ s) h3
    omega
  · rw [show 32 * s + k + 1 = 32 * s + (k + 1) by omega, Nat.pow_add, ← pow32]
    have := Nat.mul_le_mul_left (4294967296 ^ s) (show t + 1 ≤ 2 ^ (k + 1) by omega)
    rw [Nat.mul_add] at this
    omega
theorem bitn_len {l : List Nat} (h : Lim l) : bitn (nv l) ≤ 32 * l.length := bitn_le.2 (by rw [← pow32]; exact nv_lt h)
theorem nv_two {l : List Nat} (h : sigL l ≤ 2) : nv l = l.getD 0 0 + 4294967296 * l.getD 1 0 := by
  rw [← nv_take_sig h, nv_take_succ, nv_take_succ]
  simp
theorem nv_big {l : List Nat} (_h : Lim l) (hs : 2 < sigL l) : 18446744073709551616 ≤ nv l := by
  have ht := sigL_last (l := l) (by omega)
  have e : nv l = nv (l.take (sigL l - 1)) + 4294967296 ^ (sigL l - 1) * l.getD (sigL l - 1) 0 := by
    rw [← nv_take_sig (l := l) (i := sigL l - 1 + 1) (by omega), nv_take_succ]
  have h1 : 4294967296 ^ 2 ≤ 4294967296 ^ (sigL l - 1) := Nat.pow_le_pow_right (by decide) (by omega)
  have h2 : 4294967296 ^ (sigL l - 1) * 1 ≤ 4294967296 ^ (sigL l - 1) * l.getD (sigL l - 1) 0 := Nat.mul_le_mul_left _ (by omega)
  omega
theorem nv_pair (a b : Nat) : nv [a, b] = a + 4294967296 * b := by simp [nv]
theorem digs_pair {n : Nat} (h : n < 18446744073709551616) : trimL [n % 4294967296, n / 4294967296] = digs n := by
  have hL : Lim [n % 4294967296, n / 4294967296] := Lim.cons (by omega) (Lim.one (by omega))
  rw [digs_trim hL, nv_pair, show n % 4294967296 + 4294967296 * (n / 4294967296) = n by omega]
theorem or64 {P : Program} {w : World} {a b : Nat} {x y : Int} (hx : x = (a * 4294967296 : Nat)) (hy : y = b) (ha : a < 4294967296) (hb : b < 4294967296) : (Op.intBits .or .u64 x y).run P w = .ok (.int .u64 ((b + 4294967296 * a : Nat) : Int)) w := by
  subst hx; subst hy
  have h0 : a * 4294967296 ||| b = b + 4294967296 * a := by
    rw [show a * 4294967296 = 2 ^ 32 * a by omega, ← Nat.two_pow_add_eq_or_of_lt (by omega : b < 2 ^ 32) a]; omega
  have e1 : (BitVec.ofInt 64 ((a * 4294967296 : Nat) : Int) ||| BitVec.ofInt 64 (b : Int)).toNat = b + 4294967296 * a := by
    rw [BitVec.ofInt_natCast, BitVec.ofInt_natCast, BitVec.toNat_or, BitVec.toNat_ofNat, BitVec.toNat_ofNat, Nat.mod_eq_of_lt (by omega), Nat.mod_eq_of_lt (by omega), h0]
  have e2 : IntKind.u64.wrap ((b + 4294967296 * a : Nat) : Int) = ((b + 4294967296 * a : Nat) : Int) := wu64 (by omega) (by omega) rfl
  show Result.ok (Value.int .u64 (IntKind.u64.wrap ((BitVec.ofInt 64 ((a * 4294967296 : Nat) : Int) ||| BitVec.ofInt 64 (b : Int)).toNat : Int))) w = _
  rw [e1, e2]
/-- A constant table. -/
theorem WL.indexTab {P : Program} {n : Nat} {N : Post} {L : Fr} {w : World} {ops : Array Oper} {rest : List Oper} {d : Nat} {ty : TypeId} {pos : String} {af : Array Edge} {x y : Operand} {tx : TypeId} {s : ByteArray} {k : IntKind} {X : Int} {i : Nat} (g : Nat → Nat)
    (ht : P.underlying tx = some .string) (hx : ev L x = some (.string s)) (hy : ev L y = some (.int k X)) (hX : X = i) (hi : i < 256) (hs : ∀ i : Fin 256, (s[i.val]?).map UInt8.toNat = some (g i.val)) (hn : Nat.blt d n = true)
    (h : WL P n ops rest N ((d, .int .u8 (g i : Nat)) :: L) w) : WL P n ops (⟨some d, .index tx x y, ty, pos, af, none⟩ :: rest) N L w := by
  subst hX
  have h1 := hs ⟨i, hi⟩
  simp only [Option.map_eq_some_iff] at h1
  obtain ⟨b, hb1, hb2⟩ := h1
  exact WL.val rfl rfl hn (fun a ha => by simp [execOp, Instr.index, asIntOf, ha.ev hx, ha.ev hy, run_underlying ht, hb1, hb2]) h
end Go.Proofs.Ytdmgbahognfhbaa
namespace Go.Proofs.Ytdmgbahognfhbaa
open Go.RowKit
/-- The greatest number of limbs, and twice that. -/
def c4 : Nat := 4096
def c8 : Nat := 8192
theorem c4_eq : c4 = 4096 := rfl
theorem c8_eq : c8 = 8192 := rfl
theorem c48 : c8 = c4 + c4 := rfl
/-- The least number with more than 4096 limbs. -/
def bigN : Nat := 4294967296 ^ c4
theorem bigN_eq : bigN = 4294967296 ^ c4 := by unfold bigN; rfl
theorem bigN_two : bigN = 2 ^ (32 * c4) := by rw [bigN_eq, pow32]
theorem bigN_gt : 4294967296 ≤ bigN := by
  rw [bigN_eq]
  have : 4294967296 ^ 1 ≤ 4294967296 ^ c4 := Nat.pow_le_pow_right (by decide) (by rw [c4_eq]; decide)
  rwa [Nat.pow_one] at this
theorem digs_len_iff {n k : Nat} : (digs n).length ≤ k ↔ n < 4294967296 ^ k := by
  constructor
  · intro h
    have h1 := nv_lt (digs_lim n)
    rw [nv_digs] at h1
    exact Nat.lt_of_lt_of_le h1 (Nat.pow_le_pow_right (by decide) h)
  · exact digs_len
theorem digs_big {n : Nat} : (digs n).length ≤ 4096 ↔ n < bigN := by rw [← c4_eq, bigN_eq]; exact digs_len_iff
theorem pow_big {a n : Nat} (hb : 2 ≤ bitn a) (h : 131071 / (bitn a - 1) < n) : bigN ≤ a ^ n := by
  have h1 : 2 ^ (bitn a - 1) ≤ a := bitn_lt.1 (by omega)
  have h2 := (Nat.div_lt_iff_lt_mul (by omega : 0 < bitn a - 1)).1 h
  have h3 : (2 ^ (bitn a - 1)) ^ n ≤ a ^ n := Nat.pow_le_pow_left h1 n
  rw [← Nat.pow_mul] at h3
  rw [bigN_two]
  exact Nat.le_trans (Nat.pow_le_pow_right (by decide) (by rw [Nat.mul_comm] at h2; rw [c4_eq]; omega)) h3
theorem pow_small {a n : Nat} (hb : 2 ≤ bitn a) (h : n ≤ 131071 / (bitn a - 1)) : a ^ n < 4294967296 ^ c8 := by
  have h1 : a < 2 ^ bitn a := bitn_le.1 (Nat.le_refl _)
  have h2 := (Nat.le_div_iff_mul_le (by omega : 0 < bitn a - 1)).1 h
  have h3 : a ^ n ≤ (2 ^ bitn a) ^ n := Nat.pow_le_pow_left (by omega) n
  rw [← Nat.pow_mul] at h3
  have h4 : n * bitn a ≤ n * (2 * (bitn a - 1)) := Nat.mul_le_mul_left n (by omega)
  have h5 : n * (2 * (bitn a - 1)) = 2 * (n * (bitn a - 1)) := by rw [Nat.mul_left_comm]
  rw [Nat.mul_comm] at h3
  rw [pow32]
  exact Nat.lt_of_le_of_lt h3 (Nat.pow_lt_pow_right (by decide) (by rw [c8_eq]; omega))
theorem pow_big2 {a n : Nat} (ha : 2 ≤ a) (h : 131072 ≤ n) : bigN ≤ a ^ n := by
  rw [bigN_two]
  have e : 32 * c4 ≤ n := by rw [c4_eq]; omega
  exact Nat.le_trans (Nat.pow_le_pow_right (by decide) e) (Nat.pow_le_pow_left ha n)
theorem pow_len {a k n c : Nat} (ha : 0 < a) (hk : k ≤ n) (h : a ^ n < 4294967296 ^ c) : (digs (a ^ k)).length ≤ c :=
  digs_len (Nat.lt_of_le_of_lt (Nat.pow_le_pow_right ha hk) h)
theorem sq_len {a q : Nat} (h : (digs (a ^ q)).length ≤ 4096) : (digs (a ^ (q + q))).length ≤ 8192 := by
  rw [← c4_eq, digs_len_iff] at h
  rw [← c8_eq, digs_len_iff, Nat.pow_add, c48, Nat.pow_add]
  exact Nat.mul_lt_mul'' h h
theorem half_pow {n j : Nat} (hj : 0 < j) : n / 2 ^ (j - 1) / 2 = n / 2 ^ j := by
  rw [Nat.div_div_eq_div_mul, ← Nat.pow_succ, show (j - 1).succ = j by omega]
theorem top_one {n : Nat} (h : 0 < n) : n / 2 ^ (bitn n - 1) = 1 := by
  have hp : 0 < bitn n := bitn_lt.2 (by omega)
  have h1 : 2 ^ (bitn n - 1) ≤ n := bitn_lt.1 (by omega)
  have h2 : n < 2 ^ (bitn n - 1 + 1) := bitn_le.1 (by omega)
  rw [Nat.pow_succ] at h2
  rw [Nat.div_eq_iff (Nat.pow_pos (by decide))]
  omega
theorem pw_half {k : Nat} (h : 0 < k) : 2 ^ k / 2 = 2 ^ (k - 1) := by
  obtain ⟨j, rfl⟩ : ∃ j, k = j + 1 := ⟨k - 1, by omega⟩
  rw [Nat.pow_succ]; simp
theorem pw_zero {k : Nat} (h : 0 < 2 ^ k / 2) : 0 < k := by
  rcases Nat.eq_zero_or_pos k with h0 | h0
  · subst h0; simp at h
  · exact h0
theorem pw_none {k : Nat} (h : 2 ^ k / 2 = 0) : k = 0 := by
  rcases Nat.eq_zero_or_pos k with h0 | h0
  · exact h0
  · rw [pw_half h0] at h
    have := Nat.pow_pos (n := k - 1) (show 0 < 2 by decide)
    omega
theorem and1_i64 {P : Program} {w : World} {a : Nat} {x : Int} (hx : x = a) (ha : a < 9223372036854775808) : (Op.intBits .and .i64 x 1).run P w = .ok (.int .i64 ((a % 2 : Nat) : Int)) w := by
  subst hx
  have e1 : (BitVec.ofInt 64 (a : Int) &&& BitVec.ofInt 64 (1 : Int)).toNat = a % 2 := by
    rw [show (1 : Int) = ((1 : Nat) : Int) from rfl, BitVec.ofInt_natCast, BitVec.ofInt_natCast, BitVec.toNat_and, BitVec.toNat_ofNat, BitVec.toNat_ofNat, Nat.mod_eq_of_lt (by omega), Nat.mod_eq_of_lt (by omega), Nat.and_one_is_mod]
  have e2 : IntKind.i64.wrap ((a % 2 : Nat) : Int) = ((a % 2 : Nat) : Int) := wi64 (by omega) (by omega) rfl
  show Result.ok (Value.int .i64 (IntKind.i64.wrap ((BitVec.ofInt 64 (a : Int) &&& BitVec.ofInt 64 (1 : Int)).toNat : Int))) w = _
  rw [e1, e2]
theorem bitn_one {a : Nat} (h : bitn a ≤ 1) : a ≤ 1 := by have := bitn_le.1 h; omega
theorem pow_le_one {a n : Nat} (h : a ≤ 1) (hn : 0 < n) : a ^ n = a := by
  rcases (by omega : a = 0 ∨ a = 1) with rfl | rfl
  · exact Nat.zero_pow hn
  · simp
theorem exp_ok {v k : Nat} (h : v < 4294967296 ^ 8) (hk : k ≤ 510) : v ^ k < bigN := by
  have h1 : v ^ k ≤ (4294967296 ^ 8) ^ k := Nat.pow_le_pow_left (by omega) k
  rw [← Nat.pow_mul] at h1
  rw [bigN_eq]
  exact Nat.lt_of_le_of_lt h1 (Nat.pow_lt_pow_right (by decide) (by rw [c4_eq]; omega))
theorem nv_lt8 {l : List Nat} (h : Lim l) (hl : l.length ≤ 8) : nv l < 4294967296 ^ 8 := Nat.lt_of_lt_of_le (nv_lt h) (Nat.pow_le_pow_right (by decide) hl)
theorem prod_lt8 {a b : List Nat} (ha : Lim a) (hb : Lim b) (hl : a.length + b.length ≤ 8) : prodN [a, b] < 4294967296 ^ 8 := by
  have h := Nat.mul_lt_mul'' (nv_lt ha) (nv_lt hb)
  rw [← Nat.pow_add] at h
  simp only [prodN_cons, prodN_nil, Nat.mul_one]
  exact Nat.lt_of_lt_of_le h (Nat.pow_le_pow_right (by decide) hl)
end Go.Proofs.Ytdmgbahognfhbaa
namespace Go.Proofs.Ytdmgbahognfhbaa
open Go.RowKit
/-- Binomial coefficients. -/
def choose : Nat → Nat → Nat
  | _, 0 => 1
  | 0, _ + 1 => 0
  | n + 1, k + 1 => choose n k + choose n (k + 1)
theorem choose_zero (n : Nat) : choose n 0 = 1 := by cases n <;> rfl
theorem choose_succ (n k : Nat) : choose (n + 1) (k + 1) = choose n k + choose n (k + 1) := rfl
theorem choose_big : ∀ {n k : Nat}, n < k → choose n k = 0
  | 0, k + 1, _ => rfl
  | n + 1, k + 1, h => by rw [choose_succ, choose_big (by omega : n < k), choose_big (by omega : n < k + 1)]
theorem choose_self : ∀ n : Nat, choose n n = 1
  | 0 => rfl
  | n + 1 => by rw [choose_succ, choose_self n, choose_big (by omega)]
theorem choose_absorb : ∀ n k : Nat, (n + 1) * choose n k = choose (n + 1) (k + 1) * (k + 1)
  | 0, 0 => rfl
  | 0, k + 1 => by rw [choose_big (by omega : 0 < k + 1), choose_big (by omega : 0 + 1 < k + 1 + 1)]; simp
  | n + 1, 0 => by
    have h := choose_absorb n 0
    rw [choose_zero] at h ⊢
    rw [choose_succ (n + 1) 0, choose_zero]
    omega
  | n + 1, k + 1 => by
    have h1 := choose_absorb n k
    have h2 := choose_absorb n (k + 1)
    rw [choose_succ (n + 1) (k + 1), Nat.add_mul (choose (n + 1) (k + 1)), ← h2]
    rw [show choose (n + 1) (k + 1) * (k + 1 + 1) = choose (n + 1) (k + 1) * (k + 1) + choose (n + 1) (k + 1) by rw [Nat.mul_add, Nat.mul_one], ← h1]
    rw [show (n + 1 + 1) * choose (n + 1) (k + 1) = (n + 1) * choose (n + 1) (k + 1) + choose (n + 1) (k + 1) by rw [Nat.add_mul (n + 1) 1, Nat.one_mul]]
    rw [choose_succ n k, Nat.mul_add]
    omega
theorem choose_next {n k : Nat} (h : k ≤ n) : choose n k * (n - k) = choose n (k + 1) * (k + 1) := by
  have h1 := choose_absorb n k
  rw [choose_succ, Nat.add_mul (choose n k)] at h1
  obtain ⟨d, rfl⟩ : ∃ d, n = k + d := ⟨n - k, by omega⟩
  rw [show k + d - k = d by omega]
  have e : (k + d + 1) * choose (k + d) k = choose (k + d) k * (k + 1) + choose (k + d) k * d := by rw [Nat.mul_comm, show k + d + 1 = (k + 1) + d by omega, Nat.mul_add]
  omega
theorem choose_symm_add : ∀ a b : Nat, choose (a + b) a = choose (a + b) b
  | 0, b => by rw [Nat.zero_add, choose_zero, choose_self]
  | a + 1, 0 => by rw [Nat.add_zero, choose_zero, choose_self]
  | a + 1, b + 1 => by
    have h1 := choose_symm_add a (b + 1)
    have h2 := choose_symm_add (a + 1) b
    rw [show a + 1 + (b + 1) = (a + (b + 1)) + 1 by omega, choose_succ, choose_succ, h1]
    rw [show a + 1 + b = a + (b + 1) by omega] at h2
    rw [h2]; omega
theorem choose_symm {n k : Nat} (h : k ≤ n) : choose n (n - k) = choose n k := by
  have := choose_symm_add (n - k) k
  rw [show n - k + k = n by omega] at this
  exact this
theorem choose_pow : ∀ n k : Nat, choose n k ≤ 2 ^ n
  | _, 0 => by rw [choose_zero]; exact Nat.pow_pos (by decide)
  | 0, k + 1 => by rw [choose_big (by omega)]; exact Nat.zero_le _
  | n + 1, k + 1 => by rw [choose_succ, Nat.pow_succ]; have := choose_pow n k; have := choose_pow n (k + 1); omega
def c129 : Nat := 129
theorem choose_len {n k : Nat} (h : n ≤ 4097) : (digs (choose n k)).length ≤ 129 := by
  have e : n < 32 * c129 := by rw [show c129 = 129 from rfl]; omega
  refine digs_len (k := c129) ?_
  rw [pow32]
  exact Nat.lt_of_le_of_lt (choose_pow n k) (Nat.pow_lt_pow_right (by decide) e)
/-- The same at every whole number below. -/
def chz (n : Nat) (k : Int) : Nat := if k < 0 then 0 else choose n k.toNat
theorem chz_nat (n k : Nat) {K : Int} (h : K = k) : chz n K = choose n k := by
  subst h; unfold chz; rw [if_neg (by omega)]; simp
theorem chz_neg (n : Nat) {K : Int} (h : K < 0) : chz n K = 0 := by unfold chz; rw [if_pos h]
theorem chz_big {n : Nat} {K : Int} (h : (n : Int) < K) : chz n K = 0 := by unfold chz; rw [if_neg (by omega)]; exact choose_big (by omega)
/-! ### division by one limb -/
theorem div_lim {h l y : Nat} (hh : h < y) (hl : l < 4294967296) : (l + 4294967296 * h) / y < 4294967296 := by
  rw [Nat.div_lt_iff_lt_mul (by omega)]
  have : 4294967296 * (h + 1) ≤ 4294967296 * y := Nat.mul_le_mul_left _ hh
  omega
theorem drop_set {l : List Nat} {i : Nat} (v : Nat) (h : i < l.length) : nv ((l.set i v).drop i) = v + 4294967296 * nv (l.drop (i + 1)) := by
  rw [nv_drop, List.drop_set_of_lt (by omega)]
  simp [h]
theorem div_step {xa zs : List Nat} {i d r x q : Nat} (hi : i < zs.length) (h : nv (xa.drop (i + 1)) = nv (zs.drop (i + 1)) * d + r) (hx : xa.getD i 0 = x) (hq : q = (x + 4294967296 * r) / d) :
    nv (xa.drop i) = nv ((zs.set i q).drop i) * d + (x + 4294967296 * r) % d := by
  rw [drop_set _ hi, nv_drop, hx, h]
  have h1 := Nat.div_add_mod (x + 4294967296 * r) d
  rw [← hq, Nat.mul_comm] at h1
  rw [Nat.add_mul, Nat.mul_add, Nat.mul_assoc]
  omega
theorem div_end {a q d r : Nat} (h : a = q * d + r) (hr : r < d) : q = a / d ∧ r = a % d := by
  subst h
  have hd : 0 < d := by omega
  constructor
  · rw [Nat.mul_comm, Nat.mul_add_div hd, Nat.div_eq_of_lt hr]; omega
  · rw [Nat.mul_comm, Nat.mul_add_mod, Nat.mod_eq_of_lt hr]
/-- One step of the multiplication by a limb. -/
theorem smul_step {zs xa : List Nat} {i c f x t s : Nat} (hi : i < zs.length) (hg : zs.getD i 0 = x) (hxa : xa.getD i 0 = x) (h : nv zs + 4294967296 ^ i * c + nv (xa.take i) = nv (xa.take i) * f + t + nv xa) (hs : s = c + x * f) :
    nv (zs.set i (s % 4294967296)) + 4294967296 ^ (i + 1) * (s / 4294967296) + nv (xa.take (i + 1)) = nv (xa.take (i + 1)) * f + t + nv xa := by
  subst hs
  have h1 := nv_set ((c + x * f) % 4294967296) hi
  rw [hg] at h1
  have h2 := Nat.div_add_mod (c + x * f) 4294967296
  have h3 : 4294967296 ^ (i + 1) * ((c + x * f) / 4294967296) + 4294967296 ^ i * ((c + x * f) % 4294967296) = 4294967296 ^ i * c + 4294967296 ^ i * (x * f) := by
    rw [Nat.pow_succ, Nat.mul_assoc, ← Nat.mul_add, h2, Nat.mul_add]
  rw [nv_take_succ, hxa, Nat.add_mul, Nat.mul_assoc]
  omega
theorem wu32n {n : Nat} (h : n < 4294967296) : IntKind.u32.wrap (n : Int) = (n : Int) := wu32 (by omega) (by omega) rfl
theorem wu64n {n : Nat} (h : n < 18446744073709551616) : IntKind.u64.wrap (n : Int) = (n : Int) := wu64 (by omega) (by omega) rfl
theorem wi64n {n : Nat} (h : n < 9223372036854775808) : IntKind.i64.wrap (n : Int) = (n : Int) := wi64 (by omega) (by omega) rfl
end Go.Proofs.Ytdmgbahognfhbaa
set_option linter.unusedSimpArgs false
set_option linter.unusedVariables false
namespace Go.Proofs.Ytdmgbahognfhbaa
/-! ### numbers modulo n -/
theorem idvd {a b c : Int} (h : a ∣ b * c) (hg : Nat.gcd a.natAbs b.natAbs = 1) : a ∣ c := by
  have h1 := Int.natAbs_dvd_natAbs.2 h
  rw [Int.natAbs_mul] at h1
  exact Int.natAbs_dvd_natAbs.1 (Nat.Coprime.dvd_of_dvd_mul_left hg h1)
theorem dvd_small {n z : Int} (h : n ∣ z) (h1 : -n < z) (h2 : z < n) : z = 0 := by
  obtain ⟨k, rfl⟩ := h
  have hn : 0 < n := by omega
  rcases Int.lt_trichotomy k 0 with h | h | h
  · have := Int.mul_le_mul_of_nonneg_left (show k ≤ -1 by omega) (Int.le_of_lt hn)
    rw [Int.mul_neg, Int.mul_one] at this; omega
  · rw [h, Int.mul_zero]
  · have := Int.mul_le_mul_of_nonneg_left (show 1 ≤ k by omega) (Int.le_of_lt hn)
    rw [Int.mul_one] at this; omega
theorem igcd_emod (a n : Int) : Int.gcd (a % n) n = Int.gcd a n := by
  rw [Int.emod_def, show a - n * (a / n) = a + n * (-(a / n)) by rw [Int.mul_neg]; omega]
  exact Int.gcd_add_mul_left_left n a _
theorem gcd_emod (a : Int) {n : Nat} (hn : 0 < n) : Nat.gcd (a % n).toNat n = Nat.gcd a.natAbs n := by
  have h := igcd_emod a n
  have h0 := Int.emod_nonneg a (show (n : Int) ≠ 0 by omega)
  unfold Int.gcd at h
  rwa [show (a % (n : Int)).natAbs = (a % (n : Int)).toNat by omega, Int.natAbs_natCast] at h
theorem tmod_cases {a n : Int} (hn : 0 < n) : (a.tmod n = a % n ∧ (0 ≤ a ∨ a % n = 0)) ∨ (a.tmod n = a % n - n ∧ a < 0 ∧ 0 < a % n) := by
  rw [Int.tmod_eq_emod]
  have h1 := Int.emod_nonneg a (show n ≠ 0 by omega)
  by_cases h : 0 ≤ a ∨ n ∣ a
  · rw [if_pos h]
    refine .inl ⟨by simp, h.imp id fun h => Int.emod_eq_zero_of_dvd h⟩
  · rw [if_neg h]
    have h2 : a % n ≠ 0 := fun h3 => h (.inr (Int.dvd_of_emod_eq_zero h3))
    refine .inr ⟨by omega, by omega, by omega⟩
theorem tmod_neg {a n : Int} (hn : 0 < n) (h : a.tmod n < 0) : a.tmod n + n = a % n := by
  have h0 := Int.emod_nonneg a (show n ≠ 0 by omega)
  rcases tmod_cases (a := a) hn with h1 | h1 <;> omega
theorem tmod_nn {a n : Int} (hn : 0 < n) (h : 0 ≤ a.tmod n) : a.tmod n = a % n := by
  have h0 := Int.emod_lt_of_pos a hn
  rcases tmod_cases (a := a) hn with h1 | h1 <;> omega
theorem tmod_range {a n : Int} (hn : 0 < n) : -n < a.tmod n ∧ a.tmod n < n := by
  have h0 := Int.emod_lt_of_pos a hn
  have h1 := Int.emod_nonneg a (show n ≠ 0 by omega)
  rcases tmod_cases (a := a) hn with h1 | h1 <;> omega
/-! ### inverses -/
structure IsInv (a : Int) (n : Nat) (x : Nat) : Prop where
  lt : x < n
  dvd : (n : Int) ∣ a * x - 1
theorem IsInv.cop {a : Int} {n x : Nat} (h : IsInv a n x) : Nat.gcd a.natAbs n = 1 := by
  have hg1 : ((Nat.gcd a.natAbs n : Nat) : Int) ∣ a := Int.ofNat_dvd_left.2 (Nat.gcd_dvd_left _ _)
  have hg2 : ((Nat.gcd a.natAbs n : Nat) : Int) ∣ a * x - 1 := Int.dvd_trans (Int.ofNat_dvd.2 (Nat.gcd_dvd_right _ _)) h.dvd
  have h3 : ((Nat.gcd a.natAbs n : Nat) : Int) ∣ 1 := by
    have h4 := Int.dvd_sub (Int.dvd_mul_of_dvd_left (c := x) hg1) hg2
    rwa [show a * x - (a * x - 1) = 1 by omega] at h4
  have h5 : Nat.gcd a.natAbs n ∣ 1 := Int.ofNat_dvd.1 h3
  exact Nat.dvd_one.1 h5
theorem IsInv.uniq {a : Int} {n x y : Nat} (h : IsInv a n x) (h' : IsInv a n y) : x = y := by
  have h1 : (n : Int) ∣ a * ((x : Int) - y) := by
    have := Int.dvd_sub h.dvd h'.dvd
    rwa [show a * (x : Int) - 1 - (a * y - 1) = a * ((x : Int) - y) by rw [Int.mul_sub]; omega] at this
  have h2 := idvd h1 (by rw [Int.natAbs_natCast, Nat.gcd_comm]; exact h.cop)
  have := h.lt; have := h'.lt
  have := dvd_small h2 (by omega) (by omega)
  omega
theorem IsInv.emod {a : Int} {n x : Nat} (h : IsInv (a % n) n x) : IsInv a n x := ⟨h.lt, by
  have h1 := h.dvd
  have e : a * x - 1 = (a % n) * x - 1 + n * ((a / n) * x) := by
    have := Int.emod_def a n
    rw [this, Int.sub_mul, Int.mul_assoc]; omega
  rw [e]; exact Int.dvd_add h1 (Int.dvd_mul_right _ _)⟩
theorem IsInv.emod' {a : Int} {n x : Nat} (h : IsInv a n x) : IsInv (a % n) n x := ⟨h.lt, by
  have h1 := h.dvd
  have e : (a % n) * x - 1 = a * x - 1 - n * ((a / n) * x) := by
    have := Int.emod_def a n
    rw [this, Int.sub_mul, Int.mul_assoc]; omega
  rw [e]; exact Int.dvd_sub h1 (Int.dvd_mul_right _ _)⟩
/-- What Euclid's algorithm gives. -/
theorem IsInv.mk' {a X : Int} {n : Nat} (hn : 0 < n) (h : (n : Int) ∣ X * a - 1) : IsInv a n (X % n).toNat := by
  have h0 := Int.emod_nonneg X (show (n : Int) ≠ 0 by omega)
  have h1 := Int.emod_lt_of_pos X (show 0 < (n : Int) by omega)
  refine ⟨by omega, ?_⟩
  rw [Int.toNat_of_nonneg h0]
  have e : a * (X % n) - 1 = X * a - 1 - n * ((X / n) * a) := by
    have := Int.emod_def X n
    rw [this, Int.mul_sub, Int.mul_comm a X, Int.mul_comm a, Int.mul_assoc]; omega
  rw [e]; exact Int.dvd_sub h (Int.dvd_mul_right _ _)
/-! ### coefficients of Bezout -/
structure Bez (a b : Int) (g : Nat) (x y : Int) : Prop where
  gg : g = Nat.gcd a.natAbs b.natAbs
  x0 : 0 ≤ x
  x1 : x < ((b.natAbs / g : Nat) : Int)
  e : a * x + b * y = g
theorem Bez.uniq {a b : Int} {g g' : Nat} {x y x' y' : Int} (hb : b ≠ 0) (h : Bez a b g x y) (h' : Bez a b g' x' y') : g = g' ∧ x = x' ∧ y = y' := by
  have hg : g = g' := h.gg.trans h'.gg.symm
  subst hg
  have hgp : 0 < g := by rw [h.gg]; exact Nat.gcd_pos_of_pos_right _ (by omega)
  obtain ⟨a1, ha⟩ : (g : Int) ∣ a := by rw [h.gg]; exact Int.ofNat_dvd_left.2 (Nat.gcd_dvd_left _ _)
  obtain ⟨b1, hb1⟩ : (g : Int) ∣ b := by rw [h.gg]; exact Int.ofNat_dvd_left.2 (Nat.gcd_dvd_right _ _)
  have hc : Nat.gcd a1.natAbs b1.natAbs = 1 := by
    have h2 := h.gg
    rw [ha, hb1, Int.natAbs_mul, Int.natAbs_mul, Int.natAbs_natCast, Nat.gcd_mul_left] at h2
    have h3 : g * Nat.gcd a1.natAbs b1.natAbs = g * 1 := by omega
    exact Nat.eq_of_mul_eq_mul_left hgp h3
  have hB : b.natAbs / g = b1.natAbs := by rw [hb1, Int.natAbs_mul, Int.natAbs_natCast]; exact Nat.mul_div_cancel_left _ hgp
  have e1 : a1 * x + b1 * y = a1 * x' + b1 * y' := by
    have h1 := h.e; have h2 := h'.e
    have h3 : (g : Int) * (a1 * x + b1 * y) = g * (a1 * x' + b1 * y') := by
      rw [Int.mul_add, Int.mul_add, ← Int.mul_assoc, ← Int.mul_assoc, ← Int.mul_assoc, ← Int.mul_assoc, ← ha, ← hb1]; omega
    exact Int.eq_of_mul_eq_mul_left (by omega) h3
  have e2 : b1 ∣ a1 * (x - x') := ⟨y' - y, by rw [Int.mul_sub, Int.mul_sub]; omega⟩
  have e3 := idvd e2 (by rw [Nat.gcd_comm]; exact hc)
  have hx : x - x' = 0 := by
    have r1 := h.x0; have r2 := h.x1; have r3 := h'.x0; have r4 := h'.x1
    rw [hB] at r2 r4
    exact dvd_small (n := (b1.natAbs : Int)) (Int.natAbs_dvd.2 e3) (by omega) (by omega)
  have hx' : x = x' := by omega
  subst hx'
  have hb0 : b1 ≠ 0 := fun h => hb (by rw [hb1, h, Int.mul_zero])
  exact ⟨rfl, rfl, Int.eq_of_mul_eq_mul_left hb0 (by omega)⟩
/-- The rest of the division makes the second coefficient. -/
theorem Bez.of {a b x : Int} {g : Nat} (hb : b ≠ 0) (hg : g = Nat.gcd a.natAbs b.natAbs) (h0 : 0 ≤ x) (h1 : x < ((b.natAbs / g : Nat) : Int)) (hd : (b.natAbs : Int) ∣ x * a - g) : Bez a b g x (((g : Int) - a * x).tdiv b) := by
  refine ⟨hg, h0, h1, ?_⟩
  have h2 : b ∣ (g : Int) - a * x := by
    have h3 := Int.natAbs_dvd.1 hd
    obtain ⟨k, hk⟩ := h3
    exact ⟨-k, by rw [Int.mul_neg, ← hk, Int.mul_comm a x]; omega⟩
  rw [Int.mul_tdiv_cancel' h2]; omega
/-! ### the theorem of the Chinese remainders -/
inductive Chin (rs ms : List Int) : Nat → Nat → Nat → Option (Nat × Nat) → Prop
  | done {i x P : Nat} : ms.length ≤ i → Chin rs ms i x P (some (x, P))
  | fail {i x P : Nat} : i < ms.length → Nat.gcd P (ms.getD i 0).natAbs ≠ 1 → Chin rs ms i x P none
  | step {i x P m y : Nat} {R : Option (Nat × Nat)} : i < ms.length → ms.getD i 0 = m → 0 < m → IsInv P m y → Chin rs ms (i + 1) (x + P * (((rs.getD i 0 - x) % m).toNat * y % m)) (P * m) R → Chin rs ms i x P R
theorem Chin.uniq {rs ms : List Int} {i x P : Nat} {R R' : Option (Nat × Nat)} (h : Chin rs ms i x P R) (h' : Chin rs ms i x P R') : R = R' := by
  induction h with
  | done hi =>
    cases h' with
    | done => rfl
    | fail h1 => omega
    | step h1 => omega
  | fail hi hg =>
    cases h' with
    | done h1 => omega
    | fail => rfl
    | step h1 hm h0 hv => rw [hm] at hg; exact absurd (by have := hv.cop; simpa using this) hg
  | step h1 hm h0 hv hr ih =>
    cases h' with
    | done h2 => omega
    | fail h2 hg => rw [hm] at hg; exact absurd (by have := hv.cop; simpa using this) hg
    | step h2 hm' h0' hv' hr' =>
      rw [hm] at hm'
      have := Int.ofNat_inj.1 hm'
      subst this
      have := hv.uniq hv'
      subst this
      exact ih hr'
theorem chin_step {x P m y : Nat} {r : Int} (hm : 0 < m) (hv : IsInv P m y) :
    ((x + P * (((r - x) % m).toNat * y % m) : Nat) : Int) % m = r % m := by
  have h0 := Int.emod_nonneg (r - x) (show (m : Int) ≠ 0 by omega)
  apply Int.emod_eq_emod_iff_emod_sub_eq_zero.2
  apply Int.emod_eq_zero_of_dvd
  obtain ⟨k, hk⟩ := hv.dvd
  have e1 : ((((r - x) % m).toNat * y % m : Nat) : Int) = ((r - x) % m * y) % m := by push_cast; rw [Int.toNat_of_nonneg h0]
  have e2 : ((x + P * (((r - x) % m).toNat * y % m) : Nat) : Int) = x + P * (((r - x) % m * y) % m) := by rw [← e1]; push_cast; rfl
  rw [e2, Int.emod_def ((r - x) % m * y), Int.emod_def (r - x)]
  generalize (r - x) / (m : Int) = q1
  generalize (((r - x) - m * q1) * y) / (m : Int) = q2
  refine ⟨k * (r - x) - P * y * q1 - P * q2, ?_⟩
  have : (P : Int) * y = 1 + m * k := by omega
  have e3 : (P : Int) * ((r - x - m * q1) * y - m * q2) = (P * y) * (r - x) - P * y * (m * q1) - P * (m * q2) := by grind
  rw [e3]
  grind
structure ChinR (rs ms : List Int) (i x P X N : Nat) : Prop where
  dvd : P ∣ N
  cong : (P : Int) ∣ (X : Int) - x
  lt : x < P → X < N
  all : ∀ j, i ≤ j → j < ms.length → (X : Int) % ms.getD j 0 = rs.getD j 0 % ms.getD j 0
  pos : ∀ j, i ≤ j → j < ms.length → 0 < ms.getD j 0
  uniq : ∀ z : Int, (P : Int) ∣ z - X → (∀ j, i ≤ j → j < ms.length → ms.getD j 0 ∣ z - X) → (N : Int) ∣ z - X
theorem Chin.ok {rs ms : List Int} {i x P X N : Nat} (h : Chin rs ms i x P (some (X, N))) : ChinR rs ms i x P X N := by
  generalize hR : some (X, N) = R at h
  induction h with
  | done hi =>
    simp only [Option.some.injEq, Prod.mk.injEq] at hR
    obtain ⟨rfl, rfl⟩ := hR
    exact ⟨Nat.dvd_refl _, by simp, id, fun j h1 h2 => by omega, fun j h1 h2 => by omega, fun z h _ => h⟩
  | fail => cases hR
  | step h1 hm h0 hv hr ih =>
    rename_i i x P m y R
    have I := ih hR
    have hPm : (P : Int) ∣ ((P * m : Nat) : Int) := ⟨m, by push_cast; rfl⟩
    have hmm : (m : Int) ∣ ((P * m : Nat) : Int) := ⟨P, by push_cast; rw [Int.mul_comm]⟩
    have hx := I.cong
    have hxm : (X : Int) % m = rs.getD i 0 % m := by
      rw [← chin_step (x := x) (r := rs.getD i 0) h0 hv]
      exact Int.emod_eq_emod_iff_emod_sub_eq_zero.2 (Int.emod_eq_zero_of_dvd (Int.dvd_trans hmm hx))
    refine ⟨Nat.dvd_trans (Nat.dvd_mul_right P m) I.dvd, ?_, fun hlt => I.lt ?_, fun j hj hl => ?_, fun j hj hl => ?_, fun z hz ha => ?_⟩
    · have := Int.dvd_trans hPm hx
      have h2 := Int.dvd_add this (show (P : Int) ∣ ((P * (((rs.getD i 0 - x) % m).toNat * y % m) : Nat) : Int) from ⟨_, by push_cast; rfl⟩)
      rwa [show (X : Int) - ((x + P * (((rs.getD i 0 - x) % m).toNat * y % m) : Nat) : Int) + ((P * (((rs.getD i 0 - x) % m).toNat * y % m) : Nat) : Int) = (X : Int) - x by omega] at h2
    · have h3 : ((rs.getD i 0 - x) % m).toNat * y % m < m := Nat.mod_lt _ h0
      generalize ((rs.getD i 0 - x) % m).toNat * y % m = k at *
      have h4 : P * (k + 1) ≤ P * m := Nat.mul_le_mul_left P h3
      rw [Nat.mul_add, Nat.mul_one] at h4
      omega
    · rcases Nat.eq_or_lt_of_le hj with rfl | h4
      · rw [hm]; exact hxm
      · exact I.all j h4 hl
    · rcases Nat.eq_or_lt_of_le hj with rfl | h4
      · rw [hm]; omega
      · exact I.pos j h4 hl
    · refine I.uniq z ?_ fun j h4 h5 => ha j (by omega) h5
      have hmz : (m : Int) ∣ z - X := by have := ha i (Nat.le_refl _) h1; rwa [hm] at this
      have hc : Nat.gcd P m = 1 := by have := hv.cop; simpa using this
      have h6 : P ∣ (z - X).natAbs := Int.ofNat_dvd_left.1 hz
      have h7 : m ∣ (z - X).natAbs := Int.ofNat_dvd_left.1 hmz
      exact Int.ofNat_dvd_left.2 (Nat.Coprime.mul_dvd_of_dvd_of_dvd hc h6 h7)
end Go.Proofs.Ytdmgbahognfhbaa
namespace Go.Proofs.Ytdmgbahognfhbaa
open Go.RowKit
def sumTo (f : Nat → Nat) : Nat → Nat
  | 0 => 0
  | j + 1 => sumTo f j + f j
theorem sumTo_add (f g : Nat → Nat) : ∀ j, sumTo (fun i => f i + g i) j = sumTo f j + sumTo g j
  | 0 => rfl
  | j + 1 => by simp only [sumTo]; rw [sumTo_add f g j]; omega
theorem sumTo_shift (f : Nat → Nat) : ∀ j, sumTo f (j + 1) = f 0 + sumTo (fun i => f (i + 1)) j
  | 0 => by simp [sumTo]
  | j + 1 => by rw [sumTo, sumTo_shift f j]; simp only [sumTo]; omega
theorem sumTo_zero : ∀ j, sumTo (fun _ => 0) j = 0
  | 0 => rfl
  | j + 1 => by simp only [sumTo]; rw [sumTo_zero j]
theorem sumTo_congr {f g : Nat → Nat} : ∀ {j : Nat}, (∀ i, i < j → f i = g i) → sumTo f j = sumTo g j
  | 0, _ => rfl
  | j + 1, h => by simp only [sumTo]; rw [sumTo_congr (fun i hi => h i (by omega)), h j (by omega)]
theorem sumTo_le (f : Nat → Nat) {j k : Nat} (h : j ≤ k) : sumTo f j ≤ sumTo f k := by
  induction h with
  | refl => exact Nat.le_refl _
  | step _ ih => simp only [sumTo]; omega
/-- The first terms of the identity of Vandermonde. -/
def vs (p q r j : Nat) : Nat := sumTo (fun i => choose p i * choose q (r - i)) j
theorem vs_all : ∀ p q r : Nat, vs p q r (r + 1) = choose (p + q) r
  | 0, q, r => by
    unfold vs
    rw [sumTo_shift, sumTo_congr (g := fun _ => 0) (fun i _ => by rw [choose_big (by omega)]; simp), sumTo_zero, choose_zero]
    simp
  | p + 1, q, 0 => by simp [vs, sumTo, choose_zero]
  | p + 1, q, r + 1 => by
    have h1 := vs_all p q r
    have h2 := vs_all p q (r + 1)
    rw [show p + 1 + q = (p + q) + 1 by omega, choose_succ, ← h1, ← h2]
    unfold vs
    rw [sumTo_shift, sumTo_shift (fun i => choose p i * choose q (r + 1 - i)), choose_zero, choose_zero]
    rw [sumTo_congr (g := fun i => choose p i * choose q (r - i) + choose p (i + 1) * choose q (r + 1 - (i + 1))) (fun i _ => by rw [choose_succ, Nat.add_mul, show r + 1 - (i + 1) = r - i by omega]), sumTo_add]
    omega
theorem vs_len {p q r j : Nat} (h : p + q ≤ 4096) (hj : j ≤ r + 1) : (digs (vs p q r j)).length ≤ 129 := by
  have h1 : vs p q r j ≤ choose (p + q) r := by rw [← vs_all]; exact sumTo_le _ hj
  have h2 := choose_len (n := p + q) (k := r) (by omega)
  rw [show 129 = c129 from rfl] at h2 ⊢
  exact digs_len (Nat.lt_of_le_of_lt h1 (digs_len_iff.1 h2))
theorem vs_step (p q r j : Nat) : vs p q r (j + 1) = vs p q r j + choose p j * choose q (r - j) := rfl
theorem choose_pos : ∀ {n k : Nat}, k ≤ n → 0 < choose n k
  | n, 0, _ => by rw [choose_zero]; decide
  | n + 1, k + 1, h => by rw [choose_succ]; have := choose_pos (show k ≤ n by omega); omega
theorem chz_len {n r : Nat} {K : Int} (h : K = r) : (n < r → (digs (chz n K)).length = 0) ∧ (r ≤ n → 0 < (digs (chz n K)).length) := by
  rw [chz_nat n r h]
  constructor
  · intro h1; rw [choose_big h1]; rfl
  · intro h1
    have h2 := choose_pos h1
    rcases Nat.eq_zero_or_pos (digs (choose n r)).length with h3 | h3
    · have h4 := nv_digs (choose n r)
      rw [List.eq_nil_of_length_eq_zero h3] at h4
      simp at h4; omega
    · exact h3
end Go.Proofs.Ytdmgbahognfhbaa
set_option linter.unusedSimpArgs false
set_option linter.unusedVariables false
namespace Go.Proofs.Ytdmgbahognfhbaa
/-! ### primes -/
theorem prime_cop {p k : Nat} (hp : IsLf p p) (hk : k % p ≠ 0) : Nat.gcd p k = 1 := by
  have h1 := Nat.gcd_dvd_left p k
  rcases Nat.lt_or_ge (Nat.gcd p k) 2 with h | h
  · have : 0 < Nat.gcd p k := Nat.gcd_pos_of_pos_left _ (by have := hp.two; omega)
    omega
  · have h2 := hp.min _ h (Nat.mod_eq_zero_of_dvd h1)
    have h3 := Nat.le_of_dvd (by have := hp.two; omega) h1
    have h4 : Nat.gcd p k = p := by omega
    have h5 := Nat.gcd_dvd_right p k
    rw [h4] at h5
    exact absurd (Nat.mod_eq_zero_of_dvd h5) hk
theorem prime_dvd {p a b : Nat} (hp : IsLf p p) (h : p ∣ a * b) : p ∣ a ∨ p ∣ b := by
  by_cases ha : a % p = 0
  · exact .inl (Nat.dvd_of_mod_eq_zero ha)
  · exact .inr (Nat.Coprime.dvd_of_dvd_mul_left (prime_cop hp ha) h)
theorem prime_dvd_pow {p q : Nat} (hp : IsLf p p) : ∀ {e : Nat}, p ∣ q ^ e → p ∣ q
  | 0, h => by rw [Nat.pow_zero] at h; have := Nat.le_of_dvd (by decide) h; have := hp.two; omega
  | e + 1, h => by
    rw [Nat.pow_succ] at h
    rcases prime_dvd hp h with h | h
    · exact prime_dvd_pow hp h
    · exact h
theorem lf_exists : ∀ {n : Nat}, 2 ≤ n → ∃ p, IsLf n p := fun {n} hn => by
  have key : ∀ k, k ≤ n → (∃ p, IsLf n p) ∨ ∀ e, e < k → 2 ≤ e → n % e ≠ 0 := by
    intro k
    induction k with
    | zero => intro _; exact .inr fun e h => by omega
    | succ k ih =>
      intro hk
      rcases ih (by omega) with h | h
      · exact .inl h
      · by_cases h2 : 2 ≤ k ∧ n % k = 0
        · exact .inl ⟨k, .of_lt h2.1 h2.2 h⟩
        · refine .inr fun e he h3 => ?_
          rcases Nat.lt_succ_iff_lt_or_eq.1 he with h4 | rfl
          · exact h e h4 h3
          · exact fun h4 => h2 ⟨h3, h4⟩
  rcases key n (Nat.le_refl n) with h | h
  · exact h
  · exact ⟨n, .of_lt hn (Nat.mod_self n) h⟩
theorem IsFac.mem {n q : Nat} {L : List (Nat × Nat)} (h : IsFac n L) (hq : IsLf q q) (hd : q ∣ n) : ∃ e, (q, e) ∈ L := by
  induction h with
  | one => have := Nat.le_of_dvd (by decide) hd; have := hq.two; omega
  | step hl hn hm he h2 ih =>
    rename_i n p e m L
    rw [hn] at hd
    rcases prime_dvd hq hd with h | h
    · obtain ⟨e, he⟩ := ih h; exact ⟨e, List.mem_cons_of_mem _ he⟩
    · have h3 := prime_dvd_pow hq h
      have h4 := (lf_prime hl).min q hq.two (Nat.mod_eq_zero_of_dvd h3)
      have h5 := Nat.le_of_dvd (by have := hl.two; omega) h3
      have : q = p := by omega
      subst this; exact ⟨e, List.mem_cons_self⟩
/-! ### congruence to 1 -/
def One (n : Nat) (x : Nat) : Prop := (n : Int) ∣ (x : Int) - 1
theorem One.mul {n x y : Nat} (hx : One n x) (hy : One n y) : One n (x * y) := by
  unfold One at *
  have : ((x * y : Nat) : Int) - 1 = x * ((y : Int) - 1) + ((x : Int) - 1) := by push_cast; rw [Int.mul_sub]; omega
  rw [this]; exact Int.dvd_add (Int.dvd_mul_of_dvd_right hy) hx
theorem One.pow {n x : Nat} (hx : One n x) : ∀ k, One n (x ^ k)
  | 0 => by unfold One; simp
  | k + 1 => by rw [Nat.pow_succ]; exact (hx.pow k).mul hx
theorem One.iff {n x : Nat} : One n x ↔ x % n = 1 % n := by
  unfold One
  constructor
  · intro h
    have h2 := Int.emod_eq_emod_iff_emod_sub_eq_zero.2 (Int.emod_eq_zero_of_dvd h)
    have : ((x % n : Nat) : Int) = ((1 % n : Nat) : Int) := by push_cast; exact h2
    exact Int.ofNat_inj.1 this
  · intro h
    refine Int.dvd_of_emod_eq_zero (Int.emod_eq_emod_iff_emod_sub_eq_zero.1 ?_)
    have : ((x % n : Nat) : Int) = ((1 % n : Nat) : Int) := by rw [h]
    push_cast at this; exact this
theorem One.cancel {n x y : Nat} (hx : One n x) (h : One n (x * y)) : One n y := by
  unfold One at *
  have : (y : Int) - 1 = (((x * y : Nat) : Int) - 1) - ((x : Int) - 1) * y := by push_cast; rw [Int.sub_mul]; omega
  rw [this]; exact Int.dvd_sub h (Int.dvd_mul_of_dvd_left hx)
theorem One.mod {n a : Nat} (k : Nat) : One n ((a % n) ^ k) ↔ One n (a ^ k) := by rw [One.iff, One.iff, ← Nat.pow_mod]
theorem One.rem {n a x y : Nat} (hx : One n (a ^ x)) (hy : One n (a ^ y)) : One n (a ^ (x % y)) := by
  have h : a ^ x = a ^ (y * (x / y)) * a ^ (x % y) := by rw [← Nat.pow_add, Nat.div_add_mod]
  rw [h] at hx
  exact One.cancel (by rw [Nat.pow_mul]; exact hy.pow _) hx
theorem One.gcd {n a : Nat} : ∀ {x y : Nat}, One n (a ^ x) → One n (a ^ y) → One n (a ^ Nat.gcd x y) := fun {x y} => by
  induction x, y using Nat.gcd.induction with
  | H0 y => intro _ h; simpa using h
  | H1 x y h0 ih => intro hx hy; rw [Nat.gcd_rec]; exact ih (One.rem hy hx) hx
theorem One.cop {n a k : Nat} (h : One n (a ^ k)) (hk : 0 < k) : Nat.gcd a n = 1 := by
  obtain ⟨k, rfl⟩ : ∃ j, k = j + 1 := ⟨k - 1, by omega⟩
  unfold One at h
  have h1 : ((Nat.gcd a n : Nat) : Int) ∣ ((a ^ (k + 1) : Nat) : Int) := Int.ofNat_dvd.2 (Nat.dvd_trans (Nat.gcd_dvd_left a n) ⟨a ^ k, by rw [Nat.pow_succ, Nat.mul_comm]⟩)
  have h2 : ((Nat.gcd a n : Nat) : Int) ∣ ((a ^ (k + 1) : Nat) : Int) - 1 := Int.dvd_trans (Int.ofNat_dvd.2 (Nat.gcd_dvd_right a n)) h
  have h3 := Int.dvd_sub h1 h2
  rw [show ((a ^ (k + 1) : Nat) : Int) - (((a ^ (k + 1) : Nat) : Int) - 1) = ((1 : Nat) : Int) by omega] at h3
  exact Nat.dvd_one.1 (Int.ofNat_dvd.1 h3)
/-! ### the theorem of Fermat, the theorem of Euler -/
theorem binom (a : Nat) : ∀ n, (a + 1) ^ n = sumTo (fun k => choose n k * a ^ k) (n + 1)
  | 0 => by simp [sumTo, choose]
  | n + 1 => by
    have hS : sumTo (fun k => choose (n + 1) k * a ^ k) (n + 1 + 1) = choose (n + 1) 0 * a ^ 0 + sumTo (fun k => choose (n + 1) (k + 1) * a ^ (k + 1)) (n + 1) := sumTo_shift (fun k => choose (n + 1) k * a ^ k) (n + 1)
    have hc : sumTo (fun k => choose (n + 1) (k + 1) * a ^ (k + 1)) (n + 1) = sumTo (fun k => choose n k * a ^ k * a) (n + 1) + sumTo (fun k => choose n (k + 1) * a ^ (k + 1)) (n + 1) := by
      rw [← sumTo_add]
      exact sumTo_congr (fun i _ => by rw [choose_succ, Nat.add_mul, Nat.pow_succ, Nat.mul_assoc])
    have h1 : ∀ m, sumTo (fun k => choose n k * a ^ k * a) m = sumTo (fun k => choose n k * a ^ k) m * a := by
      intro m; induction m with
      | zero => simp [sumTo]
      | succ m ih => simp only [sumTo, ih, Nat.add_mul]
    have h2 : sumTo (fun k => choose n (k + 1) * a ^ (k + 1)) (n + 1) + choose n 0 * a ^ 0 = sumTo (fun k => choose n k * a ^ k) (n + 1) := by
      have e1 : sumTo (fun k => choose n k * a ^ k) (n + 1) = choose n 0 * a ^ 0 + sumTo (fun k => choose n (k + 1) * a ^ (k + 1)) n := sumTo_shift (fun k => choose n k * a ^ k) n
      have e2 : sumTo (fun k => choose n (k + 1) * a ^ (k + 1)) (n + 1) = sumTo (fun k => choose n (k + 1) * a ^ (k + 1)) n := by
        simp only [sumTo]; rw [choose_big (by omega)]; simp
      rw [e2, e1]; omega
    rw [Nat.pow_succ, binom a n, hS, hc, h1]
    rw [choose_zero] at h2 ⊢
    rw [Nat.mul_add, Nat.mul_one]; omega
theorem prime_choose {p k : Nat} (hp : IsLf p p) (h0 : 0 < k) (hk : k < p) : p ∣ choose p k := by
  obtain ⟨n, rfl⟩ : ∃ n, p = n + 1 := ⟨p - 1, by omega⟩
  obtain ⟨j, rfl⟩ : ∃ j, k = j + 1 := ⟨k - 1, by omega⟩
  have h := choose_absorb n j
  have h2 : (n + 1) ∣ choose (n + 1) (j + 1) * (j + 1) := ⟨_, h.symm⟩
  exact Nat.Coprime.dvd_of_dvd_mul_right (prime_cop hp (by rw [Nat.mod_eq_of_lt hk]; omega)) h2
theorem sumTo_dvd {p : Nat} {f : Nat → Nat} : ∀ n, (∀ i, i < n → p ∣ f i) → p ∣ sumTo f n
  | 0, _ => Nat.dvd_zero p
  | n + 1, h => by simp only [sumTo]; exact Nat.dvd_add (sumTo_dvd n fun i hi => h i (by omega)) (h n (by omega))
theorem fermat {p : Nat} (hp : IsLf p p) : ∀ a : Nat, (p : Int) ∣ ((a ^ p : Nat) : Int) - a
  | 0 => by rw [Nat.zero_pow (by have := hp.two; omega)]; simp
  | a + 1 => by
    obtain ⟨n, rfl⟩ : ∃ n, p = n + 1 := ⟨p - 1, by have := hp.two; omega⟩
    have ih := fermat hp a
    have h1 : (a + 1) ^ (n + 1) = 1 + sumTo (fun k => choose (n + 1) (k + 1) * a ^ (k + 1)) n + a ^ (n + 1) := by
      rw [binom a (n + 1), sumTo_shift]
      simp only [sumTo, choose_self, choose_zero, Nat.pow_zero, Nat.one_mul]
      omega
    obtain ⟨k, hk⟩ := sumTo_dvd (p := n + 1) (f := fun k => choose (n + 1) (k + 1) * a ^ (k + 1)) n (fun i hi => Nat.dvd_trans (prime_choose hp (by omega) (by omega)) ⟨_, rfl⟩)
    rw [h1, hk]
    have e : (((1 + (n + 1) * k + a ^ (n + 1) : Nat)) : Int) - ((a + 1 : Nat) : Int) = ((n + 1 : Nat) : Int) * k + (((a ^ (n + 1) : Nat) : Int) - a) := by push_cast; omega
    rw [e]; exact Int.dvd_add (Int.dvd_mul_right _ _) ih
theorem fermat1 {p a : Nat} (hp : IsLf p p) (ha : a % p ≠ 0) : One p (a ^ (p - 1)) := by
  have h := fermat hp a
  have e : ((a ^ p : Nat) : Int) - a = a * (((a ^ (p - 1) : Nat) : Int) - 1) := by
    obtain ⟨n, rfl⟩ : ∃ n, p = n + 1 := ⟨p - 1, by have := hp.two; omega⟩
    rw [Nat.add_sub_cancel, Nat.pow_succ, Int.mul_sub, Int.mul_one, Nat.mul_comm]; push_cast; rfl
  rw [e] at h
  exact idvd h (by simpa using prime_cop hp ha)
def geo (x : Nat) : Nat → Nat | 0 => 0 | n + 1 => geo x n + x ^ n
theorem geo_mul (x : Nat) : ∀ n, ((x : Int) - 1) * geo x n = ((x ^ n : Nat) : Int) - 1
  | 0 => by simp [geo]
  | n + 1 => by
    have := geo_mul x n
    simp only [geo, Nat.pow_succ]; push_cast; rw [Int.mul_add]; push_cast at this; rw [this]; grind
theorem geo_dvd {p x : Nat} (h : One p x) : ∀ n, (p : Int) ∣ (geo x n : Int) - n
  | 0 => by simp [geo]
  | n + 1 => by
    have h1 := geo_dvd h n
    have h2 := h.pow n
    have : (geo x (n + 1) : Int) - ((n + 1 : Nat) : Int) = ((geo x n : Int) - n) + (((x ^ n : Nat) : Int) - 1) := by simp only [geo]; push_cast; omega
    rw [this]; exact Int.dvd_add h1 h2
theorem lift_one {p x e : Nat} (h : One (p ^ (e + 1)) x) : One (p ^ (e + 2)) (x ^ p) := by
  have h1 : One p x := Int.dvd_trans (Int.ofNat_dvd.2 ⟨p ^ e, by rw [Nat.pow_succ, Nat.mul_comm]⟩) h
  have h2 : (p : Int) ∣ (geo x p : Int) := by have := Int.dvd_add (geo_dvd h1 p) (Int.dvd_refl (p : Int)); rwa [Int.sub_add_cancel] at this
  unfold One
  rw [← geo_mul, Nat.pow_succ]
  push_cast
  exact Int.mul_dvd_mul (by unfold One at h; push_cast at h; exact h) h2
theorem euler_pp {p a : Nat} (hp : IsLf p p) (ha : a % p ≠ 0) : ∀ e, One (p ^ (e + 1)) (a ^ (p ^ e * (p - 1)))
  | 0 => by simpa using fermat1 hp ha
  | e + 1 => by
    rw [show p ^ (e + 1) * (p - 1) = p ^ e * (p - 1) * p by rw [Nat.pow_succ, Nat.mul_right_comm], Nat.pow_mul]
    exact lift_one (euler_pp hp ha e)
def phiL : List (Nat × Nat) → Nat | [] => 1 | (p, e) :: L => p ^ (e - 1) * (p - 1) * phiL L
theorem cop_pow {p m : Nat} (hp : IsLf p p) (hm : m % p ≠ 0) : ∀ e, Nat.gcd m (p ^ e) = 1
  | 0 => by simp
  | e + 1 => by
    rw [Nat.pow_succ]
    exact Nat.Coprime.mul_right (cop_pow hp hm e) (by rw [Nat.Coprime, Nat.gcd_comm]; exact prime_cop hp hm)
theorem euler {n a : Nat} {L : List (Nat × Nat)} (h : IsFac n L) (ha : Nat.gcd a n = 1) : One n (a ^ phiL L) := by
  induction h with
  | one => exact ⟨_, (Int.one_mul _).symm⟩
  | step hl hn hm he h2 ih =>
    rename_i n p e m L
    obtain ⟨e, rfl⟩ : ∃ j, e = j + 1 := ⟨e - 1, by omega⟩
    have hp := lf_prime hl
    have hap : a % p ≠ 0 := fun h => by
      have h3 : p ∣ Nat.gcd a n := Nat.dvd_gcd (Nat.dvd_of_mod_eq_zero h) (Nat.dvd_of_mod_eq_zero hl.dvd)
      rw [ha] at h3
      have := Nat.le_of_dvd (by decide) h3; have := hp.two; omega
    have ham : Nat.gcd a m = 1 := Nat.Coprime.coprime_dvd_right ⟨p ^ (e + 1), hn⟩ ha
    have e1 : One (p ^ (e + 1)) (a ^ phiL ((p, e + 1) :: L)) := by
      simp only [phiL, Nat.add_sub_cancel]; rw [Nat.pow_mul]; exact (euler_pp hp hap e).pow _
    have e2 : One m (a ^ phiL ((p, e + 1) :: L)) := by
      simp only [phiL]; rw [Nat.mul_comm, Nat.pow_mul]; exact (ih ham).pow _
    rw [hn]
    unfold One at *
    exact Int.ofNat_dvd_left.2 (Nat.Coprime.mul_dvd_of_dvd_of_dvd (cop_pow hp hm (e + 1)) (Int.ofNat_dvd_left.1 e2) (Int.ofNat_dvd_left.1 e1))
theorem phiL_pos {n : Nat} {L : List (Nat × Nat)} (h : IsFac n L) : 0 < phiL L ∧ phiL L ≤ n := by
  induction h with
  | one => decide
  | step hl hn hm he h2 ih =>
    rename_i n p e m L
    obtain ⟨e, rfl⟩ : ∃ j, e = j + 1 := ⟨e - 1, by omega⟩
    have := hl.two
    simp only [phiL, Nat.add_sub_cancel]
    have h3 : 0 < p ^ e := Nat.pow_pos (by omega)
    refine ⟨Nat.mul_pos (Nat.mul_pos h3 (by omega)) ih.1, ?_⟩
    rw [hn, Nat.pow_succ, Nat.mul_comm m]
    exact Nat.mul_le_mul (Nat.mul_le_mul_left _ (by omega)) ih.2
/-! ### orders -/
structure IsOrd (a n k : Nat) : Prop where
  pos : 0 < k
  one : One n (a ^ k)
  min : ∀ j, 0 < j → One n (a ^ j) → k ≤ j
theorem IsOrd.uniq {a n j k : Nat} (h : IsOrd a n j) (h' : IsOrd a n k) : j = k := Nat.le_antisymm (h.min k h'.pos h'.one) (h'.min j h.pos h.one)
theorem IsOrd.dvd {a n k j : Nat} (h : IsOrd a n k) (hj : One n (a ^ j)) : k ∣ j := by
  have h1 := One.rem hj h.one
  rcases Nat.eq_zero_or_pos (j % k) with h0 | h0
  · exact Nat.dvd_of_mod_eq_zero h0
  · have := h.min _ h0 h1
    have := Nat.mod_lt j h.pos
    omega
/-- No prime may be taken out of the exponent. -/
theorem IsOrd.of {a n k f : Nat} {L : List (Nat × Nat)} (hf : IsFac f L) (hk : k ∣ f) (h0 : 0 < k) (h1 : One n (a ^ k)) (h : ∀ pe ∈ L, ¬ (k % pe.1 = 0 ∧ One n (a ^ (k / pe.1)))) : IsOrd a n k := by
  refine ⟨h0, h1, fun j hj hj1 => ?_⟩
  rcases Nat.lt_or_ge j k with hc | hc
  · exfalso
    have hg := One.gcd hj1 h1
    have hgk := Nat.gcd_dvd_right j k
    have hgj := Nat.gcd_le_left k hj
    generalize Nat.gcd j k = g at *
    obtain ⟨t, ht⟩ := hgk
    have ht2 : 2 ≤ t := by
      rcases Nat.lt_or_ge t 2 with h3 | h3
      · have : t = 0 ∨ t = 1 := by omega
        rcases this with rfl | rfl <;> omega
      · exact h3
    obtain ⟨q, hq⟩ := lf_exists ht2
    obtain ⟨u, hu⟩ := Nat.dvd_of_mod_eq_zero hq.dvd
    have hqk : k = q * (g * u) := by rw [ht, hu]; rw [← Nat.mul_assoc, Nat.mul_comm g q, Nat.mul_assoc]
    obtain ⟨e, he⟩ := hf.mem (lf_prime hq) (Nat.dvd_trans ⟨_, hqk⟩ hk)
    refine h _ he ⟨by rw [hqk]; exact Nat.mul_mod_right _ _, ?_⟩
    have : k / q = g * u := by rw [hqk]; exact Nat.mul_div_cancel_left _ (by have := hq.two; omega)
    show One n (a ^ (k / q))
    rw [this, Nat.pow_mul]; exact hg.pow u
  · exact hc
end Go.Proofs.Ytdmgbahognfhbaa
set_option linter.unusedSimpArgs false
set_option linter.unusedVariables false
namespace Go.Proofs.Ytdmgbahognfhbaa
open Go.RowKit
/-! ### rows of ints -/
def is (l : List Int) : List Value := l.map fun x : Int => .int .i64 x
theorem is_len (l : List Int) : (is l).length = l.length := by simp [is]
theorem is_at {l : List Int} {j : Nat} (h : j < l.length) : (is l)[j]? = some (.int .i64 (l.getD j 0)) := by simp [is, h]
theorem is_one (l : List Int) : ∀ u ∈ is l, u.oneCell' = true := by
  intro u hu; simp only [is, List.mem_map] at hu; obtain ⟨x, _, rfl⟩ := hu; rfl
theorem is_set (l : List Int) (j : Nat) (x : Int) : (is l).set j (.int .i64 x) = is (l.set j x) := by simp [is, List.map_set]
theorem is_append (a b : List Int) : is a ++ is b = is (a ++ b) := by simp [is]
theorem is_app {a b c : List Int} (h : a ++ b = c) : is a ++ is b = is c := by rw [is_append, h]
theorem is_take (l : List Int) (k : Nat) : (is l).take (k * 1) = is (l.take k) := by simp [is, List.map_take]
theorem is_drop (l : List Int) (k : Nat) : (is l).drop (k * 1) = is (l.drop k) := by simp [is, List.map_drop]
theorem Rd.ilen {B : Nat} {w : World} {A : Option Addr} {m c : Nat} {l : List Int} (h : Rd B w 1 A m c (is l)) : l.length = m := by have := h.len; rw [is_len] at this; omega
theorem made_is (k : Nat) : (madeCells (Value.int .i64 0).cells (k * 1)).toList = is (List.replicate k 0) := by
  rw [Nat.mul_one]
  show (madeCells #[Value.int .i64 0] k).toList = _
  rw [toList_madeCells_one]
  simp [is]
/-- All numbers of a row fit into an int. -/
def ILim (l : List Int) : Prop := ∀ x ∈ l, -9223372036854775808 ≤ x ∧ x ≤ 9223372036854775807
theorem ILim.getD {l : List Int} (h : ILim l) (i : Nat) : -9223372036854775808 ≤ l.getD i 0 ∧ l.getD i 0 ≤ 9223372036854775807 := by
  rcases Nat.lt_or_ge i l.length with h1 | h1
  · simp only [List.getD_eq_getElem?_getD, List.getElem?_eq_getElem h1, Option.getD_some]; exact h _ (List.getElem_mem h1)
  · rw [List.getD_eq_getElem?_getD, List.getElem?_eq_none h1]; decide
theorem ILim.nil : ILim [] := fun x h => by cases h
theorem ILim.cons {x : Int} {l : List Int} (h : -9223372036854775808 ≤ x ∧ x ≤ 9223372036854775807) (hl : ILim l) : ILim (x :: l) := fun y hy => by
  rcases List.mem_cons.1 hy with rfl | h1
  · exact h
  · exact hl y h1
/-! ### rows of prime powers: two cells each -/
def pc : List (Nat × Nat) → List Value
  | [] => []
  | (p, e) :: L => .int .i64 (p : Int) :: .int .i64 (e : Int) :: pc L
theorem pc_len : ∀ L : List (Nat × Nat), (pc L).length = L.length * 2
  | [] => rfl
  | (p, e) :: L => by simp [pc, pc_len L]; omega
theorem pc_append : ∀ L M : List (Nat × Nat), pc L ++ pc M = pc (L ++ M)
  | [], M => rfl
  | (p, e) :: L, M => by simp [pc, pc_append L M]
theorem pc_app {a b c : List (Nat × Nat)} (h : a ++ b = c) : pc a ++ pc b = pc c := by rw [pc_append, h]
theorem pc_one : ∀ L : List (Nat × Nat), ∀ u ∈ pc L, u.oneCell' = true
  | [], u, h => by cases h
  | (p, e) :: L, u, h => by
    simp only [pc, List.mem_cons] at h
    rcases h with rfl | rfl | h
    · rfl
    · rfl
    · exact pc_one L u h
theorem pc_at : ∀ {L : List (Nat × Nat)} {j : Nat}, j < L.length → (pc L)[j * 2]? = some (.int .i64 ((L.getD j (0, 0)).1 : Nat)) ∧ (pc L)[j * 2 + 1]? = some (.int .i64 ((L.getD j (0, 0)).2 : Nat))
  | [], j, h => by simp at h
  | (p, e) :: L, 0, h => ⟨rfl, rfl⟩
  | (p, e) :: L, j + 1, h => by
    have := pc_at (L := L) (j := j) (by simpa using h)
    rw [show (j + 1) * 2 = j * 2 + 1 + 1 by omega]
    simpa [pc] using this
theorem Rd.plen {B : Nat} {w : World} {A : Option Addr} {m c : Nat} {l : List (Nat × Nat)} (h : Rd B w 2 A m c (pc l)) : l.length = m := by have := h.len; rw [pc_len] at this; omega
theorem pc_load {B : Nat} {w : World} {A : Option Addr} {m c : Nat} {L : List (Nat × Nat)} (hR : Rd B w 2 A m c (pc L)) (j : Nat) (hj : j < L.length) :
    ∀ i u, [Value.int .i64 ((L.getD j (0, 0)).1 : Nat), .int .i64 ((L.getD j (0, 0)).2 : Nat)][i]? = some u → w.cell? (((adOf A).add (j * 2)).add i) = some u := by
  intro i u hu
  rw [add_add]
  match i, hu with
  | 0, hu => cases hu; exact hR.at_ (pc_at hj).1
  | 1, hu => cases hu; exact hR.at_ (pc_at hj).2
  | i + 2, hu => simp at hu
theorem getD_pmem {L : List (Nat × Nat)} {j : Nat} (h : j < L.length) : L.getD j (0, 0) ∈ L := by
  simp only [List.getD_eq_getElem?_getD, List.getElem?_eq_getElem h, Option.getD_some]; exact List.getElem_mem h
end Go.Proofs.Ytdmgbahognfhbaa
set_option linter.unusedSimpArgs false
set_option linter.unusedVariables false
namespace Go.Proofs.Ytdmgbahognfhbaa
open Go.RowKit
/-! ### prime powers -/
theorem fac_exists : ∀ n : Nat, 0 < n → ∃ L, IsFac n L := by
  intro n
  induction n using Nat.strongRecOn with
  | _ n ih =>
    intro h0
    rcases Nat.lt_or_ge n 2 with h | h
    · have : n = 1 := by omega
      subst this; exact ⟨[], .one⟩
    · obtain ⟨p, hp⟩ := lf_exists h
      have key : ∀ k m, n = m * p ^ k → 0 < k → m ≤ n → ∃ m' e, n = m' * p ^ e ∧ m' % p ≠ 0 ∧ 0 < e := by
        intro k m
        induction m using Nat.strongRecOn generalizing k with
        | _ m ih2 =>
          intro hm hk hle
          by_cases hd : m % p = 0
          · obtain ⟨q, hq⟩ := Nat.dvd_of_mod_eq_zero hd
            have hq0 : 0 < q := by
              rcases Nat.eq_zero_or_pos q with h1 | h1
              · subst h1; rw [hq] at hm; simp at hm; omega
              · exact h1
            have hp2 := hp.two
            have hlt : q < m := by rw [hq]; exact (Nat.lt_mul_iff_one_lt_left hq0).2 (by omega)
            exact ih2 q hlt (k + 1) (by rw [hm, hq, Nat.pow_succ, Nat.mul_comm p q, Nat.mul_assoc, Nat.mul_comm p]) (by omega) (by omega)
          · exact ⟨m, k, hm, hd, hk⟩
      obtain ⟨q, hq⟩ := Nat.dvd_of_mod_eq_zero hp.dvd
      have hq0 : 0 < q := by
        rcases Nat.eq_zero_or_pos q with h1 | h1
        · subst h1; simp at hq; omega
        · exact h1
      obtain ⟨m', e, h1, h2, h3⟩ := key 1 q (by rw [Nat.pow_one, hq, Nat.mul_comm]) (by decide) (by rw [hq]; exact Nat.le_mul_of_pos_left _ (by have := hp.two; omega))
      have hm0 : 0 < m' := by
        rcases Nat.eq_zero_or_pos m' with h4 | h4
        · subst h4; simp at h1; omega
        · exact h4
      have := strip_lt hp h1 h3 hm0
      obtain ⟨L, hL⟩ := ih m' (by omega) hm0
      exact ⟨(p, e) :: L, .step hp h1 h2 h3 hL⟩
theorem IsFac.inv {n p e : Nat} {L : List (Nat × Nat)} (h : IsFac n ((p, e) :: L)) : ∃ m, IsLf n p ∧ n = m * p ^ e ∧ m % p ≠ 0 ∧ 0 < e ∧ IsFac m L := by
  cases h with
  | step hl hn hm he h2 => exact ⟨_, hl, hn, hm, he, h2⟩
theorem IsFac.cons_of {n : Nat} {L : List (Nat × Nat)} (h : IsFac n L) (hn : 1 < n) : ∃ p e L', L = (p, e) :: L' := by
  cases h with
  | one => omega
  | step hl hn hm he h2 => exact ⟨_, _, _, rfl⟩
theorem pw_down {m p e j : Nat} (hp : 2 ≤ p) (hj : j < e) : (m * p ^ (e - j)) % p = 0 ∧ m * p ^ (e - j) / p = m * p ^ (e - (j + 1)) := by
  obtain ⟨k, hk⟩ : ∃ k, e - j = k + 1 := ⟨e - j - 1, by omega⟩
  rw [hk, show e - (j + 1) = k by omega, Nat.pow_succ, ← Nat.mul_assoc]
  exact ⟨Nat.mul_mod_left _ _, Nat.mul_div_cancel _ (by omega)⟩
theorem IsFac.exp_lt {n p e : Nat} {L : List (Nat × Nat)} (h : IsFac n ((p, e) :: L)) : 2 ^ e ≤ n := by
  obtain ⟨m, hl, hn, hm, he, h2⟩ := h.inv
  have h3 := h2.pos
  have h4 : 2 ^ e ≤ p ^ e := Nat.pow_le_pow_left hl.two e
  rw [hn]
  exact Nat.le_trans h4 (Nat.le_mul_of_pos_left _ h3)
theorem IsFac.len_lt {n : Nat} {L : List (Nat × Nat)} (h : IsFac n L) (hn : n < 2147483648) : L.length < 31 := by
  have h1 := h.two_pow
  rcases Nat.lt_or_ge L.length 31 with h2 | h2
  · exact h2
  · have := Nat.pow_le_pow_right (show 0 < 2 by decide) h2
    omega
theorem IsFac.bd {n : Nat} {L : List (Nat × Nat)} (h : IsFac n L) (hn : n < 2147483648) : ∀ pe ∈ L, 2 ≤ pe.1 ∧ pe.1 ≤ n ∧ 0 < pe.2 ∧ pe.2 < 31 := by
  induction h with
  | one => intro _ h; cases h
  | step hl hn' hm he h2 ih =>
    rename_i n p e m L
    have hm0 := h2.pos
    have hlt := strip_lt hl hn' he hm0
    intro pe hpe
    rcases List.mem_cons.1 hpe with rfl | h3
    · have h1 := (IsFac.step hl hn' hm he h2).exp_lt
      refine ⟨hl.two, hl.le (by omega), he, ?_⟩
      show e < 31
      rcases Nat.lt_or_ge e 31 with h2 | h2
      · exact h2
      · have := Nat.pow_le_pow_right (show 0 < 2 by decide) h2
        omega
    · have := ih (by omega) pe h3; omega
/-! ### the wheel -/
theorem not_dvd_of {n e q : Nat} (hn : n % q ≠ 0) (he : e % q = 0) : n % e ≠ 0 := fun h => hn (Nat.mod_eq_zero_of_dvd (Nat.dvd_trans (Nat.dvd_of_mod_eq_zero he) (Nat.dvd_of_mod_eq_zero h)))
def NoDiv (n k : Nat) : Prop := ∀ e, e < k → 2 ≤ e → n % e ≠ 0
theorem NoDiv.next {n k k' : Nat} (h2 : n % 2 ≠ 0) (h3 : n % 3 ≠ 0) (h5 : n % 5 ≠ 0) (h : NoDiv n k) (hk : n % k ≠ 0) (hg : ∀ e, k < e → e < k' → e % 2 = 0 ∨ e % 3 = 0 ∨ e % 5 = 0) : NoDiv n k' := by
  intro e he h4
  rcases Nat.lt_trichotomy e k with h1 | h1 | h1
  · exact h e h1 h4
  · rw [h1]; exact hk
  · rcases hg e h1 he with h6 | h6 | h6
    · exact not_dvd_of h2 h6
    · exact not_dvd_of h3 h6
    · exact not_dvd_of h5 h6
theorem NoDiv.seven {n : Nat} (h2 : n % 2 ≠ 0) (h3 : n % 3 ≠ 0) (h5 : n % 5 ≠ 0) : NoDiv n 7 := by
  intro e he h4
  have : e = 2 ∨ e = 3 ∨ e = 4 ∨ e = 5 ∨ e = 6 := by omega
  rcases this with rfl | rfl | rfl | rfl | rfl
  · exact h2
  · exact h3
  · exact not_dvd_of h2 (by decide)
  · exact h5
  · exact not_dvd_of h2 (by decide)
theorem lf_two {n : Nat} (h : n % 2 = 0) : IsLf n 2 := ⟨by decide, h, fun e he _ => he⟩
theorem lf_three {n : Nat} (h2 : n % 2 ≠ 0) (h : n % 3 = 0) : IsLf n 3 := ⟨by decide, h, fun e he hm => by
  rcases Nat.lt_or_ge e 3 with h1 | h1
  · have : e = 2 := by omega
    subst this; exact absurd hm h2
  · exact h1⟩
theorem lf_five {n : Nat} (h2 : n % 2 ≠ 0) (h3 : n % 3 ≠ 0) (h : n % 5 = 0) : IsLf n 5 := ⟨by decide, h, fun e he hm => by
  rcases Nat.lt_or_ge e 5 with h1 | h1
  · have : e = 2 ∨ e = 3 ∨ e = 4 := by omega
    rcases this with rfl | rfl | rfl
    · exact absurd hm h2
    · exact absurd hm h3
    · exact absurd hm (not_dvd_of h2 (by decide))
  · exact h1⟩
theorem NoDiv.lf {n k : Nat} (h : NoDiv n k) (hk : 2 ≤ k) (hd : n % k = 0) : IsLf n k := .of_lt hk hd h
theorem NoDiv.self {n k : Nat} (h : NoDiv n k) (hn : 2 ≤ n) (hk : n < k * k) : IsLf n n := .self_of_root hn hk fun e h1 h2 h3 => absurd h3 (h e h1 h2)
/-! ### products with a bound -/
def prS (M n : Nat) : Nat × Nat := if n ≤ M then (n, 0) else (0, 8)
theorem prS_ok {M n : Nat} (h : n ≤ M) : prS M n = (n, 0) := if_pos h
theorem prS_big {M n : Nat} (h : M < n) : prS M n = (0, 8) := if_neg (by omega)
theorem prS_2 {M n : Nat} : (prS M n).2 = 0 ↔ n ≤ M := by
  unfold prS; split
  · simp; assumption
  · simp; omega
theorem prS_le (M n : Nat) : (prS M n).1 ≤ M ∧ (prS M n).2 ≤ 8 := by
  unfold prS; split
  · exact ⟨by assumption, Nat.zero_le 8⟩
  · exact ⟨Nat.zero_le _, Nat.le_refl 8⟩
theorem gt_div {a b M : Nat} (hb : 0 < b) : M / b < a ↔ M < a * b := Nat.div_lt_iff_lt_mul hb
def prodI (l : List Int) : Nat := (l.map Int.toNat).foldr (· * ·) 1
theorem prodI_nil : prodI [] = 1 := rfl
theorem prodI_cons (x : Int) (l : List Int) : prodI (x :: l) = x.toNat * prodI l := rfl
theorem prodI_append : ∀ a b : List Int, prodI (a ++ b) = prodI a * prodI b
  | [], b => by simp [prodI]
  | x :: a, b => by rw [List.cons_append, prodI_cons, prodI_append a b, prodI_cons, Nat.mul_assoc]
theorem prodI_take {l : List Int} {i : Nat} (h : i < l.length) : prodI (l.take (i + 1)) = prodI (l.take i) * (l.getD i 0).toNat := by
  rw [List.take_succ_eq_append_getElem h, prodI_append]
  simp [prodI, List.getD_eq_getElem?_getD, List.getElem?_eq_getElem h]
theorem prodI_pos : ∀ {l : List Int}, (∀ x ∈ l, 0 < x) → 0 < prodI l
  | [], _ => by decide
  | x :: l, h => by
    rw [prodI_cons]
    have := h x List.mem_cons_self
    exact Nat.mul_pos (by omega) (prodI_pos fun y hy => h y (List.mem_cons_of_mem _ hy))
theorem prodI_mono {l : List Int} (h : ∀ x ∈ l, 0 < x) (i : Nat) : prodI (l.take i) ≤ prodI l := by
  conv => rhs; rw [← List.take_append_drop i l, prodI_append]
  exact Nat.le_mul_of_pos_right _ (prodI_pos fun x hx => h x (List.mem_of_mem_drop hx))
theorem prodI_rev (l : List Int) : prodI l.reverse = prodI l := by
  induction l with
  | nil => rfl
  | cons x l ih => rw [List.reverse_cons, prodI_append, ih, prodI_cons]; simp [prodI, Nat.mul_comm]
def prodS (most : Int) (l : List Int) : Nat × Nat := if most < 0 ∨ ∃ x ∈ l, x < 0 then (0, 6) else if 0 ∈ l then (0, 0) else prS most.toNat (prodI l)
theorem prodS_most {most : Int} {l : List Int} (h : most < 0) : prodS most l = (0, 6) := if_pos (.inl h)
theorem prodS_neg {most : Int} {l : List Int} {x : Int} (h : x ∈ l) (hx : x < 0) : prodS most l = (0, 6) := if_pos (.inr ⟨x, h, hx⟩)
theorem prodS_zero {most : Int} {l : List Int} (hm : 0 ≤ most) (h : ∀ x ∈ l, 0 ≤ x) (h0 : 0 ∈ l) : prodS most l = (0, 0) := by
  unfold prodS
  rw [if_neg (by rintro (h1 | ⟨x, h1, h2⟩); omega; have := h x h1; omega), if_pos h0]
theorem prodS_pos {most : Int} {l : List Int} (hm : 0 ≤ most) (h : ∀ x ∈ l, 0 < x) : prodS most l = prS most.toNat (prodI l) := by
  unfold prodS
  rw [if_neg (by rintro (h1 | ⟨x, h1, h2⟩); omega; have := h x h1; omega), if_neg (fun h0 => by have := h 0 h0; omega)]
theorem prodS_rev (most : Int) (l : List Int) : prodS most l.reverse = prodS most l := by
  unfold prodS
  rw [prodI_rev]
  simp only [List.mem_reverse]
theorem prodS_le (most : Int) (l : List Int) : ((prodS most l).1 : Int) ≤ 9223372036854775807 ∨ 9223372036854775807 < most := by
  unfold prodS; split
  · exact .inl (by decide)
  · split
    · exact .inl (by decide)
    · have := (prS_le most.toNat (prodI l)).1; omega
/-! ### powers with a bound -/
def expS (q k most : Int) : Nat × Nat := if q < 0 ∨ k < 0 ∨ most < 0 then (0, 6) else if q = 0 ∧ 0 < k then (0, 0) else prS most.toNat (q.toNat ^ k.toNat)
theorem expS_neg {q k most : Int} (h : q < 0 ∨ k < 0 ∨ most < 0) : expS q k most = (0, 6) := if_pos h
theorem expS_zero {q k most : Int} (h : 0 ≤ q ∧ 0 ≤ k ∧ 0 ≤ most) (h0 : q = 0 ∧ 0 < k) : expS q k most = (0, 0) := by
  unfold expS; rw [if_neg (by omega), if_pos h0]
theorem expS_pos {q k most : Nat} (h0 : q = 0 → k = 0) : expS q k most = prS most (q ^ k) := by
  unfold expS; rw [if_neg (by omega), if_neg (by omega)]; simp
/-! ### binomial coefficients with a bound -/
def chooseS (n k most : Int) : Nat × Nat := if n < 0 ∨ k < 0 ∨ most < 0 then (0, 6) else if n < k then (0, 0) else prS most.toNat (choose n.toNat k.toNat)
theorem chooseS_neg {q k most : Int} (h : q < 0 ∨ k < 0 ∨ most < 0) : chooseS q k most = (0, 6) := if_pos h
theorem chooseS_zero {n k most : Int} (h : 0 ≤ n ∧ 0 ≤ k ∧ 0 ≤ most) (h0 : n < k) : chooseS n k most = (0, 0) := by
  unfold chooseS; rw [if_neg (by omega), if_pos h0]
theorem chooseS_pos {n k most : Nat} (h : k ≤ n) : chooseS n k most = prS most (choose n k) := by
  unfold chooseS; rw [if_neg (by omega), if_neg (by omega)]; simp
theorem choose_min {n k : Nat} (h : k ≤ n) : choose n (min k (n - k)) = choose n k := by
  rcases Nat.le_total k (n - k) with h1 | h1
  · rw [Nat.min_eq_left h1]
  · rw [Nat.min_eq_right h1, choose_symm h]
theorem choose_step (m i : Nat) : choose (m + i + 1) (i + 1) * (i + 1) = choose (m + i) i * (m + i + 1) := by
  have := choose_absorb (m + i) i
  rw [← this, Nat.mul_comm]
theorem choose_up (m i : Nat) : choose (m + i) i ≤ choose (m + i + 1) (i + 1) := by
  rw [choose_succ]; omega
theorem choose_mono (m : Nat) {i k : Nat} (h : i ≤ k) : choose (m + i) i ≤ choose (m + k) k := by
  obtain ⟨d, rfl⟩ := Nat.exists_eq_add_of_le h
  clear h
  induction d with
  | zero => exact Nat.le_refl _
  | succ d ih => exact Nat.le_trans ih (choose_up m (i + d))
/-- The fraction is reduced ahead of the product. -/
theorem choose_red {c i s r : Nat} (hi : 0 < i) (hc : 0 < c) (h : r * i = c * s) : i / Nat.gcd c i ∣ s ∧ 0 < i / Nat.gcd c i ∧ c / Nat.gcd c i * (s / (i / Nat.gcd c i)) = r := by
  have hg : 0 < Nat.gcd c i := Nat.gcd_pos_of_pos_right _ hi
  obtain ⟨c1, hc1⟩ := Nat.gcd_dvd_left c i
  obtain ⟨i1, hi1⟩ := Nat.gcd_dvd_right c i
  have hcop : Nat.gcd c1 i1 = 1 := by
    have h2 := Nat.gcd_mul_left (Nat.gcd c i) c1 i1
    rw [← hc1, ← hi1] at h2
    have h3 : Nat.gcd c i * Nat.gcd c1 i1 = Nat.gcd c i * 1 := by omega
    exact Nat.eq_of_mul_eq_mul_left hg h3
  generalize Nat.gcd c i = g at *
  subst hc1; subst hi1
  rw [Nat.mul_div_cancel_left _ hg, Nat.mul_div_cancel_left _ hg]
  have hi10 : 0 < i1 := Nat.pos_of_mul_pos_left hi
  have h4 : r * i1 = c1 * s := by
    have h5 : g * (r * i1) = g * (c1 * s) := by rw [← Nat.mul_assoc, Nat.mul_comm g r, Nat.mul_assoc, h, Nat.mul_assoc]
    exact Nat.eq_of_mul_eq_mul_left hg h5
  have hd : i1 ∣ s := Nat.Coprime.dvd_of_dvd_mul_left (k := i1) (n := s) (m := c1) (by rw [Nat.Coprime, Nat.gcd_comm]; exact hcop) ⟨r, by rw [← h4, Nat.mul_comm]⟩
  refine ⟨hd, hi10, ?_⟩
  obtain ⟨t, rfl⟩ := hd
  rw [Nat.mul_div_cancel_left _ hi10]
  have h6 : i1 * (c1 * t) = i1 * r := by rw [Nat.mul_comm i1 r, h4, ← Nat.mul_assoc, ← Nat.mul_assoc, Nat.mul_comm i1 c1]
  exact Nat.eq_of_mul_eq_mul_left hi10 h6
/-! ### Euler's function, Moebius' function -/
theorem phiL_append : ∀ L M : List (Nat × Nat), phiL (L ++ M) = phiL L * phiL M
  | [], M => by simp [phiL]
  | (p, e) :: L, M => by simp [phiL, phiL_append L M, Nat.mul_assoc]
theorem phi_step {F m p e : Nat} (hp : 2 ≤ p) (he : 0 < e) : F * (m * p ^ e) / p = F * m * p ^ (e - 1) ∧ F * (m * p ^ e) - F * (m * p ^ e) / p = F * (p ^ (e - 1) * (p - 1)) * m ∧ F * (m * p ^ e) / p * (p - 1) = F * (p ^ (e - 1) * (p - 1)) * m := by
  obtain ⟨k, rfl⟩ : ∃ k, e = k + 1 := ⟨e - 1, by omega⟩
  obtain ⟨q, rfl⟩ : ∃ q, p = q + 1 := ⟨p - 1, by omega⟩
  have h1 : F * (m * (q + 1) ^ (k + 1)) = F * m * (q + 1) ^ k * (q + 1) := by rw [Nat.pow_succ]; simp only [Nat.mul_assoc]
  rw [h1, Nat.mul_div_cancel _ (by omega), Nat.add_sub_cancel, Nat.add_sub_cancel]
  have h2 : F * m * (q + 1) ^ k * q = F * ((q + 1) ^ k * q) * m := by
    rw [Nat.mul_assoc F m, Nat.mul_assoc F, Nat.mul_assoc F, Nat.mul_comm m ((q + 1) ^ k), Nat.mul_right_comm]
  refine ⟨rfl, ?_, h2⟩
  rw [← h2, Nat.mul_add, Nat.mul_one, Nat.add_sub_cancel]
def moeL : List (Nat × Nat) → Int
  | [] => 1
  | (_, e) :: L => if 1 < e then 0 else -moeL L
theorem moeL_range : ∀ L, -1 ≤ moeL L ∧ moeL L ≤ 1
  | [] => by decide
  | (_, e) :: L => by
    have := moeL_range L
    unfold moeL; split <;> omega
theorem moeL_split : ∀ (L M : List (Nat × Nat)), (∀ pe ∈ L, pe.2 ≤ 1) → ∃ s : Int, (s = 1 ∨ s = -1) ∧ (∀ M, moeL (L ++ M) = s * moeL M) ∧ s = moeL L
  | [], M, _ => ⟨1, .inl rfl, fun M => by simp, rfl⟩
  | (p, e) :: L, M, h => by
    obtain ⟨s, h1, h2, h3⟩ := moeL_split L M fun pe hpe => h pe (List.mem_cons_of_mem _ hpe)
    have he : ¬ 1 < e := by have := h (p, e) List.mem_cons_self; simp only at this; omega
    refine ⟨-s, by omega, fun M => ?_, ?_⟩
    · rw [List.cons_append, moeL, if_neg he, h2, Int.neg_mul]
    · rw [moeL, if_neg he, ← h3]
theorem moe_take {L : List (Nat × Nat)} {i : Nat} (hi : i < L.length) (h : ∀ j, j < i → (L.getD j (0, 0)).2 ≤ 1) :
    (1 < (L.getD i (0, 0)).2 → moeL L = 0) ∧ (¬ 1 < (L.getD i (0, 0)).2 → moeL (L.take (i + 1)) = -moeL (L.take i)) := by
  have hm : ∀ pe ∈ L.take i, pe.2 ≤ 1 := fun pe hpe => by
    obtain ⟨j, hj, rfl⟩ := List.mem_iff_getElem.1 hpe
    simp only [List.length_take] at hj
    have := h j (by omega)
    rw [List.getElem_take]
    simpa [List.getD_eq_getElem?_getD, List.getElem?_eq_getElem (show j < L.length by omega)] using this
  obtain ⟨s, h1, h2, h3⟩ := moeL_split (L.take i) [] hm
  have hd : L.drop i = L.getD i (0, 0) :: L.drop (i + 1) := by
    rw [List.drop_eq_getElem_cons hi]; simp [List.getD_eq_getElem?_getD, List.getElem?_eq_getElem hi]
  refine ⟨fun hc => ?_, fun hc => ?_⟩
  · have := h2 (L.drop i)
    rw [List.take_append_drop, hd] at this
    rw [this, moeL, if_pos hc]; simp
  · have e : L.take (i + 1) = L.take i ++ [L.getD i (0, 0)] := by
      rw [List.take_succ_eq_append_getElem hi]; simp [List.getD_eq_getElem?_getD, List.getElem?_eq_getElem hi]
    rw [e, h2, ← h3, moeL, if_neg hc]; simp [moeL]
end Go.Proofs.Ytdmgbahognfhbaa
namespace Go.Proofs.Ytdmgbahognfhbaa
theorem e_range63 {e : Int} {n : Nat} (he : e = 1 ∨ e = -1) (hn : n < 9223372036854775808) : -9223372036854775808 < e * (n : Int) ∧ e * (n : Int) ≤ 9223372036854775807 ∧ -9223372036854775808 < -(e * (n : Int)) ∧ -(e * (n : Int)) ≤ 9223372036854775807 := by
  rcases he with rfl | rfl <;> omega
theorem lkA {e : Int} {k r : Nat} : (k : Int) * (-(e * (r : Nat))) = -(e * ((k * r : Nat) : Int)) := by push_cast; grind
theorem lkB {e : Int} {p k : Nat} : e * (p : Nat) - -(e * ((k : Nat) : Int)) = e * ((p + k : Nat) : Int) := by push_cast; grind
theorem pow_even {r x k n : Nat} (h : k % 2 = 0) : r * (x * x % n) ^ (k / 2) % n = r * x ^ k % n := by
  have e : x ^ k = (x * x) ^ (k / 2) := by rw [← Nat.pow_two, ← Nat.pow_mul]; congr 1; omega
  rw [e, Nat.mul_mod, Nat.pow_mod, Nat.mod_mod, ← Nat.pow_mod, ← Nat.mul_mod]
theorem pow_odd {r x k n : Nat} (h : k % 2 = 1) : r * x % n * (x * x % n) ^ (k / 2) % n = r * x ^ k % n := by
  have e : x ^ k = x * (x * x) ^ (k / 2) := by
    rw [← Nat.pow_two, ← Nat.pow_mul, Nat.mul_comm, ← Nat.pow_succ]; congr 1; omega
  rw [e, ← Nat.mul_assoc, Nat.mul_mod, Nat.mod_mod, Nat.pow_mod, Nat.mod_mod, ← Nat.pow_mod, ← Nat.mul_mod]
end Go.Proofs.Ytdmgbahognfhbaa
namespace Go.Proofs.Ytdmgbahognfhbaa
theorem IsFac.nil_of {n : Nat} {L : List (Nat × Nat)} (h : IsFac n L) (hn : n < 2) : L = [] := by
  cases h with
  | one => rfl
  | step hl hn' hm he h2 => have := hl.le (by have := h2.pos; subst hn'; exact Nat.mul_pos this (Nat.pow_pos (by have := hl.two; omega))); have := hl.two; omega
theorem IsFac.inv' {n : Nat} {pe : Nat × Nat} {L : List (Nat × Nat)} (h : IsFac n (pe :: L)) : ∃ m, IsLf n pe.1 ∧ n = m * pe.1 ^ pe.2 ∧ m % pe.1 ≠ 0 ∧ 0 < pe.2 ∧ IsFac m L := h.inv
theorem pdrop {L : List (Nat × Nat)} {i : Nat} (h : i < L.length) : L.drop i = L.getD i (0, 0) :: L.drop (i + 1) := by
  rw [List.drop_eq_getElem_cons h]; simp [List.getD_eq_getElem?_getD, List.getElem?_eq_getElem h]
theorem ptake {L : List (Nat × Nat)} {i : Nat} (h : i < L.length) : L.take (i + 1) = L.take i ++ [L.getD i (0, 0)] := by
  rw [List.take_succ_eq_append_getElem h]; simp [List.getD_eq_getElem?_getD, List.getElem?_eq_getElem h]
theorem phi_take {L : List (Nat × Nat)} {i : Nat} (h : i < L.length) : phiL (L.take (i + 1)) = phiL (L.take i) * ((L.getD i (0, 0)).1 ^ ((L.getD i (0, 0)).2 - 1) * ((L.getD i (0, 0)).1 - 1)) := by
  rw [ptake h, phiL_append]; simp [phiL]
theorem sq_le {a n : Nat} (h : a * a ≤ n) (hn : n < 2147483648) : a ≤ 46340 := by
  rcases Nat.lt_or_ge a 46341 with h1 | h1
  · omega
  · have := Nat.mul_le_mul h1 h1; omega
def wa (m : Nat) : Nat := [7, 11, 13, 17, 19, 23, 29, 31, 37].getD m 0
def ppS : List (Nat × Nat) → Nat × Nat × Nat
  | [(p, e)] => (p, e, 0)
  | _ => (0, 0, 11)
theorem ppS_ne : ∀ {L : List (Nat × Nat)}, L.length ≠ 1 → ppS L = (0, 0, 11)
  | [], _ => rfl
  | [_], h => absurd rfl h
  | _ :: _ :: _, _ => rfl
theorem ppS_one : ∀ {L : List (Nat × Nat)}, L.length = 1 → ppS L = ((L.getD 0 (0, 0)).1, (L.getD 0 (0, 0)).2, 0)
  | [(p, e)], _ => rfl
  | [], h => by simp at h
  | _ :: _ :: _, h => by simp at h
/-- A prime in the range. -/
def IsPr (X : Int) : Prop := 2 ≤ X ∧ X ≤ 2147483647 ∧ IsLf X.toNat X.toNat
end Go.Proofs.Ytdmgbahognfhbaa
namespace Go.Proofs.Ytdmgbahognfhbaa
/-! ### what the functions answer -/
def gcdS (a b : Int) : Nat × Nat := if (-2147483647 ≤ a ∧ a ≤ 2147483647) ∧ (-2147483647 ≤ b ∧ b ≤ 2147483647) then (Nat.gcd a.natAbs b.natAbs, 0) else (0, 6)
theorem gcdS_ok {a b : Int} (h : (-2147483647 ≤ a ∧ a ≤ 2147483647) ∧ (-2147483647 ≤ b ∧ b ≤ 2147483647)) : gcdS a b = (Nat.gcd a.natAbs b.natAbs, 0) := if_pos h
theorem gcdS_out {a b : Int} (h : ¬ ((-2147483647 ≤ a ∧ a ≤ 2147483647) ∧ (-2147483647 ≤ b ∧ b ≤ 2147483647))) : gcdS a b = (0, 6) := if_neg h
inductive BezR (a b : Int) : Nat → Int → Int → Nat → Prop
  | out : ¬ ((-2147483647 ≤ a ∧ a ≤ 2147483647) ∧ (-2147483647 ≤ b ∧ b ≤ 2147483647)) → BezR a b 0 0 0 6
  | zero : (-2147483647 ≤ a ∧ a ≤ 2147483647) → b = 0 → BezR a b a.natAbs (sgI a) 0 0
  | ok {g : Nat} {x y : Int} : (-2147483647 ≤ a ∧ a ≤ 2147483647) → (-2147483647 ≤ b ∧ b ≤ 2147483647) → b ≠ 0 → Bez a b g x y → BezR a b g x y 0
inductive InvR (a n : Int) : Nat → Nat → Prop
  | out : ¬ (1 ≤ n ∧ n ≤ 2147483647) → InvR a n 0 6
  | none : (1 ≤ n ∧ n ≤ 2147483647) → Nat.gcd a.natAbs n.toNat ≠ 1 → InvR a n 0 11
  | ok {x : Nat} : (1 ≤ n ∧ n ≤ 2147483647) → IsInv a n.toNat x → InvR a n x 0
def powS (a e n : Int) : Nat × Nat := if e < 0 ∨ ¬ (1 ≤ n ∧ n ≤ 2147483647) then (0, 6) else ((a % n).toNat ^ e.toNat % n.toNat, 0)
theorem powS_out {a e n : Int} (h : e < 0 ∨ ¬ (1 ≤ n ∧ n ≤ 2147483647)) : powS a e n = (0, 6) := if_pos h
theorem powS_ok {a e n : Int} (h : ¬ (e < 0 ∨ ¬ (1 ≤ n ∧ n ≤ 2147483647))) : powS a e n = ((a % n).toNat ^ e.toNat % n.toNat, 0) := if_neg h
inductive OrdR (a n : Int) : Nat → Nat → Prop
  | out : ¬ (1 ≤ n ∧ n ≤ 2147483647) → OrdR a n 0 6
  | none : (1 ≤ n ∧ n ≤ 2147483647) → Nat.gcd a.natAbs n.toNat ≠ 1 → OrdR a n 0 11
  | ok {k : Nat} : (1 ≤ n ∧ n ≤ 2147483647) → Nat.gcd a.natAbs n.toNat = 1 → IsOrd (a % n).toNat n.toNat k → OrdR a n k 0
inductive ChiR (rs ms : List Int) : Nat → Nat → Nat → Prop
  | shape : rs.length ≠ ms.length → ChiR rs ms 0 0 10
  | range : rs.length = ms.length → (∃ m ∈ ms, ¬ (1 ≤ m ∧ m ≤ 2147483647)) → ChiR rs ms 0 0 6
  | big : rs.length = ms.length → (∀ m ∈ ms, 1 ≤ m ∧ m ≤ 2147483647) → 2147483647 < prodI ms → ChiR rs ms 0 0 8
  | none : rs.length = ms.length → (∀ m ∈ ms, 1 ≤ m ∧ m ≤ 2147483647) → prodI ms ≤ 2147483647 → Chin rs ms 0 0 1 .none → ChiR rs ms 0 0 11
  | ok {x n : Nat} : rs.length = ms.length → (∀ m ∈ ms, 1 ≤ m ∧ m ≤ 2147483647) → prodI ms ≤ 2147483647 → Chin rs ms 0 0 1 (some (x, n)) → ChiR rs ms x n 0
/-! ### there is an answer -/
theorem bez_exists : ∀ n m : Nat, ∃ Z : Int, (m : Int) ∣ Z * n - (Nat.gcd n m : Nat) := fun n m => by
  have key : ∀ n m : Nat, ∃ x y : Int, x * n + y * m = (Nat.gcd n m : Nat) := by
    intro n m
    induction n, m using Nat.gcd.induction with
    | H0 m => exact ⟨0, 1, by simp⟩
    | H1 n m h0 ih =>
      obtain ⟨x, y, h⟩ := ih
      rw [Nat.gcd_rec]
      refine ⟨y - x * (m / n : Nat), x, ?_⟩
      rw [← h]
      have h2 : (m : Int) = n * (m / n : Nat) + (m % n : Nat) := by exact_mod_cast (Nat.div_add_mod m n).symm
      conv => lhs; rw [h2]
      generalize ((m / n : Nat) : Int) = q
      generalize ((m % n : Nat) : Int) = r
      grind
  obtain ⟨x, y, h⟩ := key n m
  exact ⟨x, -y, by rw [Int.mul_neg, Int.mul_comm (m : Int) y]; omega⟩
theorem inv_exists {a : Int} {n : Nat} (hn : 0 < n) (h : Nat.gcd a.natAbs n = 1) : ∃ x, IsInv a n x := by
  obtain ⟨Z, hZ⟩ := bez_exists (a % n).toNat n
  rw [gcd_emod a hn, h] at hZ
  have h0 := Int.emod_nonneg a (show (n : Int) ≠ 0 by omega)
  rw [Int.toNat_of_nonneg h0] at hZ
  exact ⟨_, (IsInv.mk' hn (by simpa using hZ)).emod⟩
theorem InvR.ex (a n : Int) : ∃ x e, InvR a n x e := by
  by_cases h : 1 ≤ n ∧ n ≤ 2147483647
  · by_cases hg : Nat.gcd a.natAbs n.toNat = 1
    · obtain ⟨x, hx⟩ := inv_exists (n := n.toNat) (by omega) hg
      exact ⟨_, _, .ok h hx⟩
    · exact ⟨_, _, .none h hg⟩
  · exact ⟨_, _, .out h⟩
theorem bezout_exists {a b : Int} (hb : b ≠ 0) : ∃ g x y, Bez a b g x y := by
  obtain ⟨g, hg⟩ : ∃ g, g = Nat.gcd a.natAbs b.natAbs := ⟨_, rfl⟩
  have hgp : 0 < g := by rw [hg]; exact Nat.gcd_pos_of_pos_right _ (by omega)
  obtain ⟨a1, ha⟩ : (g : Int) ∣ a := by rw [hg]; exact Int.ofNat_dvd_left.2 (Nat.gcd_dvd_left _ _)
  obtain ⟨b1, hb1⟩ : (g : Int) ∣ b := by rw [hg]; exact Int.ofNat_dvd_left.2 (Nat.gcd_dvd_right _ _)
  have hc : Nat.gcd a1.natAbs b1.natAbs = 1 := by
    have h2 := hg
    rw [ha, hb1, Int.natAbs_mul, Int.natAbs_mul, Int.natAbs_natCast, Nat.gcd_mul_left] at h2
    have h3 : g * Nat.gcd a1.natAbs b1.natAbs = g * 1 := by omega
    exact Nat.eq_of_mul_eq_mul_left hgp h3
  have hB : b.natAbs / g = b1.natAbs := by rw [hb1, Int.natAbs_mul, Int.natAbs_natCast]; exact Nat.mul_div_cancel_left _ hgp
  have hb10 : 0 < b1.natAbs := by
    rcases Nat.eq_zero_or_pos b1.natAbs with h | h
    · have : b1 = 0 := by omega
      rw [this, Int.mul_zero] at hb1; omega
    · exact h
  obtain ⟨x, hx⟩ := inv_exists hb10 hc
  refine ⟨g, x, _, Bez.of hb hg (by omega) (by rw [hB]; have := hx.lt; omega) ?_⟩
  obtain ⟨k, hk⟩ := hx.dvd
  refine ⟨k, ?_⟩
  have h4 : (b.natAbs : Int) = g * b1.natAbs := by rw [hb1, Int.natAbs_mul, Int.natAbs_natCast]; push_cast; rfl
  rw [h4, Int.mul_assoc, ← hk, ha, Int.mul_sub, Int.mul_one, Int.mul_comm a1, ← Int.mul_assoc, ← Int.mul_assoc, Int.mul_comm (x : Int)]
theorem BezR.ex (a b : Int) : ∃ g x y e, BezR a b g x y e := by
  by_cases h : (-2147483647 ≤ a ∧ a ≤ 2147483647) ∧ (-2147483647 ≤ b ∧ b ≤ 2147483647)
  · by_cases hb : b = 0
    · exact ⟨_, _, _, _, .zero h.1 hb⟩
    · obtain ⟨g, x, y, hz⟩ := bezout_exists (a := a) hb
      exact ⟨_, _, _, _, .ok h.1 h.2 hb hz⟩
  · exact ⟨_, _, _, _, .out h⟩
theorem least_exists {p : Nat → Prop} (h : ∃ n, p n) : ∃ n, p n ∧ ∀ m, p m → n ≤ m := by
  obtain ⟨n, hn⟩ := h
  induction n using Nat.strongRecOn with
  | _ n ih =>
    by_cases hc : ∃ m, m < n ∧ p m
    · obtain ⟨m, h1, h2⟩ := hc; exact ih m h1 h2
    · exact ⟨n, hn, fun m hm => by
        rcases Nat.lt_or_ge m n with h1 | h1
        · exact absurd ⟨m, h1, hm⟩ hc
        · exact h1⟩
theorem ord_exists {a n : Nat} (hn : 0 < n) (h : Nat.gcd a n = 1) : ∃ k, IsOrd a n k := by
  obtain ⟨L, hL⟩ := fac_exists n hn
  obtain ⟨k, ⟨h1, h2⟩, h3⟩ := least_exists (p := fun k => 0 < k ∧ One n (a ^ k)) ⟨phiL L, (phiL_pos hL).1, euler hL h⟩
  exact ⟨k, h1, h2, fun j h4 h5 => h3 j ⟨h4, h5⟩⟩
theorem OrdR.ex (a n : Int) : ∃ k e, OrdR a n k e := by
  by_cases h : 1 ≤ n ∧ n ≤ 2147483647
  · by_cases hg : Nat.gcd a.natAbs n.toNat = 1
    · have h0 : 0 < n.toNat := by omega
      have h1 := gcd_emod a h0
      rw [show ((n.toNat : Nat) : Int) = n by omega, hg] at h1
      obtain ⟨k, hk⟩ := ord_exists h0 h1
      exact ⟨_, _, .ok h hg hk⟩
    · exact ⟨_, _, .none h hg⟩
  · exact ⟨_, _, .out h⟩
theorem chin_total {rs ms : List Int} (hp : ∀ m ∈ ms, 1 ≤ m) : ∀ d i x P, ms.length - i = d → ∃ R, Chin rs ms i x P R := by
  intro d
  induction d with
  | zero => intro i x P h; exact ⟨_, .done (by omega)⟩
  | succ d ih =>
    intro i x P h
    have hi : i < ms.length := by omega
    have hm : 1 ≤ ms.getD i 0 := hp _ (by simp [List.getD_eq_getElem?_getD, List.getElem?_eq_getElem hi])
    obtain ⟨m, hm2⟩ : ∃ m : Nat, ms.getD i 0 = m := ⟨(ms.getD i 0).toNat, by omega⟩
    by_cases hg : Nat.gcd P m = 1
    · obtain ⟨y, hy⟩ := inv_exists (a := (P : Int)) (n := m) (by omega) (by simpa using hg)
      obtain ⟨R, hR⟩ := ih (i + 1) (x + P * (((rs.getD i 0 - x) % m).toNat * y % m)) (P * m) (by omega)
      exact ⟨R, .step hi hm2 (by omega) hy hR⟩
    · exact ⟨_, .fail hi (by rw [hm2]; simpa using hg)⟩
theorem ChiR.ex (rs ms : List Int) : ∃ x n e, ChiR rs ms x n e := by
  by_cases hl : rs.length = ms.length
  · by_cases hr : ∀ m ∈ ms, 1 ≤ m ∧ m ≤ 2147483647
    · rcases Nat.lt_or_ge 2147483647 (prodI ms) with hp | hp
      · exact ⟨_, _, _, .big hl hr hp⟩
      · obtain ⟨R, hR⟩ := chin_total (rs := rs) (fun m hm => (hr m hm).1) _ 0 0 1 rfl
        cases R with
        | none => exact ⟨_, _, _, .none hl hr hp hR⟩
        | some q => exact ⟨q.1, q.2, _, .ok hl hr hp hR⟩
    · refine ⟨_, _, _, .range hl ?_⟩
      exact Classical.byContradiction fun h => hr fun m hm => Classical.byContradiction fun h2 => h ⟨m, hm, h2⟩
  · exact ⟨_, _, _, .shape hl⟩
end Go.Proofs.Ytdmgbahognfhbaa
namespace Go.Proofs.Ytdmgbahognfhbaa
theorem bez_fin2 {X Y x y : Int} {g er : Nat} (hY : Y ≠ 0) (hX : -2147483647 ≤ X ∧ X ≤ 2147483647) (hYr : -2147483647 ≤ Y ∧ Y ≤ 2147483647) (hR : BezR X Y g x y er) :
    g = Nat.gcd X.natAbs Y.natAbs ∧ er = 0 ∧ ((x.toNat : Nat) : Int) = x ∧ (-4611686018427387904 ≤ X * x ∧ X * x ≤ 4611686018427387904) ∧ g ≤ 2147483647 ∧ ((g : Int) - X * x).tdiv Y = y ∧ (-9223372036854775808 ≤ y ∧ y ≤ 9223372036854775807) ∧ Bez X Y g x y := by
  cases hR with
  | out h => exact absurd ⟨hX, hYr⟩ h
  | zero h1 h2 => exact absurd h2 hY
  | ok h1 h2 h3 hz =>
    have hx0 := hz.x0
    have hx1 := hz.x1
    have hle := Nat.div_le_self Y.natAbs g
    have hgle : g ≤ Y.natAbs := by rw [hz.gg]; exact Nat.gcd_le_right _ (by omega)
    have hb : (X * x).natAbs ≤ 2147483647 * 2147483647 := by
      rw [Int.natAbs_mul]; exact Nat.mul_le_mul (by omega) (by omega)
    have he := hz.e
    have hq : (g : Int) - X * x = Y * y := by omega
    have ht : ((g : Int) - X * x).tdiv Y = y := by rw [hq]; exact Int.mul_tdiv_cancel_left y hY
    have hy : y.natAbs ≤ (Y * y).natAbs := by
      rw [Int.natAbs_mul]; exact Nat.le_mul_of_pos_left _ (by omega)
    rw [← hq] at hy
    exact ⟨hz.gg, rfl, by omega, by omega, by omega, ht, by omega, hz⟩
theorem bez_fin {X Y Z x y : Int} {g er : Nat} (hY : Y ≠ 0) (hX : -2147483647 ≤ X ∧ X ≤ 2147483647) (hYr : -2147483647 ≤ Y ∧ Y ≤ 2147483647) (hR : BezR X Y g x y er)
    (hd : (Y.natAbs : Int) ∣ Z * ((X % (Y.natAbs : Int)).toNat : Nat) - (Nat.gcd X.natAbs Y.natAbs : Nat)) : (Z % ((Y.natAbs / Nat.gcd X.natAbs Y.natAbs : Nat) : Int)).toNat = x.toNat := by
  obtain ⟨hg, _, _, _, _, _, _, hz⟩ := bez_fin2 hY hX hYr hR
  have hgp : 0 < Nat.gcd X.natAbs Y.natAbs := Nat.gcd_pos_of_pos_right _ (by omega)
  have hyp : 0 < Y.natAbs / Nat.gcd X.natAbs Y.natAbs := Nat.div_gcd_pos_of_pos_right _ (by omega)
  have h0 := Int.emod_nonneg X (show (Y.natAbs : Int) ≠ 0 by omega)
  rw [Int.toNat_of_nonneg h0] at hd
  obtain ⟨a1, ha⟩ : ((Nat.gcd X.natAbs Y.natAbs : Nat) : Int) ∣ X := Int.ofNat_dvd_left.2 (Nat.gcd_dvd_left _ _)
  have hyg : (Y.natAbs / Nat.gcd X.natAbs Y.natAbs) * Nat.gcd X.natAbs Y.natAbs = Y.natAbs := Nat.div_mul_cancel (Nat.gcd_dvd_right _ _)
  have hz0 := Int.emod_nonneg Z (show ((Y.natAbs / Nat.gcd X.natAbs Y.natAbs : Nat) : Int) ≠ 0 by omega)
  have hz1 := Int.emod_lt_of_pos Z (show 0 < ((Y.natAbs / Nat.gcd X.natAbs Y.natAbs : Nat) : Int) by omega)
  have hB := Bez.of (a := X) (b := Y) (x := Z % ((Y.natAbs / Nat.gcd X.natAbs Y.natAbs : Nat) : Int)) hY rfl hz0 hz1 (by
    have e1 := Int.emod_def Z ((Y.natAbs / Nat.gcd X.natAbs Y.natAbs : Nat) : Int)
    have e2 := Int.emod_def X (Y.natAbs : Int)
    obtain ⟨k, hk⟩ := hd
    rw [e2] at hk
    rw [e1]
    generalize Z / ((Y.natAbs / Nat.gcd X.natAbs Y.natAbs : Nat) : Int) = q at *
    generalize X / (Y.natAbs : Int) = q2 at *
    have e3 : ((Y.natAbs / Nat.gcd X.natAbs Y.natAbs : Nat) : Int) * X = (Y.natAbs : Int) * a1 := by
      have h5 : ((Y.natAbs / Nat.gcd X.natAbs Y.natAbs : Nat) : Int) * X = ((Y.natAbs / Nat.gcd X.natAbs Y.natAbs : Nat) : Int) * (((Nat.gcd X.natAbs Y.natAbs : Nat) : Int) * a1) := congrArg (fun z => ((Y.natAbs / Nat.gcd X.natAbs Y.natAbs : Nat) : Int) * z) ha
      rw [h5, ← Int.mul_assoc]; congr 1; exact_mod_cast hyg
    refine ⟨k + Z * q2 - q * a1, ?_⟩
    have e4 : (Z - ((Y.natAbs / Nat.gcd X.natAbs Y.natAbs : Nat) : Int) * q) * X = Z * X - q * (((Y.natAbs / Nat.gcd X.natAbs Y.natAbs : Nat) : Int) * X) := by grind
    rw [e4, e3]
    grind)
  have := hB.uniq hY hz
  rw [this.2.1]
end Go.Proofs.Ytdmgbahognfhbaa
namespace Go.Proofs.Ytdmgbahognfhbaa
theorem one_eq {n x : Nat} (hn : 2 ≤ n) : x % n = 1 ↔ One n x := by rw [One.iff, Nat.mod_eq_of_lt (a := 1) hn]
theorem ord_keep {a n o p q : Nat} (hq : 0 < q) (hd : o % q = 0) (h : ¬ (o % p = 0 ∧ One n (a ^ (o / p)))) : ¬ (o / q % p = 0 ∧ One n (a ^ (o / q / p))) := by
  rintro ⟨h1, h2⟩
  obtain ⟨u, hu⟩ := Nat.dvd_of_mod_eq_zero hd
  rw [hu, Nat.mul_div_cancel_left _ hq] at h1 h2
  obtain ⟨t, ht⟩ := Nat.dvd_of_mod_eq_zero h1
  rcases Nat.eq_zero_or_pos p with h0 | h0
  · subst h0
    simp at ht
    subst ht
    refine h ⟨by rw [hu]; simp, ?_⟩
    simp at h2 ⊢; exact h2
  · rw [ht, Nat.mul_div_cancel_left _ h0] at h2
    refine h ⟨by rw [hu, ht]; rw [Nat.mul_left_comm]; exact Nat.mul_mod_right _ _, ?_⟩
    have e : o / p = t * q := by rw [hu, ht, Nat.mul_left_comm, Nat.mul_div_cancel_left _ h0, Nat.mul_comm]
    rw [e, Nat.pow_mul]; exact h2.pow q
theorem of_getD {P : Nat × Nat → Prop} {L : List (Nat × Nat)} (h : ∀ j, j < L.length → P (L.getD j (0, 0))) : ∀ pe ∈ L, P pe := fun pe hpe => by
  obtain ⟨j, hj, rfl⟩ := List.mem_iff_getElem.1 hpe
  have := h j hj
  simpa [List.getD_eq_getElem?_getD, List.getElem?_eq_getElem hj] using this
theorem imem {l : List Int} {j : Nat} (h : j < l.length) : l.getD j 0 ∈ l := by
  simp [List.getD_eq_getElem?_getD, List.getElem?_eq_getElem h]
theorem of_iget {P : Int → Prop} {l : List Int} (h : ∀ j, j < l.length → P (l.getD j 0)) : ∀ x ∈ l, P x := fun x hx => by
  obtain ⟨j, hj, rfl⟩ := List.mem_iff_getElem.1 hx
  have := h j hj
  simpa [List.getD_eq_getElem?_getD, List.getElem?_eq_getElem hj] using this
end Go.Proofs.Ytdmgbahognfhbaa
namespace Go.Proofs.Ytdmgbahognfhbaa
theorem exp_end {q k m j r K : Nat} (hjr : j + r = K) (hK : q = 1 ∧ K = 0 ∨ q ≠ 1 ∧ K = k ∧ (q = 0 → k = 0)) (h : r = 0 ∨ m < q ^ j) : prS m (q ^ k) = prS m (q ^ j) := by
  rcases hK with ⟨rfl, h2⟩ | ⟨h1, rfl, h3⟩
  · rw [Nat.one_pow, Nat.one_pow]
  · rcases Nat.eq_zero_or_pos r with h4 | h4
    · have : j = K := by omega
      rw [this]
    · have h5 : m < q ^ j := by omega
      have hq : 0 < q := by
        rcases Nat.eq_zero_or_pos q with h6 | h6
        · have := h3 h6; omega
        · exact h6
      have h6 : q ^ j ≤ q ^ K := Nat.pow_le_pow_right hq (by omega)
      rw [prS_big h5, prS_big (by omega)]
end Go.Proofs.Ytdmgbahognfhbaa
namespace Go.Proofs.Ytdmgbahognfhbaa
theorem Chin.stepI {rs ms : List Int} {i x P m y : Nat} {R : Option (Nat × Nat)} (h : Chin rs ms i x P R) (hi : i < ms.length) (hm : ms.getD i 0 = m) (hv : IsInv P m y) : Chin rs ms (i + 1) (x + P * (((rs.getD i 0 - x) % m).toNat * y % m)) (P * m) R := by
  cases h with
  | done h1 => omega
  | fail h1 hg => rw [hm] at hg; exact absurd (by have := hv.cop; simpa using this) hg
  | step h1 hm' h0 hv' hr =>
    rw [hm] at hm'
    have := Int.ofNat_inj.1 hm'
    subst this
    rw [hv.uniq hv']; exact hr
theorem Chin.failI {rs ms : List Int} {i x P : Nat} {R : Option (Nat × Nat)} (h : Chin rs ms i x P R) (hi : i < ms.length) (hg : Nat.gcd P (ms.getD i 0).natAbs ≠ 1) : R = none := by
  cases h with
  | done h1 => omega
  | fail h1 hg => rfl
  | step h1 hm' h0 hv' hr => rw [hm'] at hg; exact absurd (by have := hv'.cop; simpa using this) hg
theorem Chin.doneI {rs ms : List Int} {i x P : Nat} {R : Option (Nat × Nat)} (h : Chin rs ms i x P R) (hi : ms.length ≤ i) : R = some (x, P) := by
  cases h with
  | done h1 => rfl
  | fail h1 hg => omega
  | step h1 hm' h0 hv' hr => omega
theorem chi_fin {rs ms : List Int} {X P er : Nat} (hR : ChiR rs ms X P er) (hl : rs.length = ms.length) (hr : ∀ m ∈ ms, 1 ≤ m ∧ m ≤ 2147483647) (hp : prodI ms ≤ 2147483647) :
    ∃ R0, Chin rs ms 0 0 1 R0 ∧ ((R0 = none ∧ X = 0 ∧ P = 0 ∧ er = 11) ∨ (R0 = some (X, P) ∧ er = 0)) := by
  cases hR with
  | shape h => exact absurd hl h
  | range h h2 => obtain ⟨m, hm, h3⟩ := h2; exact absurd (hr m hm) h3
  | big h1 h2 h3 => omega
  | none h1 h2 h3 h4 => exact ⟨_, h4, .inl ⟨rfl, rfl, rfl, rfl⟩⟩
  | ok h1 h2 h3 h4 => exact ⟨_, h4, .inr ⟨rfl, rfl⟩⟩
theorem sub_emod_nat {r : Int} {x m : Nat} (hm : 0 < m) : ((((r % (m : Int)).toNat : Nat) : Int) - x) % (m : Int) = (r - x) % (m : Int) := by
  have h0 := Int.emod_nonneg r (show (m : Int) ≠ 0 by omega)
  rw [Int.toNat_of_nonneg h0]
  apply Int.emod_eq_emod_iff_emod_sub_eq_zero.2
  have e := Int.emod_def r (m : Int)
  rw [show r % (m : Int) - x - (r - x) = (m : Int) * (-(r / (m : Int))) by rw [Int.mul_neg]; omega]
  exact Int.mul_emod_right _ _
theorem prodS_max {ms : List Int} (hr : ∀ m ∈ ms, 1 ≤ m ∧ m ≤ 2147483647) : prodS 2147483647 ms = prS 2147483647 (prodI ms) := prodS_pos (by decide) fun x hx => by have := hr x hx; omega
theorem chi_big {rs ms : List Int} {X P er : Nat} (hR : ChiR rs ms X P er) (hl : rs.length = ms.length) (hr : ∀ m ∈ ms, 1 ≤ m ∧ m ≤ 2147483647) (hp : 2147483647 < prodI ms) : X = 0 ∧ P = 0 ∧ er = 8 := by
  cases hR with
  | shape h => exact absurd hl h
  | range h h2 => obtain ⟨m, hm, h3⟩ := h2; exact absurd (hr m hm) h3
  | big h1 h2 h3 => exact ⟨rfl, rfl, rfl⟩
  | none h1 h2 h3 h4 => omega
  | ok h1 h2 h3 h4 => omega
theorem chi_range {rs ms : List Int} {X P er : Nat} (hR : ChiR rs ms X P er) (hl : rs.length = ms.length) {m : Int} (hm : m ∈ ms) (hr : ¬ (1 ≤ m ∧ m ≤ 2147483647)) : X = 0 ∧ P = 0 ∧ er = 6 := by
  cases hR with
  | shape h => exact absurd hl h
  | range h h2 => exact ⟨rfl, rfl, rfl⟩
  | big h1 h2 h3 => exact absurd (h2 m hm) hr
  | none h1 h2 h3 h4 => exact absurd (h2 m hm) hr
  | ok h1 h2 h3 h4 => exact absurd (h2 m hm) hr
theorem chi_shape {rs ms : List Int} {X P er : Nat} (hR : ChiR rs ms X P er) (hl : rs.length ≠ ms.length) : X = 0 ∧ P = 0 ∧ er = 10 := by
  cases hR with
  | shape h => exact ⟨rfl, rfl, rfl⟩
  | range h h2 => exact absurd h hl
  | big h1 h2 h3 => exact absurd h1 hl
  | none h1 h2 h3 h4 => exact absurd h1 hl
  | ok h1 h2 h3 h4 => exact absurd h1 hl
theorem invR_err {a n : Int} {x e : Nat} (h : InvR a n x e) (hn : 1 ≤ n ∧ n ≤ 2147483647) (he : e ≠ 0) : x = 0 ∧ e = 11 ∧ Nat.gcd a.natAbs n.toNat ≠ 1 := by
  cases h with
  | out h => exact absurd hn h
  | none h1 h2 => exact ⟨rfl, rfl, h2⟩
  | ok h1 h2 => exact absurd rfl he
theorem invR_ok {a n : Int} {x e : Nat} (h : InvR a n x e) (he : e = 0) : IsInv a n.toNat x := by
  cases h with
  | out h => cases he
  | none h1 h2 => cases he
  | ok h1 h2 => exact h2
end Go.Proofs.Ytdmgbahognfhbaa
namespace Go.Proofs.Ytdmgbahognfhbaa
theorem Eu.start2 {a n : Nat} (h : a < n) : Eu a n n a 0 1 (-1) := by
  have := (Eu.start a n).next (by omega)
  rw [Nat.div_eq_of_lt h, Nat.mod_eq_of_lt h] at this
  exact this
theorem bez_inv {X Y x y : Int} {g : Nat} (hY : Y ≠ 0) (h : Bez X Y g x y) : IsInv (X.tdiv (g : Int)) (Y.natAbs / g) x.toNat := by
  have hgp : 0 < g := by rw [h.gg]; exact Nat.gcd_pos_of_pos_right _ (by omega)
  obtain ⟨a1, ha⟩ : (g : Int) ∣ X := by rw [h.gg]; exact Int.ofNat_dvd_left.2 (Nat.gcd_dvd_left _ _)
  obtain ⟨b1, hb1⟩ : (g : Int) ∣ Y := by rw [h.gg]; exact Int.ofNat_dvd_left.2 (Nat.gcd_dvd_right _ _)
  have hB : Y.natAbs / g = b1.natAbs := by rw [hb1, Int.natAbs_mul, Int.natAbs_natCast]; exact Nat.mul_div_cancel_left _ hgp
  have hq : X.tdiv (g : Int) = a1 := by rw [ha]; exact Int.mul_tdiv_cancel_left a1 (by omega)
  have h0 := h.x0; have h1 := h.x1; have he := h.e
  rw [hq, hB]
  rw [hB] at h1
  refine ⟨by omega, ?_⟩
  rw [show ((x.toNat : Nat) : Int) = x by omega]
  refine Int.natAbs_dvd.2 ⟨-y, ?_⟩
  have h3 : (g : Int) * (a1 * x + b1 * y) = g * 1 := by
    rw [Int.mul_add, ← Int.mul_assoc, ← Int.mul_assoc, ← ha, ← hb1]; omega
  have h4 := Int.eq_of_mul_eq_mul_left (by omega) h3
  rw [Int.mul_neg]; omega
end Go.Proofs.Ytdmgbahognfhbaa
namespace Go.Proofs.Ytdmgbahognfhbaa
theorem exp_same {q k j : Nat} (hj : j ≤ k) (h : j = k ∨ q ≤ 1) (h0 : q = 0 → k = 0) : q ^ k = q ^ j := by
  rcases h with rfl | h
  · rfl
  · have : q = 0 ∨ q = 1 := by omega
    rcases this with rfl | rfl
    · have := h0 rfl
      have : j = k := by omega
      rw [this]
    · rw [Nat.one_pow, Nat.one_pow]
theorem sub_emod_nat2 {r : Int} {x m : Nat} (hm : 0 < m) : ((((r % (m : Int)).toNat : Nat) : Int) - ((((x : Int) % (m : Int)).toNat : Nat) : Int)) % (m : Int) = (r - x) % (m : Int) := by
  have h1 := Int.emod_nonneg (x : Int) (show (m : Int) ≠ 0 by omega)
  rw [← sub_emod_nat (r := r) (x := x) hm, Int.toNat_of_nonneg h1]
  apply Int.emod_eq_emod_iff_emod_sub_eq_zero.2
  have e := Int.emod_def (x : Int) (m : Int)
  generalize (((r % (m : Int)).toNat : Nat) : Int) = R
  rw [show R - (x : Int) % (m : Int) - (R - x) = (m : Int) * ((x : Int) / (m : Int)) by omega]
  exact Int.mul_emod_right _ _
end Go.Proofs.Ytdmgbahognfhbaa
