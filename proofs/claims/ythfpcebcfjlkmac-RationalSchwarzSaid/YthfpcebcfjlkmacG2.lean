/- Contracts of functions of the program, and what they lean on: Vr, Facts, W2, W3. -/
import Derived.Test.YthfpcebcfjlkmacG1
import Derived.Test.YthfpcebcfjlkmacProg
set_option linter.unusedSimpArgs false
set_option linter.unusedVariables false
namespace Go.Proofs.Ythfpcebcfjlkmac
open Go.RowKit
/-! ### variables of struct type -/
def aggB (P : Program) (t : Nat) : Bool := match P.underlying t with | some (.struct _) => true | some (.array _ _) => true | _ => false
theorem isAgg_of {P : Program} {t : Nat} (h : aggB P t = true) (w : World) : (isAgg t).run P w = .ok true w := by
  unfold aggB at h
  cases hu : P.underlying t with
  | none => rw [hu] at h; cases h
  | some D =>
    rw [hu] at h
    simp only [isAgg, Sem.run_bind, run_underlying hu, Result.andThen_ok]
    cases D <;> simp_all
theorem run_loadV {P : Program} {w : World} {t z by_ : Nat} {zero : Value} {p : Addr} {cs : List Value} (he : Elem P t z by_ zero) (ha : aggB P t = true) (hl : cs.length = z) (hc : ∀ j u, cs[j]? = some u → w.cell? (p.add j) = some u) :
    (loadVar t p).run P w = .ok (.agg cs.toArray) w := by
  obtain ⟨inf, i1, i2, i3, i4⟩ := he.ex
  have h := run_loadCells_list (P := P) w p cs hc
  rw [hl] at h
  simp [loadVar, Sem.run_bind, isAgg_of ha, sizeOf, typeInfo, i1, i3, h]
theorem Own.vcells {b : Nat} {w : World} {e z g : Nat} {cs : List Value} (h : Own b w e z (some ⟨g, 0, none⟩) 1 1 cs) : ∀ j u, cs[j]? = some u → w.cell? ((⟨g, 0, none⟩ : Addr).add j) = some u := fun j u hu => h.rd.at_ hu
/-- A field's place: one that is no empty one. -/
def fldA (P : Program) (t f off : Nat) : Bool :=
  match P.underlying t with
  | some (.struct fs) =>
    match fs[f]? with
    | some fd => fd.offset == off && (match P.info? fd.type with | some i => i.size != 0 | none => false)
    | none => false
  | _ => false
theorem run_fieldAt {P : Program} {w : World} {t f off : Nat} {p : Addr} (h : fldA P t f off = true) : (Instr.fieldAt t (.pointer (some p)) f).run P w = .ok (.pointer (some (p.add off))) w := by
  unfold fldA at h
  split at h
  · rename_i fs hu
    split at h
    · rename_i fd hfd
      simp only [Bool.and_eq_true, beq_iff_eq] at h
      obtain ⟨ho, hk⟩ := h
      subst ho
      cases hi : P.info? fd.type with
      | none => rw [hi] at hk; cases hk
      | some i =>
        rw [hi] at hk
        have hk' : i.size ≠ 0 := by simpa using hk
        simp [Instr.fieldAt, run_underlying hu, hfd, Instr.sureAddr, fieldPlace, sizeOf, typeInfo, hi, hk']
    · cases h
  · cases h
theorem apart {g h : Nat} (hn : g ≠ h) : ∀ k, bl (some ⟨h, 0, none⟩) = some k → bl (some ⟨g, 0, none⟩) ≠ some k := fun k e1 e2 => by
  simp only [bl, Option.map_some, Option.some.injEq] at e1 e2
  omega
theorem ap_row {A : Option Addr} {g : Nat} (h : ∀ k, bl A = some k → k ≠ g) : ∀ k, bl (some ⟨g, 0, none⟩) = some k → bl A ≠ some k := fun k e1 e2 => by
  simp only [bl, Option.map_some, Option.some.injEq] at e1
  exact h k e2 e1.symm
theorem ap_var {A : Option Addr} {g : Nat} (h : ∀ k, bl A = some k → k ≠ g) : ∀ k, bl A = some k → bl (some ⟨g, 0, none⟩) ≠ some k := fun k e1 e2 => by
  simp only [bl, Option.map_some, Option.some.injEq] at e2
  exact h k e1 e2.symm
theorem ap_new {b : Nat} {w : World} {e z m c : Nat} {A : Option Addr} {cs : List Value} {g : Nat} (h : Own b w e z A m c cs) (hg : g < b) : ∀ k, bl A = some k → k ≠ g := fun k hk => by
  have := (h.bl_ge k hk).1; omega
theorem ap_old {b : Nat} {w : World} {e z m c : Nat} {A : Option Addr} {cs : List Value} {g : Nat} (h : Own b w e z A m c cs) (hg : g = w.heap.size) : ∀ k, bl A = some k → k ≠ g := fun k hk => by
  have := (h.bl_ge k hk).2; omega
theorem own_new (w : World) (t z : Nat) (cs : Array Value) (hz : cs.size = z) : Own w.heap.size (w.alloc (.cells cs t)) t z (some ⟨w.heap.size, 0, none⟩) 1 1 cs.toList :=
  World.ownsRow_lit (e := t) (size := z) w cs 1 (Nat.le_refl _) (by simp [maxLen]) (by simpa using hz)

section
variable {P : Program} {n : Nat} {N : Post} {L : Fr} {w : World} {ops : Array Oper} {rest : List Oper}
variable {d : Nat} {ty : TypeId} {pos : String} {af : Array Edge}
theorem WL.alloc {t z by_ : Nat} {zero : Value} (he : Elem P t z by_ zero) (hn : Nat.blt d n = true)
    (h : ∀ g w', g = w.heap.size → Own w.heap.size w' t z (some ⟨g, 0, none⟩) 1 1 zero.cells.toList → w.grownBy w' none → WL P n ops rest N ((d, .pointer (some ⟨g, 0, none⟩)) :: L) w') :
    WL P n ops (⟨some d, .alloc t, ty, pos, af, none⟩ :: rest) N L w := by
  obtain ⟨inf, i1, i2, i3, i4⟩ := he.ex
  refine WL.val rfl rfl hn (fun a ha => ?_) (h _ _ rfl (own_new w t z zero.cells he.zs) (World.grownBy_alloc w _ none))
  simp [execOp, Instr.alloc, zeroValue, typeInfo, i1, i2, newVar, newRow]
theorem WL.box {x : Operand} {t z by_ : Nat} {zero : Value} {cs : Array Value} (he : Elem P t z by_ zero) (hx : ev L x = some (.agg cs)) (hz : cs.size = z) (hn : Nat.blt d n = true)
    (h : ∀ g w', g = w.heap.size → Own w.heap.size w' t z (some ⟨g, 0, none⟩) 1 1 cs.toList → w.grownBy w' none → WL P n ops rest N ((d, .pointer (some ⟨g, 0, none⟩)) :: L) w') :
    WL P n ops (⟨some d, .box t x, ty, pos, af, none⟩ :: rest) N L w := by
  refine WL.val rfl rfl hn (fun a ha => ?_) (h _ _ rfl (own_new w t z cs hz) (World.grownBy_alloc w _ none))
  simp [execOp, ha.ev hx, Instr.box, newVar, newRow, Value.cells]
theorem WL.loadV {x : Operand} {t z by_ : Nat} {zero : Value} {p : Addr} {cs : List Value} (he : Elem P t z by_ zero) (hag : aggB P t = true) (hx : ev L x = some (.pointer (some p))) (hl : cs.length = z) (hc : ∀ j u, cs[j]? = some u → w.cell? (p.add j) = some u)
    (hn : Nat.blt d n = true) (h : WL P n ops rest N ((d, .agg cs.toArray) :: L) w) : WL P n ops (⟨some d, .load t x, ty, pos, af, none⟩ :: rest) N L w :=
  WL.val rfl rfl hn (fun a ha => by simp [execOp, ha.ev hx, Instr.loadAt, Instr.sureAddr, run_loadV he hag hl hc]) h
theorem WL.fieldA {x : Operand} {t f off : Nat} {p : Addr} (hF : fldA P t f off = true) (hx : ev L x = some (.pointer (some p))) (hn : Nat.blt d n = true)
    (h : WL P n ops rest N ((d, .pointer (some (p.add off))) :: L) w) : WL P n ops (⟨some d, .fieldAddr t x f, ty, pos, af, none⟩ :: rest) N L w :=
  WL.val rfl rfl hn (fun a ha => by simp [execOp, ha.ev hx, run_fieldAt hF]) h
theorem WL.storeV {x y : Operand} {t e z by_ b g : Nat} {zero : Value} {cells : Array Value} {old : List Value} (he : Elem P t z by_ zero) (hx : ev L x = some (.pointer (some ⟨g, 0, none⟩))) (hy : ev L y = some (.agg cells)) (hz : cells.size = z)
    (h1 : cells.toList.all (·.oneCell') = true) (hO : Own b w e z (some ⟨g, 0, none⟩) 1 1 old)
    (h : ∀ w', Own b w' e z (some ⟨g, 0, none⟩) 1 1 cells.toList → w.grownBy w' (bl (some ⟨g, 0, none⟩)) → WL P n ops rest N L w') : WL P n ops (⟨none, .store t x y, ty, pos, af, none⟩ :: rest) N L w := by
  obtain ⟨inf, i1, i2, i3, i4⟩ := he.ex
  obtain ⟨hl, hO2⟩ := hO
  rcases hO2 with ⟨hx0, _⟩ | ⟨g', cap, cur, hg1, hg2, hg3, hg4, hg5, hg6, hg7⟩
  · cases hx0
  · cases hg1
    have hcz : cur.size = cells.size := by rw [hg6, hz, Nat.one_mul]
    have hrun := run_storeVar_row (P := P) w g e t cur cells hg3 (by simp [i1, i3, hz]) hcz (by rw [← Array.all_toList]; exact h1)
    refine WL.act (w' := w.setRow g cells) rfl rfl (fun a ha => by simp [execOp, ha.ev hx, ha.ev hy, Instr.storeAt, Instr.sureAddr, hrun]) (h _ ?_ ?_)
    · refine ⟨by simp [hz], .inr ⟨g, 1, cells, rfl, hg2, setRow_heap w g cur cells e _ hg3, Nat.le_refl _, by simp [maxLen], by simp [hz], ?_⟩⟩
      rw [Nat.one_mul, ← hz, ← Array.length_toList, List.take_length]
    · refine ⟨rfl, rfl, rfl, Nat.le_of_eq (setRow_size w g cells).symm, fun k hk hr => setRow_other w g k cells (fun e => hr (by rw [e]; rfl))⟩
/-- A store into one cell of a variable. -/
theorem WL.storeF {x y : Operand} {t e z by_ b g j : Nat} {zero v : Value} {cs : List Value} (he : Elem P t 1 by_ zero) (hx : ev L x = some (.pointer (some ((⟨g, 0, none⟩ : Addr).add j)))) (hy : ev L y = some v) (h1 : v.oneCell' = true) (hj : Nat.blt j cs.length = true)
    (hO : Own b w e z (some ⟨g, 0, none⟩) 1 1 cs)
    (h : ∀ w', Own b w' e z (some ⟨g, 0, none⟩) 1 1 (cs.set j v) → w.grownBy w' (bl (some ⟨g, 0, none⟩)) → WL P n ops rest N L w') : WL P n ops (⟨none, .store t x y, ty, pos, af, none⟩ :: rest) N L w := by
  obtain ⟨inf, i1, i2, i3, i4⟩ := he.ex
  have hj' : j < cs.length := by simpa [Nat.blt_eq] using hj
  have hs := World.ownsRow.stored hO j v
  have hO2 := hO
  obtain ⟨hl, hO3⟩ := hO2
  rcases hO3 with ⟨hx0, _⟩ | ⟨g', cap, cur, hg1, hg2, hg3, hg4, hg5, hg6, hg7⟩
  · cases hx0
  · cases hg1
    have hadd : (⟨g, 0, none⟩ : Addr).add j = ⟨g, j, none⟩ := by unfold Addr.add; simp; intro h; exact h.symm
    have hjc : j < cur.size := by rw [hg6, ← hl]; exact hj'
    have hce : w.cell? ⟨g, j, none⟩ = some cur[j] := by simp [World.cell?, hg3, hjc]
    have hfr : w.frozen? ⟨g, j, none⟩ = false := by simp [World.frozen?, hg3]
    have hcs : v.cells = #[v] := by cases v <;> simp_all [Value.cells, Value.oneCell']
    rw [hadd] at hx
    have hz : (⟨g, j, none⟩ : Addr).add 0 = ⟨g, j, none⟩ := rfl
    refine WL.act (w' := w.setCell ⟨g, j, none⟩ v) rfl rfl (fun a ha => ?_) (h _ hs.1 hs.2)
    simp [execOp, ha.ev hx, ha.ev hy, Instr.storeAt, Instr.sureAddr, storeVar, sizeOf, typeInfo, i1, i3, hcs, storeCells, run_store _ _ _ _ _ h1, hce, hfr, hz]
/-- The call of a function value. -/
theorem WL.callv {x : Operand} {f : FuncId} {fn : Func} {c : Code} {xs : List Operand} {ts : Array TypeId} {vs : List Value} {R : Value → World → Prop} (hfv : ev L x = some (.func (.func f) #[] #[])) (hf : P.funcs[f]? = some fn) (hb : fn.body = some c) (hnm : (fn.name == "runtime.NumGoroutine") = false)
    (hx : evs L xs = some vs) (hn : Nat.blt d n = true)
    (hc : Calls P f vs.toArray w fun e w' => ∃ v, e = .returned v ∧ R v w') (h : ∀ v w', R v w' → WL P n ops rest N ((d, v) :: L) w') :
    WL P n ops (⟨some d, .call ⟨.value x, xs.toArray, ts⟩, ty, pos, af, none⟩ :: rest) N L w := by
  refine WL.enter rfl rfl hn (fun a ha => ?_) hc h
  have hm := ha.evs hx
  have hfe := ha.ev hfv
  have hnm' : ¬ fn.name = "runtime.NumGoroutine" := by simpa using hnm
  simp only [execOp, resolve, Sem.run_bind]
  simp [Deferred.ofValue, hfe, invoke, callFunc, hm, program, Sem.run, hf, hb, hnm']
end

/-! ### results that are read out of variables -/
def resC (P : Program) (L : Fr) (w : World) : List ResultVar → List Value → Prop
  | [], vs => vs = []
  | .tmp t :: r, vs => ∃ v us, vs = v :: us ∧ lk L t = some v ∧ resC P L w r us
  | .cell a ty :: r, vs => ∃ p v us, vs = v :: us ∧ lk L a = some (.pointer (some p)) ∧ (loadVar ty p).run P w = .ok v w ∧ resC P L w r us
def resV : List Value → Value
  | [v] => v
  | vs => .tuple vs.toArray
def endCN (P : Program) (res : List ResultVar) (R : Value → World → Prop) : Post := fun L w => ∃ vs, resC P L w res vs ∧ R (resV vs) w
def endC (P : Program) (res : List ResultVar) (R : Value → World → Prop) : BPost
  | .ret, L, w => ∃ vs, resC P L w res vs ∧ R (resV vs) w
  | _, _, _ => False
theorem run_resC {P : Program} {a : Act} {n : Nat} {L : Fr} {w : World} (ha : Has n a L) (g : ResultVar → Sem Value) (hg : ∀ t, g (.tmp t) = pure (a.tmps.getD t undef)) (hg2 : ∀ p t, g (.cell p t) = (do loadVar t (← asAddr (a.tmps.getD p undef)))) :
    ∀ (res : List ResultVar) (vs : List Value), resC P L w res vs → (List.mapM g res).run P w = .ok vs w
  | [], vs, h => by cases h; rfl
  | .tmp t :: r, vs, h => by
    obtain ⟨v, us, rfl, h1, h2⟩ := h
    have ih := run_resC ha g hg hg2 r us h2
    have hv : a.tmps.getD t undef = v := by simp [Array.getD_eq_getD_getElem?, ha.at_ t v h1]
    rw [List.mapM_cons, Sem.run_bind, hg, Sem.run_pure, Result.andThen_ok, Sem.run_bind, ih, hv]
    rfl
  | .cell p ty :: r, vs, h => by
    obtain ⟨q, v, us, rfl, h1, h2, h3⟩ := h
    have ih := run_resC ha g hg hg2 r us h3
    have hv : a.tmps.getD p undef = .pointer (some q) := by simp [Array.getD_eq_getD_getElem?, ha.at_ p _ h1]
    rw [List.mapM_cons, Sem.run_bind, hg2, hv]
    have : (do loadVar ty (← asAddr (.pointer (some q))) : Sem Value).run P w = .ok v w := by simp [asAddr, h2]
    rw [this, Result.andThen_ok, Sem.run_bind, ih]
    rfl
theorem run_resultsC {P : Program} {fn : Func} {res : List ResultVar} {a : Act} {n : Nat} {L : Fr} {vs : List Value} {w : World} (hres : fn.results = res.toArray) (ha : Has n a L) (hv : resC P L w res vs) : (results fn a.tmps).run P w = .ok (resV vs) w := by
  unfold results
  rw [Sem.run_bind, hres, List.mapM_toArray, Sem.run_map, run_resC ha _ (fun _ => rfl) (fun _ _ => rfl) res vs hv]
  simp only [Result.andThen_ok]
  match vs with
  | [] => simp [resV]
  | [v] => simp [resV]
  | v :: u :: us => simp [resV]
theorem calls_of_Wc {P : Program} {f : FuncId} {fn : Func} {c : Code} {n : Nat} {vs : List Value} {R : Value → World → Prop} {w : World} (res : List ResultVar) (hf : P.funcs[f]? = some fn) (hb : fn.body = some c) (hn : fn.ntmps = n)
    (hres : fn.results = res.toArray) (hle : Nat.ble vs.length n = true) (h : W P n c (endCN P res R) (endC P res R) (args0 0 vs) w) : Calls P f vs.toArray w fun e w' => ∃ v, e = .returned v ∧ R v w' := by
  have hle' : vs.length ≤ n := by simpa [Nat.ble_eq] using hle
  refine calls_of_wp hf hb (wp_mono (h.out _ ⟨rfl, by simp [hn]; omega, fun t v hv => ?_⟩) fun e a w' q => ?_)
  · obtain ⟨_, h2⟩ := args0_at vs 0 t v hv
    have ht : t < vs.length := (List.getElem?_eq_some_iff.1 h2).1
    rw [Array.getElem?_append_left (by simpa using ht)]
    simpa using h2
  · cases e with
    | normal =>
      obtain ⟨L, hL, us, hv, hR⟩ := q
      exact ⟨hL.nd, _, run_resultsC hres hL hv, _, rfl, hR⟩
    | ret =>
      obtain ⟨L, hL, us, hv, hR⟩ := q
      exact ⟨hL.nd, _, run_resultsC hres hL hv, _, rfl, hR⟩
    | _ => obtain ⟨L, _, h⟩ := q; exact h.elim
end Go.Proofs.Ythfpcebcfjlkmac
set_option linter.unusedVariables false
namespace Go.Proofs.Ythfpcebcfjlkmac
open Go.RowKit
theorem Try.mixed : Try.prog.follows .mixedOrders = true := by kernel_rfl
theorem Try.el48 : Elem Try.prog 48 1 4 (.int .u32 0) := .mk' (by kernel_rfl) rfl (by decide)
theorem Try.el23 : Elem Try.prog 23 1 24 (.slice none 0 0) := .mk' (by kernel_rfl) rfl (by decide)
theorem Try.el4 : Elem Try.prog 4 1 1 (.bool false) := .mk' (by kernel_rfl) rfl (by decide)
theorem Try.el82 : Elem Try.prog 82 2 16 (.agg #[.int .i64 0, .int .i64 0]) := .mk' (by kernel_rfl) rfl (by decide)
theorem Try.agg82 : aggB Try.prog 82 = true := by kernel_rfl
theorem Try.fld82_0 : fldB Try.prog 82 0 0 = true := by kernel_rfl
theorem Try.fla82_0 : fldA Try.prog 82 0 0 = true := by kernel_rfl
theorem Try.fld82_1 : fldB Try.prog 82 1 1 = true := by kernel_rfl
theorem Try.fla82_1 : fldA Try.prog 82 1 1 = true := by kernel_rfl
theorem Try.bld82 : bldP Try.prog 82 [(0, 1), (1, 1)] #[.int .i64 0, .int .i64 0] := ⟨by kernel_rfl, _, Try.underlying82, by kernel_rfl⟩
theorem Try.el25 : Elem Try.prog 25 3 56 (.agg #[.bool false, .slice none 0 0, .slice none 0 0]) := .mk' (by kernel_rfl) rfl (by decide)
theorem Try.agg25 : aggB Try.prog 25 = true := by kernel_rfl
theorem Try.fld25_0 : fldB Try.prog 25 0 0 = true := by kernel_rfl
theorem Try.fla25_0 : fldA Try.prog 25 0 0 = true := by kernel_rfl
theorem Try.fld25_1 : fldB Try.prog 25 1 1 = true := by kernel_rfl
theorem Try.fla25_1 : fldA Try.prog 25 1 1 = true := by kernel_rfl
theorem Try.fld25_2 : fldB Try.prog 25 2 2 = true := by kernel_rfl
theorem Try.fla25_2 : fldA Try.prog 25 2 2 = true := by kernel_rfl
theorem Try.bld25 : bldP Try.prog 25 [(0, 1), (1, 1), (2, 1)] #[.bool false, .slice none 0 0, .slice none 0 0] := ⟨by kernel_rfl, _, Try.underlying25, by kernel_rfl⟩
theorem Try.nm3 : (Try.f3.name == "runtime.NumGoroutine") = false := by kernel_rfl
theorem Try.nm4 : (Try.f4.name == "runtime.NumGoroutine") = false := by kernel_rfl
theorem Try.nm5 : (Try.f5.name == "runtime.NumGoroutine") = false := by kernel_rfl
theorem Try.nm6 : (Try.f6.name == "runtime.NumGoroutine") = false := by kernel_rfl
theorem Try.nm7 : (Try.f7.name == "runtime.NumGoroutine") = false := by kernel_rfl
theorem Try.nm8 : (Try.f8.name == "runtime.NumGoroutine") = false := by kernel_rfl
theorem Try.nm9 : (Try.f9.name == "runtime.NumGoroutine") = false := by kernel_rfl
theorem Try.nm10 : (Try.f10.name == "runtime.NumGoroutine") = false := by kernel_rfl
theorem Try.nm11 : (Try.f11.name == "runtime.NumGoroutine") = false := by kernel_rfl
theorem Try.nm12 : (Try.f12.name == "runtime.NumGoroutine") = false := by kernel_rfl
theorem Try.nm13 : (Try.f13.name == "runtime.NumGoroutine") = false := by kernel_rfl
theorem Try.nm14 : (Try.f14.name == "runtime.NumGoroutine") = false := by kernel_rfl
theorem Try.nm15 : (Try.f15.name == "runtime.NumGoroutine") = false := by kernel_rfl
theorem Try.nm16 : (Try.f16.name == "runtime.NumGoroutine") = false := by kernel_rfl
theorem Try.nm17 : (Try.f17.name == "runtime.NumGoroutine") = false := by kernel_rfl
theorem Try.nm18 : (Try.f18.name == "runtime.NumGoroutine") = false := by kernel_rfl
theorem Try.nm19 : (Try.f19.name == "runtime.NumGoroutine") = false := by kernel_rfl
theorem Try.nm20 : (Try.f20.name == "runtime.NumGoroutine") = false := by kernel_rfl
theorem Try.nm21 : (Try.f21.name == "runtime.NumGoroutine") = false := by kernel_rfl
theorem Try.nm22 : (Try.f22.name == "runtime.NumGoroutine") = false := by kernel_rfl
theorem Try.nm23 : (Try.f23.name == "runtime.NumGoroutine") = false := by kernel_rfl
theorem Try.nm24 : (Try.f24.name == "runtime.NumGoroutine") = false := by kernel_rfl
theorem Try.nm25 : (Try.f25.name == "runtime.NumGoroutine") = false := by kernel_rfl
theorem Try.nm26 : (Try.f26.name == "runtime.NumGoroutine") = false := by kernel_rfl
theorem Try.nm27 : (Try.f27.name == "runtime.NumGoroutine") = false := by kernel_rfl
theorem Try.nm28 : (Try.f28.name == "runtime.NumGoroutine") = false := by kernel_rfl
theorem Try.nm29 : (Try.f29.name == "runtime.NumGoroutine") = false := by kernel_rfl
theorem Try.nm30 : (Try.f30.name == "runtime.NumGoroutine") = false := by kernel_rfl
theorem Try.nm31 : (Try.f31.name == "runtime.NumGoroutine") = false := by kernel_rfl
theorem Try.nm32 : (Try.f32.name == "runtime.NumGoroutine") = false := by kernel_rfl
theorem Try.nm33 : (Try.f33.name == "runtime.NumGoroutine") = false := by kernel_rfl
theorem Try.nm34 : (Try.f34.name == "runtime.NumGoroutine") = false := by kernel_rfl
theorem Try.nm35 : (Try.f35.name == "runtime.NumGoroutine") = false := by kernel_rfl
theorem Try.nm36 : (Try.f36.name == "runtime.NumGoroutine") = false := by kernel_rfl
theorem Try.nm37 : (Try.f37.name == "runtime.NumGoroutine") = false := by kernel_rfl
theorem Try.nm38 : (Try.f38.name == "runtime.NumGoroutine") = false := by kernel_rfl
theorem Try.nm39 : (Try.f39.name == "runtime.NumGoroutine") = false := by kernel_rfl
theorem Try.nm40 : (Try.f40.name == "runtime.NumGoroutine") = false := by kernel_rfl
theorem Try.nm41 : (Try.f41.name == "runtime.NumGoroutine") = false := by kernel_rfl
theorem Try.nm42 : (Try.f42.name == "runtime.NumGoroutine") = false := by kernel_rfl
theorem Try.nm43 : (Try.f43.name == "runtime.NumGoroutine") = false := by kernel_rfl
theorem Try.nm44 : (Try.f44.name == "runtime.NumGoroutine") = false := by kernel_rfl
theorem Try.nm45 : (Try.f45.name == "runtime.NumGoroutine") = false := by kernel_rfl
theorem Try.nm46 : (Try.f46.name == "runtime.NumGoroutine") = false := by kernel_rfl
theorem Try.nm47 : (Try.f47.name == "runtime.NumGoroutine") = false := by kernel_rfl
theorem Try.nm48 : (Try.f48.name == "runtime.NumGoroutine") = false := by kernel_rfl
theorem Try.nm49 : (Try.f49.name == "runtime.NumGoroutine") = false := by kernel_rfl
theorem Try.nm50 : (Try.f50.name == "runtime.NumGoroutine") = false := by kernel_rfl
theorem Try.nm51 : (Try.f51.name == "runtime.NumGoroutine") = false := by kernel_rfl
theorem Try.nm52 : (Try.f52.name == "runtime.NumGoroutine") = false := by kernel_rfl
theorem Try.nm53 : (Try.f53.name == "runtime.NumGoroutine") = false := by kernel_rfl
theorem Try.nm54 : (Try.f54.name == "runtime.NumGoroutine") = false := by kernel_rfl
theorem Try.nm55 : (Try.f55.name == "runtime.NumGoroutine") = false := by kernel_rfl
theorem Try.nm56 : (Try.f56.name == "runtime.NumGoroutine") = false := by kernel_rfl
theorem Try.nm57 : (Try.f57.name == "runtime.NumGoroutine") = false := by kernel_rfl
theorem Try.nm58 : (Try.f58.name == "runtime.NumGoroutine") = false := by kernel_rfl
theorem Try.nm59 : (Try.f59.name == "runtime.NumGoroutine") = false := by kernel_rfl
theorem Try.nm60 : (Try.f60.name == "runtime.NumGoroutine") = false := by kernel_rfl
theorem Try.nm61 : (Try.f61.name == "runtime.NumGoroutine") = false := by kernel_rfl
theorem Try.nm62 : (Try.f62.name == "runtime.NumGoroutine") = false := by kernel_rfl
theorem Try.nm63 : (Try.f63.name == "runtime.NumGoroutine") = false := by kernel_rfl
theorem Try.nm64 : (Try.f64.name == "runtime.NumGoroutine") = false := by kernel_rfl
theorem Try.nm65 : (Try.f65.name == "runtime.NumGoroutine") = false := by kernel_rfl
theorem Try.nm66 : (Try.f66.name == "runtime.NumGoroutine") = false := by kernel_rfl
theorem Try.nm67 : (Try.f67.name == "runtime.NumGoroutine") = false := by kernel_rfl
theorem Try.nm68 : (Try.f68.name == "runtime.NumGoroutine") = false := by kernel_rfl
theorem Try.nm69 : (Try.f69.name == "runtime.NumGoroutine") = false := by kernel_rfl
theorem Try.nm70 : (Try.f70.name == "runtime.NumGoroutine") = false := by kernel_rfl
theorem Try.nm71 : (Try.f71.name == "runtime.NumGoroutine") = false := by kernel_rfl
theorem Try.nm72 : (Try.f72.name == "runtime.NumGoroutine") = false := by kernel_rfl
theorem Try.nm73 : (Try.f73.name == "runtime.NumGoroutine") = false := by kernel_rfl
theorem Try.nm74 : (Try.f74.name == "runtime.NumGoroutine") = false := by kernel_rfl
theorem Try.nm75 : (Try.f75.name == "runtime.NumGoroutine") = false := by kernel_rfl
theorem Try.nm76 : (Try.f76.name == "runtime.NumGoroutine") = false := by kernel_rfl
theorem Try.nm77 : (Try.f77.name == "runtime.NumGoroutine") = false := by kernel_rfl
theorem Try.nm78 : (Try.f78.name == "runtime.NumGoroutine") = false := by kernel_rfl
theorem Try.nm79 : (Try.f79.name == "runtime.NumGoroutine") = false := by kernel_rfl
theorem Try.nm80 : (Try.f80.name == "runtime.NumGoroutine") = false := by kernel_rfl
theorem Try.nm81 : (Try.f81.name == "runtime.NumGoroutine") = false := by kernel_rfl
theorem Try.nm82 : (Try.f82.name == "runtime.NumGoroutine") = false := by kernel_rfl
theorem Try.nm83 : (Try.f83.name == "runtime.NumGoroutine") = false := by kernel_rfl
theorem Try.nm84 : (Try.f84.name == "runtime.NumGoroutine") = false := by kernel_rfl
theorem Try.nm85 : (Try.f85.name == "runtime.NumGoroutine") = false := by kernel_rfl
theorem Try.nm86 : (Try.f86.name == "runtime.NumGoroutine") = false := by kernel_rfl
theorem Try.nm87 : (Try.f87.name == "runtime.NumGoroutine") = false := by kernel_rfl
theorem Try.nm88 : (Try.f88.name == "runtime.NumGoroutine") = false := by kernel_rfl
theorem Try.nm89 : (Try.f89.name == "runtime.NumGoroutine") = false := by kernel_rfl
theorem Try.nm90 : (Try.f90.name == "runtime.NumGoroutine") = false := by kernel_rfl
theorem Try.nm91 : (Try.f91.name == "runtime.NumGoroutine") = false := by kernel_rfl
theorem Try.nm92 : (Try.f92.name == "runtime.NumGoroutine") = false := by kernel_rfl
theorem Try.nm93 : (Try.f93.name == "runtime.NumGoroutine") = false := by kernel_rfl
theorem Try.nm94 : (Try.f94.name == "runtime.NumGoroutine") = false := by kernel_rfl
theorem Try.nm95 : (Try.f95.name == "runtime.NumGoroutine") = false := by kernel_rfl
theorem Try.nm96 : (Try.f96.name == "runtime.NumGoroutine") = false := by kernel_rfl
theorem Try.nm97 : (Try.f97.name == "runtime.NumGoroutine") = false := by kernel_rfl
theorem Try.nm98 : (Try.f98.name == "runtime.NumGoroutine") = false := by kernel_rfl
theorem Try.nm99 : (Try.f99.name == "runtime.NumGoroutine") = false := by kernel_rfl
theorem Try.nm100 : (Try.f100.name == "runtime.NumGoroutine") = false := by kernel_rfl
theorem Try.nm101 : (Try.f101.name == "runtime.NumGoroutine") = false := by kernel_rfl
theorem Try.nm102 : (Try.f102.name == "runtime.NumGoroutine") = false := by kernel_rfl
end Go.Proofs.Ythfpcebcfjlkmac
set_option linter.unusedSimpArgs false
set_option linter.unusedVariables false
namespace Go.Proofs.Ythfpcebcfjlkmac
open Go.RowKit
theorem sig_c {w : World} {Ba : Nat} {Aa : Option Addr} {ma ca : Nat} {xa : List Nat} (ha : Rd Ba w 1 Aa ma ca (us xa)) :
    Calls Try.prog 46 #[.slice Aa ma ca] w fun e w2 => ∃ v, e = .returned v ∧ (fun v w2 => v = .slice Aa (sigL xa) ca ∧ w.grownBy w2 none) v w2 := by
  have ha := ha.norm
  have ha_l := ha.ulen
  have ha_x := ha.max
  simp only [maxLen] at ha_x
  have ha_c := ha.cap
  have ha0 := ha
  have hB := ext_refl w
  refine calls_of_W (vs := [.slice Aa ma ca]) [2] Try.func46 rfl rfl rfl rfl ?_
  refine W.seq ?_
  refine W.region ?_
  refine WL.assign rfl rfl ?_
  refine WL.done ?_
  refine W.seq ?_
  refine W.region ?_
  refine WL.move rfl rfl ?_
  refine WL.len Try.underlying23 rfl rfl ?_
  refine WL.assign rfl rfl ?_
  refine WL.done ?_
  refine W.seq ?_
  refine W.block ?_
  refine W.loop (σ := Nat) (fun k w1 => w = w1 ∧ k ≤ ma ∧ sigL xa ≤ k) (fun k => [(0, .slice Aa ma ca), (3, .int .i64 ((k : Nat) : Int))]) (fun k => k) ma ?_ ?_ ?_
  · exact ⟨rfl, Nat.le_refl _, ha_l ▸ sigL_le xa⟩
  · exact ⟨rfl, iv (by omega), trivial⟩
  · rintro k w11 ⟨rfl, hk, hs⟩
    refine W.seq ?_
    refine W.seq ?_
    refine W.region ?_
    refine WL.move rfl rfl ?_
    refine WL.gtr rfl rfl rfl (fun c12 => ?_) (fun c12 => ?_)
    · refine WL.move rfl rfl ?_
      refine WL.take rfl ?_
      refine WL.move rfl rfl ?_
      refine WL.take rfl ?_
      refine WL.move rfl rfl ?_
      refine WL.take rfl ?_
      refine WL.sub (r := ((k - 1 : Nat) : Int)) rfl rfl (wi64 (by omega) (by omega) (by omega)) rfl ?_
      refine WL.take rfl ?_
      refine WL.index1 (k - 1) Try.underlying23 Try.el48 rfl rfl (by omega) (by omega) ha rfl ?_
      refine WL.take rfl ?_
      refine WL.load Try.underlying48 rfl rfl (Rd.at_ ha (us_at (by omega))) rfl ?_
      refine WL.take rfl ?_
      refine WL.eql rfl rfl rfl (fun c13 => ?_) (fun c13 => ?_)
      · refine WL.pick rfl rfl rfl ?_
        refine WL.done ?_
        refine W.condT rfl ?_
        refine W.skip ?_
        refine W.block ?_
        refine W.region ?_
        refine WL.move rfl rfl ?_
        refine WL.sub (r := ((k - 1 : Nat) : Int)) rfl rfl (wi64 (by omega) (by omega) (by omega)) rfl ?_
        refine WL.assign rfl rfl ?_
        refine WL.done ?_
        refine ⟨k - 1, ⟨rfl, iv (by omega), trivial⟩, by omega, ?_⟩
        exact ⟨rfl, by omega, sigL_step hs (by omega) (by omega)⟩
      · refine WL.pick rfl rfl rfl ?_
        refine WL.done ?_
        refine W.condF rfl ?_
        refine W.exit ?_
        refine W.seq ?_
        refine W.region ?_
        refine WL.move rfl rfl ?_
        refine WL.move rfl rfl ?_
        refine WL.slTo (k) Try.underlying23 Try.el48 rfl rfl (by omega) (by omega) rfl ?_
        have hT14 := ha.take (k := k) (by omega)
        rw [us_take] at hT14
        refine WL.assign rfl rfl ?_
        refine WL.done ?_
        refine W.ret ?_
        refine ⟨_, rfl, ?_⟩
        have e : k = sigL xa := sigL_stop hs (by omega) (by omega)
        subst e; exact ⟨rfl, hB⟩
    · refine WL.move rfl rfl ?_
      refine WL.pass rfl rfl rfl ?_
      refine WL.pass rfl rfl rfl ?_
      refine WL.pass rfl rfl rfl ?_
      refine WL.pass rfl rfl rfl ?_
      refine WL.pass rfl rfl rfl ?_
      refine WL.pass rfl rfl rfl ?_
      refine WL.pick rfl rfl rfl ?_
      refine WL.done ?_
      refine W.condF rfl ?_
      refine W.exit ?_
      refine W.seq ?_
      refine W.region ?_
      refine WL.move rfl rfl ?_
      refine WL.move rfl rfl ?_
      refine WL.slTo (k) Try.underlying23 Try.el48 rfl rfl (by omega) (by omega) rfl ?_
      have hT15 := ha.take (k := k) (by omega)
      rw [us_take] at hT15
      refine WL.assign rfl rfl ?_
      refine WL.done ?_
      refine W.ret ?_
      refine ⟨_, rfl, ?_⟩
      have e : k = sigL xa := by omega
      subst e; exact ⟨rfl, hB⟩

theorem limbAt_c {w : World} {Ba : Nat} {Aa : Option Addr} {ma ca : Nat} {xa : List Nat} (ha : Rd Ba w 1 Aa ma ca (us xa)) {J : Int} (i : Nat) (hJ : J = i) :
    Calls Try.prog 79 #[.slice Aa ma ca, .int .i64 J] w fun e w2 => ∃ v, e = .returned v ∧ (fun v w2 => v = .int .u32 ((xa.getD i 0 : Nat) : Int) ∧ w.grownBy w2 none) v w2 := by
  have ha := ha.norm
  have ha_l := ha.ulen
  have ha_x := ha.max
  simp only [maxLen] at ha_x
  have ha_c := ha.cap
  have ha0 := ha
  have hB := ext_refl w
  refine calls_of_W (vs := [.slice Aa ma ca, .int .i64 J]) [4] Try.func79 rfl rfl rfl rfl ?_
  refine W.seq ?_
  refine W.region ?_
  refine WL.assign rfl rfl ?_
  refine WL.done ?_
  refine W.seq ?_
  refine W.seq ?_
  refine W.region ?_
  refine WL.move rfl rfl ?_
  refine WL.move rfl rfl ?_
  refine WL.len Try.underlying23 rfl rfl ?_
  refine WL.geq rfl rfl rfl (fun c11 => ?_) (fun c11 => ?_)
  · refine WL.done ?_
    refine W.condT rfl ?_
    refine W.seq ?_
    refine W.region ?_
    refine WL.assign rfl rfl ?_
    refine WL.done ?_
    refine W.ret ?_
    refine ⟨_, rfl, ?_⟩
    rw [getD_out (by omega)]; exact ⟨rfl, hB⟩
  · refine WL.done ?_
    refine W.condF rfl ?_
    refine W.skip ?_
    refine W.seq ?_
    refine W.region ?_
    refine WL.move rfl rfl ?_
    refine WL.move rfl rfl ?_
    refine WL.index1 (i) Try.underlying23 Try.el48 rfl rfl (by omega) (by omega) ha rfl ?_
    refine WL.load Try.underlying48 rfl rfl (Rd.at_ ha (us_at (by omega))) rfl ?_
    refine WL.assign rfl rfl ?_
    refine WL.done ?_
    refine W.ret ?_
    refine ⟨_, rfl, ?_⟩
    exact ⟨rfl, hB⟩

theorem limb_c {w : World} {Ba : Nat} {Aa : Option Addr} {ma ca : Nat} {xa : List Nat} (ha : Rd Ba w 1 Aa ma ca (us xa)) (hLa : Lim xa) {J : Int} (i : Nat) (hJ : J = i) :
    Calls Try.prog 59 #[.slice Aa ma ca, .int .i64 J] w fun e w2 => ∃ v, e = .returned v ∧ (fun v w2 => v = .int .u64 ((xa.getD i 0 : Nat) : Int) ∧ w.grownBy w2 none) v w2 := by
  have ha := ha.norm
  have ha_l := ha.ulen
  have ha_x := ha.max
  simp only [maxLen] at ha_x
  have ha_c := ha.cap
  have ha0 := ha
  have hx := hLa.getD i
  have hB := ext_refl w
  refine calls_of_W (vs := [.slice Aa ma ca, .int .i64 J]) [4] Try.func59 rfl rfl rfl rfl ?_
  refine W.seq ?_
  refine W.region ?_
  refine WL.assign rfl rfl ?_
  refine WL.done ?_
  refine W.seq ?_
  refine W.seq ?_
  refine W.region ?_
  refine WL.move rfl rfl ?_
  refine WL.move rfl rfl ?_
  refine WL.len Try.underlying23 rfl rfl ?_
  refine WL.lss rfl rfl rfl (fun c11 => ?_) (fun c11 => ?_)
  · refine WL.done ?_
    refine W.condT rfl ?_
    refine W.seq ?_
    refine W.region ?_
    refine WL.move rfl rfl ?_
    refine WL.move rfl rfl ?_
    refine WL.index1 (i) Try.underlying23 Try.el48 rfl rfl (by omega) (by omega) ha rfl ?_
    refine WL.load Try.underlying48 rfl rfl (Rd.at_ ha (us_at (by omega))) rfl ?_
    refine WL.conv (r := ((xa.getD i 0 : Nat) : Int)) Try.underlying48 Try.underlying61 rfl (wu64 (by omega) (by omega) (by omega)) rfl ?_
    refine WL.assign rfl rfl ?_
    refine WL.done ?_
    refine W.ret ?_
    refine ⟨_, rfl, ?_⟩
    exact ⟨rfl, hB⟩
  · refine WL.done ?_
    refine W.condF rfl ?_
    refine W.skip ?_
    refine W.seq ?_
    refine W.region ?_
    refine WL.assign rfl rfl ?_
    refine WL.done ?_
    refine W.ret ?_
    refine ⟨_, rfl, ?_⟩
    rw [getD_out (by omega)]; exact ⟨rfl, hB⟩

theorem Same_c {w : World} {Ba : Nat} {Aa : Option Addr} {ma ca : Nat} {xa : List Nat} (ha : Rd Ba w 1 Aa ma ca (us xa)) {Bb : Nat} {Ab : Option Addr} {mb cb : Nat} {xb : List Nat} (hb : Rd Bb w 1 Ab mb cb (us xb)) :
    Calls Try.prog 28 #[.slice Aa ma ca, .slice Ab mb cb] w fun e w2 => ∃ v, e = .returned v ∧ (fun v w2 => v = .bool (decide (xa = xb)) ∧ w.grownBy w2 none) v w2 := by
  have ha := ha.norm
  have ha_l := ha.ulen
  have ha_x := ha.max
  simp only [maxLen] at ha_x
  have ha_c := ha.cap
  have hb := hb.norm
  have hb_l := hb.ulen
  have hb_x := hb.max
  simp only [maxLen] at hb_x
  have hb_c := hb.cap
  have ha0 := ha
  have hb0 := hb
  have hB := ext_refl w
  refine calls_of_W (vs := [.slice Aa ma ca, .slice Ab mb cb]) [4] Try.func28 rfl rfl rfl rfl ?_
  refine W.seq ?_
  refine W.region ?_
  refine WL.assign rfl rfl ?_
  refine WL.done ?_
  refine W.seq ?_
  refine W.seq ?_
  refine W.region ?_
  refine WL.move rfl rfl ?_
  refine WL.len Try.underlying23 rfl rfl ?_
  refine WL.move rfl rfl ?_
  refine WL.len Try.underlying23 rfl rfl ?_
  refine WL.neq rfl rfl rfl (fun c11 => ?_) (fun c11 => ?_)
  · refine WL.done ?_
    refine W.condT rfl ?_
    refine W.seq ?_
    refine W.region ?_
    refine WL.assign rfl rfl ?_
    refine WL.done ?_
    refine W.ret ?_
    refine ⟨_, rfl, ?_⟩
    rw [decide_eq_false (fun h => by subst h; omega)]; exact ⟨rfl, hB⟩
  · refine WL.done ?_
    refine W.condF rfl ?_
    refine W.skip ?_
    refine W.seq ?_
    refine W.seq ?_
    refine W.region ?_
    refine WL.assign rfl rfl ?_
    refine WL.done ?_
    refine W.block ?_
    refine W.loop (σ := Nat) (fun k w1 => w.grownBy w1 none ∧ k ≤ ma ∧ ma = mb ∧ xa.take k = xb.take k) (fun k => [(0, .slice Aa ma ca), (1, .slice Ab mb cb), (5, .int .i64 ((k : Nat) : Int))]) (fun k => ma - k) 0 ?_ ?_ ?_
    · exact ⟨ext_refl _, Nat.zero_le _, by omega, rfl⟩
    · exact ⟨rfl, rfl, iv (by omega), trivial⟩
    · rintro k w12 ⟨hB, hk, hmm, heq⟩
      have ha := ha0.ext hB
      have hb := hb0.ext hB
      refine W.seq ?_
      refine W.seq ?_
      refine W.region ?_
      refine WL.move rfl rfl ?_
      refine WL.move rfl rfl ?_
      refine WL.len Try.underlying23 rfl rfl ?_
      refine WL.lss rfl rfl rfl (fun c13 => ?_) (fun c13 => ?_)
      · refine WL.done ?_
        refine W.condT rfl ?_
        refine W.skip ?_
        refine W.seq ?_
        refine W.block ?_
        refine W.seq ?_
        refine W.draw [⟨[], [0], true⟩, ⟨[], [5], true⟩, ⟨[0, 1], [], true⟩, ⟨[2], [], false⟩, ⟨[], [1], true⟩, ⟨[], [5], true⟩, ⟨[4, 5], [], true⟩, ⟨[6], [], false⟩, ⟨[3, 7], [], true⟩] [[(0, .slice Aa ma ca)], [(5, .int .i64 ((k : Nat) : Int))], [], [], [(1, .slice Ab mb cb)], [(5, .int .i64 ((k : Nat) : Int))], [], [], []] (fun iQ => [fun v _ => v = .slice Aa ma ca, fun v _ => v = .int .i64 ((k : Nat) : Int), fun v _ => v = .pointer (some ((adOf Aa).add k)), fun v _ => v = .int .u32 ((xa.getD k 0 : Nat) : Int), fun v _ => v = .slice Ab mb cb, fun v _ => v = .int .i64 ((k : Nat) : Int), fun v _ => v = .pointer (some ((adOf Ab).add k)), fun v _ => v = .int .u32 ((xb.getD k 0 : Nat) : Int), fun v _ => v = .bool (decide (((xa.getD k 0 : Nat) : Int) ≠ ((xb.getD k 0 : Nat) : Int)))].getD iQ (fun _ _ => True)) (fun _ => True) 9 Try.mixed (by kernel_rfl) ?_ ?_ ?_
        · refine Vs_mono _ ?_
          intro VQ hVQ vQ wQ1 wQ2 hQ1 hQ2
          simp only [List.mem_cons, List.not_mem_nil, or_false] at hVQ
          rcases hVQ with rfl | rfl | rfl | rfl | rfl | rfl | rfl | rfl | rfl <;> exact hQ1
        · refine ⟨⟨rfl, ⟨rfl, trivial⟩, ?_⟩, ⟨rfl, ⟨rfl, trivial⟩, ?_⟩, ⟨rfl, trivial, ?_⟩, ⟨rfl, trivial, ?_⟩, ⟨rfl, ⟨rfl, trivial⟩, ?_⟩, ⟨rfl, ⟨rfl, trivial⟩, ?_⟩, ⟨rfl, trivial, ?_⟩, ⟨rfl, trivial, ?_⟩, ⟨rfl, trivial, ?_⟩, trivial⟩
          · intro w14 hE
            intro R
            refine WL.move rfl rfl ?_
            exact WL.done ⟨_, rfl, rfl, rfl⟩
          · intro w15 hE
            intro R
            refine WL.move rfl rfl ?_
            exact WL.done ⟨_, rfl, rfl, rfl⟩
          · intro w16 hE
            rintro _ rfl
            rintro _ rfl
            intro R
            refine WL.index1 (k) Try.underlying23 Try.el48 rfl rfl (by omega) (by omega) ha rfl ?_
            exact WL.done ⟨_, rfl, rfl, rfl⟩
          · intro w17 hE
            have hE := hE rfl
            have hB := ext_trans hB hE
            have ha := ha0.ext hB
            rintro _ rfl
            intro R
            refine WL.load Try.underlying48 rfl rfl (Rd.at_ ha (us_at (by omega))) rfl ?_
            exact WL.done ⟨_, rfl, ext_refl _, rfl⟩
          · intro w18 hE
            intro R
            refine WL.move rfl rfl ?_
            exact WL.done ⟨_, rfl, rfl, rfl⟩
          · intro w19 hE
            intro R
            refine WL.move rfl rfl ?_
            exact WL.done ⟨_, rfl, rfl, rfl⟩
          · intro w20 hE
            rintro _ rfl
            rintro _ rfl
            intro R
            refine WL.index1 (k) Try.underlying23 Try.el48 rfl rfl (by omega) (by omega) hb rfl ?_
            exact WL.done ⟨_, rfl, rfl, rfl⟩
          · intro w21 hE
            have hE := hE rfl
            have hB := ext_trans hB hE
            have hb := hb0.ext hB
            rintro _ rfl
            intro R
            refine WL.load Try.underlying48 rfl rfl (Rd.at_ hb (us_at (by omega))) rfl ?_
            exact WL.done ⟨_, rfl, ext_refl _, rfl⟩
          · intro w22 hE
            rintro _ rfl
            rintro _ rfl
            intro R
            refine WL.neqD rfl rfl rfl ?_
            exact WL.done ⟨_, rfl, rfl, rfl⟩
        · intro vals w23 hT hVs
          rw [if_neg (by decide)] at hT
          have hB := ext_trans hB hT
          have hv0 : vals 0 = _ := hVs 0 (by decide) (by decide)
          have hv1 : vals 1 = _ := hVs 1 (by decide) (by decide)
          have hv2 : vals 2 = _ := hVs 2 (by decide) (by decide)
          have hv3 : vals 3 = _ := hVs 3 (by decide) (by decide)
          have hv4 : vals 4 = _ := hVs 4 (by decide) (by decide)
          have hv5 : vals 5 = _ := hVs 5 (by decide) (by decide)
          have hv6 : vals 6 = _ := hVs 6 (by decide) (by decide)
          have hv7 : vals 7 = _ := hVs 7 (by decide) (by decide)
          have hv8 : vals 8 = _ := hVs 8 (by decide) (by decide)
          rw [show (List.filterMap (fun i => Option.map (fun t => (t, vals i)) (dstAt _ i)) (List.range _)) = [(17, .slice Aa ma ca), (18, .int .i64 ((k : Nat) : Int)), (19, .pointer (some ((adOf Aa).add k))), (20, .int .u32 ((xa.getD k 0 : Nat) : Int)), (21, .slice Ab mb cb), (22, .int .i64 ((k : Nat) : Int)), (23, .pointer (some ((adOf Ab).add k))), (24, .int .u32 ((xb.getD k 0 : Nat) : Int)), (25, .bool (decide (((xa.getD k 0 : Nat) : Int) ≠ ((xb.getD k 0 : Nat) : Int))))] from by
            show [(17, vals 0), (18, vals 1), (19, vals 2), (20, vals 3), (21, vals 4), (22, vals 5), (23, vals 6), (24, vals 7), (25, vals 8)] = _
            rw [hv0, hv1, hv2, hv3, hv4, hv5, hv6, hv7, hv8]]
          refine W.cond2 rfl (fun c24 => ?_) (fun c24 => ?_)
          · have c24 := of_decide_eq_true c24
            refine W.seq ?_
            refine W.region ?_
            refine WL.assign rfl rfl ?_
            refine WL.done ?_
            refine W.ret ?_
            refine ⟨_, rfl, ?_⟩
            rw [decide_eq_false (fun h => by subst h; omega)]; exact ⟨rfl, hB⟩
          · have c24 := of_decide_eq_false c24
            refine W.skip ?_
            refine W.region ?_
            refine WL.move rfl rfl ?_
            refine WL.add (r := ((k + 1 : Nat) : Int)) rfl rfl (wi64 (by omega) (by omega) (by omega)) rfl ?_
            refine WL.assign rfl rfl ?_
            refine WL.done ?_
            refine ⟨k + 1, ⟨rfl, rfl, iv (by omega), trivial⟩, by omega, ?_⟩
            exact ⟨hB, by omega, hmm, take_step heq (by omega) (by omega) (by omega)⟩
      · refine WL.done ?_
        refine W.condF rfl ?_
        refine W.exit ?_
        refine W.seq ?_
        refine W.region ?_
        refine WL.assign rfl rfl ?_
        refine WL.done ?_
        refine W.ret ?_
        refine ⟨_, rfl, ?_⟩
        rw [decide_eq_true (take_all heq (by omega) (by omega))]; exact ⟨rfl, hB⟩

theorem order_c {w : World} (b : Bool) :
    Calls Try.prog 62 #[.bool b] w fun e w2 => ∃ v, e = .returned v ∧ (fun v w2 => v = .int .i64 (if b then -1 else 1) ∧ w.grownBy w2 none) v w2 := by
  have hB := ext_refl w
  refine calls_of_W (vs := [.bool b]) [2] Try.func62 rfl rfl rfl rfl ?_
  refine W.seq ?_
  refine W.region ?_
  refine WL.assign rfl rfl ?_
  refine WL.done ?_
  refine W.seq ?_
  refine W.seq ?_
  refine W.region ?_
  refine WL.move rfl rfl ?_
  refine WL.done ?_
  refine W.cond2 rfl (fun c11 => ?_) (fun c11 => ?_)
  · skip
    refine W.seq ?_
    refine W.region ?_
    refine WL.assign rfl rfl ?_
    refine WL.done ?_
    refine W.ret ?_
    refine ⟨_, rfl, ?_⟩
    subst c11; exact ⟨rfl, hB⟩
  · skip
    refine W.skip ?_
    refine W.seq ?_
    refine W.region ?_
    refine WL.assign rfl rfl ?_
    refine WL.done ?_
    refine W.ret ?_
    refine ⟨_, rfl, ?_⟩
    subst c11; exact ⟨rfl, hB⟩

theorem rTrim_c {w : World} {Ba : Nat} {Aa : Option Addr} {ma ca : Nat} {xa : List Nat} (ha : Rd Ba w 1 Aa ma ca (us xa)) (hsa : ma ≤ 17592186044416) :
    Calls Try.prog 54 #[.slice Aa ma ca] w fun e w2 => ∃ v, e = .returned v ∧ (fun v w2 => ∃ A2 m2 c2, v = .slice A2 m2 c2 ∧ w.grownBy w2 none ∧ Own w.heap.size w2 48 1 A2 m2 c2 (us (trimL xa)) ∧ m2 ≤ ma) v w2 := by
  have ha := ha.norm
  have ha_l := ha.ulen
  have ha_x := ha.max
  simp only [maxLen] at ha_x
  have ha_c := ha.cap
  have ha0 := ha
  have hB := ext_refl w
  refine calls_of_W (vs := [.slice Aa ma ca]) [2] Try.func54 rfl rfl rfl rfl ?_
  refine W.seq ?_
  refine W.region ?_
  refine WL.assign rfl rfl ?_
  refine WL.done ?_
  refine W.seq ?_
  refine W.region ?_
  refine WL.move rfl rfl ?_
  refine WL.len Try.underlying23 rfl rfl ?_
  refine WL.assign rfl rfl ?_
  refine WL.done ?_
  refine W.seq ?_
  refine W.block ?_
  refine W.loop (σ := Nat) (fun k w1 => w = w1 ∧ k ≤ ma ∧ sigL xa ≤ k) (fun k => [(0, .slice Aa ma ca), (3, .int .i64 ((k : Nat) : Int))]) (fun k => k) ma ?_ ?_ ?_
  · exact ⟨rfl, Nat.le_refl _, ha_l ▸ sigL_le xa⟩
  · exact ⟨rfl, iv (by omega), trivial⟩
  · rintro k w11 ⟨rfl, hk, hs⟩
    refine W.seq ?_
    refine W.seq ?_
    refine W.region ?_
    refine WL.move rfl rfl ?_
    refine WL.gtr rfl rfl rfl (fun c12 => ?_) (fun c12 => ?_)
    · refine WL.move rfl rfl ?_
      refine WL.take rfl ?_
      refine WL.move rfl rfl ?_
      refine WL.take rfl ?_
      refine WL.move rfl rfl ?_
      refine WL.take rfl ?_
      refine WL.sub (r := ((k - 1 : Nat) : Int)) rfl rfl (wi64 (by omega) (by omega) (by omega)) rfl ?_
      refine WL.take rfl ?_
      refine WL.index1 (k - 1) Try.underlying23 Try.el48 rfl rfl (by omega) (by omega) ha rfl ?_
      refine WL.take rfl ?_
      refine WL.load Try.underlying48 rfl rfl (Rd.at_ ha (us_at (by omega))) rfl ?_
      refine WL.take rfl ?_
      refine WL.eql rfl rfl rfl (fun c13 => ?_) (fun c13 => ?_)
      · refine WL.pick rfl rfl rfl ?_
        refine WL.done ?_
        refine W.condT rfl ?_
        refine W.skip ?_
        refine W.block ?_
        refine W.region ?_
        refine WL.move rfl rfl ?_
        refine WL.sub (r := ((k - 1 : Nat) : Int)) rfl rfl (wi64 (by omega) (by omega) (by omega)) rfl ?_
        refine WL.assign rfl rfl ?_
        refine WL.done ?_
        refine ⟨k - 1, ⟨rfl, iv (by omega), trivial⟩, by omega, ?_⟩
        exact ⟨rfl, by omega, sigL_step hs (by omega) (by omega)⟩
      · refine WL.pick rfl rfl rfl ?_
        refine WL.done ?_
        refine W.condF rfl ?_
        refine W.exit ?_
        refine W.seq ?_
        refine W.region ?_
        refine WL.lit1 (b := w.heap.size) Try.underlying23 Try.el48 rfl rfl rfl rfl (fun _ h => by cases h) (Nat.le_refl _) rfl ?_
        rintro A14 w15 - hO16 hGw15
        have hO16 := hO16.low (b' := w.heap.size) hB.size
        have hB := ext_trans hB hGw15
        have ha := ha0.ext hB
        change Own _ _ _ _ _ _ _ (us []) at hO16
        refine WL.move rfl rfl ?_
        refine WL.move rfl rfl ?_
        refine WL.slTo (k) Try.underlying23 Try.el48 rfl rfl (by omega) (by omega) rfl ?_
        have hT17 := ha.take (k := k) (by omega)
        rw [us_take] at hT17
        obtain rfl : k = sigL xa := by first | omega | exact sigL_stop hs (by omega) (by omega)
        refine WL.append (sigL xa) ((us (trimL xa))) Try.underlying23 Try.el48 rfl rfl hO16 hT17 (us_one _) (by simp only [maxLen]; omega) (by omega) hB.size (by omega) (us_app (by rw [List.nil_append, trimL_take])) rfl ?_
        have hOld21 := hO16
        intro A18 cp19 w20 hO hGw20 hblw20
        have hB := ext_own hB hGw20 (fun g hg => (hOld21.bl_ge g hg).1)
        refine WL.assign rfl rfl ?_
        refine WL.done ?_
        refine W.ret ?_
        refine ⟨_, rfl, ?_⟩
        exact ⟨_, _, _, rfl, hB, hO, by omega⟩
    · refine WL.move rfl rfl ?_
      refine WL.pass rfl rfl rfl ?_
      refine WL.pass rfl rfl rfl ?_
      refine WL.pass rfl rfl rfl ?_
      refine WL.pass rfl rfl rfl ?_
      refine WL.pass rfl rfl rfl ?_
      refine WL.pass rfl rfl rfl ?_
      refine WL.pick rfl rfl rfl ?_
      refine WL.done ?_
      refine W.condF rfl ?_
      refine W.exit ?_
      refine W.seq ?_
      refine W.region ?_
      refine WL.lit1 (b := w.heap.size) Try.underlying23 Try.el48 rfl rfl rfl rfl (fun _ h => by cases h) (Nat.le_refl _) rfl ?_
      rintro A22 w23 - hO24 hGw23
      have hO24 := hO24.low (b' := w.heap.size) hB.size
      have hB := ext_trans hB hGw23
      have ha := ha0.ext hB
      change Own _ _ _ _ _ _ _ (us []) at hO24
      refine WL.move rfl rfl ?_
      refine WL.move rfl rfl ?_
      refine WL.slTo (k) Try.underlying23 Try.el48 rfl rfl (by omega) (by omega) rfl ?_
      have hT25 := ha.take (k := k) (by omega)
      rw [us_take] at hT25
      obtain rfl : k = sigL xa := by first | omega | exact sigL_stop hs (by omega) (by omega)
      refine WL.append (sigL xa) ((us (trimL xa))) Try.underlying23 Try.el48 rfl rfl hO24 hT25 (us_one _) (by simp only [maxLen]; omega) (by omega) hB.size (by omega) (us_app (by rw [List.nil_append, trimL_take])) rfl ?_
      have hOld29 := hO24
      intro A26 cp27 w28 hO hGw28 hblw28
      have hB := ext_own hB hGw28 (fun g hg => (hOld29.bl_ge g hg).1)
      refine WL.assign rfl rfl ?_
      refine WL.done ?_
      refine W.ret ?_
      refine ⟨_, rfl, ?_⟩
      exact ⟨_, _, _, rfl, hB, hO, by omega⟩

theorem Trim_c {w : World} {Ba : Nat} {Aa : Option Addr} {ma ca : Nat} {xa : List Nat} (ha : Rd Ba w 1 Aa ma ca (us xa)) (hsa : ma ≤ 17592186044416) :
    Calls Try.prog 47 #[.slice Aa ma ca] w fun e w2 => ∃ v, e = .returned v ∧ (fun v w2 => ∃ A2 m2 c2, v = .slice A2 m2 c2 ∧ w.grownBy w2 none ∧ Own w.heap.size w2 48 1 A2 m2 c2 (us (trimL xa)) ∧ m2 ≤ ma) v w2 := by
  have ha := ha.norm
  have ha_l := ha.ulen
  have ha_x := ha.max
  simp only [maxLen] at ha_x
  have ha_c := ha.cap
  have ha0 := ha
  have hsl := sigL_le xa
  have hB := ext_refl w
  refine calls_of_W (vs := [.slice Aa ma ca]) [2] Try.func47 rfl rfl rfl rfl ?_
  refine W.seq ?_
  refine W.region ?_
  refine WL.assign rfl rfl ?_
  refine WL.done ?_
  refine W.seq ?_
  refine W.region ?_
  refine WL.move rfl rfl ?_
  refine WL.call Try.func46 rfl Try.nm46 rfl rfl (sig_c ha) ?_
  rintro _ w11 ⟨rfl, hGw11⟩
  have hB := ext_trans hB hGw11
  have ha := ha0.ext hB
  refine WL.append (sigL xa) ((us (trimL xa))) Try.underlying23 Try.el48 rfl rfl (World.ownsRow_nil w11 (w.heap.size) 48 1) (Rd.sig ha) (us_one _) (by simp only [maxLen]; omega) (by omega) hB.size (by omega) (List.nil_append _) rfl ?_
  intro A12 cp13 w14 hO hGw14 hblw14
  have hGw14 : World.grownBy w11 w14 none := hGw14
  have hB := ext_trans hB hGw14
  refine WL.assign rfl rfl ?_
  refine WL.done ?_
  refine W.ret ?_
  refine ⟨_, rfl, ?_⟩
  exact ⟨_, _, _, rfl, hB, hO, by omega⟩

theorem rCmp_c {w : World} {Ba : Nat} {Aa : Option Addr} {ma ca : Nat} {xa : List Nat} (ha : Rd Ba w 1 Aa ma ca (us xa)) {Bb : Nat} {Ab : Option Addr} {mb cb : Nat} {xb : List Nat} (hb : Rd Bb w 1 Ab mb cb (us xb)) (hLa : Lim xa) (hLb : Lim xb) :
    Calls Try.prog 57 #[.slice Aa ma ca, .slice Ab mb cb] w fun e w2 => ∃ v, e = .returned v ∧ (fun v w2 => v = .int .i64 (cmpI (nv xa) (nv xb)) ∧ w.grownBy w2 none) v w2 := by
  have ha := ha.norm
  have ha_l := ha.ulen
  have ha_x := ha.max
  simp only [maxLen] at ha_x
  have ha_c := ha.cap
  have hb := hb.norm
  have hb_l := hb.ulen
  have hb_x := hb.max
  simp only [maxLen] at hb_x
  have hb_c := hb.cap
  have ha0 := ha
  have hb0 := hb
  have hB := ext_refl w
  refine calls_of_W (vs := [.slice Aa ma ca, .slice Ab mb cb]) [4] Try.func57 rfl rfl rfl rfl ?_
  refine W.seq ?_
  refine W.region ?_
  refine WL.assign rfl rfl ?_
  refine WL.done ?_
  refine W.seq ?_
  refine W.seq ?_
  refine W.region ?_
  refine WL.move rfl rfl ?_
  refine WL.len Try.underlying23 rfl rfl ?_
  refine WL.move rfl rfl ?_
  refine WL.len Try.underlying23 rfl rfl ?_
  refine WL.max2 (r := ((max ma mb : Nat) : Int)) rfl rfl (by omega) rfl ?_
  refine WL.sub (r := (((max ma mb : Nat) : Int) - 1)) rfl rfl (wi64 (by omega) (by omega) (by omega)) rfl ?_
  refine WL.assign rfl rfl ?_
  refine WL.done ?_
  refine W.block ?_
  refine W.loop (σ := Nat) (fun k w1 => w.grownBy w1 none ∧ k ≤ max ma mb ∧ nv (xa.drop k) = nv (xb.drop k)) (fun k => [(0, .slice Aa ma ca), (1, .slice Ab mb cb), (5, .int .i64 ((k : Int) - 1))]) (fun k => k) (max ma mb) ?_ ?_ ?_
  · exact ⟨ext_refl _, Nat.le_refl _, by rw [List.drop_of_length_le (by omega), List.drop_of_length_le (by omega)]⟩
  · exact ⟨rfl, rfl, iv (by omega), trivial⟩
  · rintro k w11 ⟨hB, hk, heq⟩
    have ha := ha0.ext hB
    have hb := hb0.ext hB
    have hxa := hLa.getD (k - 1)
    have hxb := hLb.getD (k - 1)
    refine W.seq ?_
    refine W.seq ?_
    refine W.region ?_
    refine WL.move rfl rfl ?_
    refine WL.geq rfl rfl rfl (fun c12 => ?_) (fun c12 => ?_)
    · refine WL.done ?_
      refine W.condT rfl ?_
      refine W.skip ?_
      refine W.seq ?_
      refine W.block ?_
      refine W.seq ?_
      refine W.seq ?_
      refine W.region ?_
      refine WL.move rfl rfl ?_
      refine WL.move rfl rfl ?_
      refine WL.call Try.func59 rfl Try.nm59 rfl rfl (limb_c ha hLa (k - 1) (by omega)) ?_
      rintro _ w13 ⟨rfl, hGw13⟩
      have hB := ext_trans hB hGw13
      have ha := ha0.ext hB
      have hb := hb0.ext hB
      refine WL.move rfl rfl ?_
      refine WL.move rfl rfl ?_
      refine WL.call Try.func59 rfl Try.nm59 rfl rfl (limb_c hb hLb (k - 1) (by omega)) ?_
      rintro _ w14 ⟨rfl, hGw14⟩
      have hB := ext_trans hB hGw14
      have ha := ha0.ext hB
      have hb := hb0.ext hB
      refine WL.lss rfl rfl rfl (fun c15 => ?_) (fun c15 => ?_)
      · refine WL.done ?_
        refine W.condT rfl ?_
        refine W.seq ?_
        refine W.region ?_
        refine WL.assign rfl rfl ?_
        refine WL.done ?_
        refine W.ret ?_
        refine ⟨_, rfl, ?_⟩
        rw [cmpI_lt (nv_lt_at hLa (i := k - 1) (by rw [Nat.sub_add_cancel (by omega)]; exact heq) (by omega))]; exact ⟨rfl, hB⟩
      · refine WL.done ?_
        refine W.condF rfl ?_
        refine W.skip ?_
        refine W.seq ?_
        refine W.region ?_
        refine WL.move rfl rfl ?_
        refine WL.move rfl rfl ?_
        refine WL.call Try.func59 rfl Try.nm59 rfl rfl (limb_c ha hLa (k - 1) (by omega)) ?_
        rintro _ w16 ⟨rfl, hGw16⟩
        have hB := ext_trans hB hGw16
        have hb := hb0.ext hB
        refine WL.move rfl rfl ?_
        refine WL.move rfl rfl ?_
        refine WL.call Try.func59 rfl Try.nm59 rfl rfl (limb_c hb hLb (k - 1) (by omega)) ?_
        rintro _ w17 ⟨rfl, hGw17⟩
        have hB := ext_trans hB hGw17
        refine WL.gtr rfl rfl rfl (fun c18 => ?_) (fun c18 => ?_)
        · refine WL.done ?_
          refine W.condT rfl ?_
          refine W.seq ?_
          refine W.region ?_
          refine WL.assign rfl rfl ?_
          refine WL.done ?_
          refine W.ret ?_
          refine ⟨_, rfl, ?_⟩
          rw [cmpI_gt (nv_lt_at hLb (i := k - 1) (by rw [Nat.sub_add_cancel (by omega)]; exact heq.symm) (by omega))]; exact ⟨rfl, hB⟩
        · refine WL.done ?_
          refine W.condF rfl ?_
          refine W.skip ?_
          refine W.region ?_
          refine WL.move rfl rfl ?_
          refine WL.sub (r := ((k : Int) - 1 - 1)) rfl rfl (wi64 (by omega) (by omega) (by omega)) rfl ?_
          refine WL.assign rfl rfl ?_
          refine WL.done ?_
          refine ⟨k - 1, ⟨rfl, rfl, iv (by omega), trivial⟩, by omega, ?_⟩
          exact ⟨hB, by omega, drop_step (by rw [Nat.sub_add_cancel (by omega)]; exact heq) (by omega)⟩
    · refine WL.done ?_
      refine W.condF rfl ?_
      refine W.exit ?_
      refine W.seq ?_
      refine W.region ?_
      refine WL.assign rfl rfl ?_
      refine WL.done ?_
      refine W.ret ?_
      refine ⟨_, rfl, ?_⟩
      have : k = 0 := by omega
      subst this
      simp only [List.drop_zero] at heq
      rw [cmpI_eq heq]; exact ⟨rfl, hB⟩

theorem rAdd_c {w : World} {Ba : Nat} {Aa : Option Addr} {ma ca : Nat} {xa : List Nat} (ha : Rd Ba w 1 Aa ma ca (us xa)) {Bb : Nat} {Ab : Option Addr} {mb cb : Nat} {xb : List Nat} (hb : Rd Bb w 1 Ab mb cb (us xb)) (hLa : Lim xa) (hLb : Lim xb) (hsa : ma ≤ 1099511627776) (hsb : mb ≤ 1099511627776) :
    Calls Try.prog 32 #[.slice Aa ma ca, .slice Ab mb cb] w fun e w2 => ∃ v, e = .returned v ∧ (fun v w2 => ∃ A2 m2 c2, v = .slice A2 m2 c2 ∧ w.grownBy w2 none ∧ Own w.heap.size w2 48 1 A2 m2 c2 (us (digs (nv xa + nv xb))) ∧ m2 ≤ max ma mb + 1) v w2 := by
  have ha := ha.norm
  have ha_l := ha.ulen
  have ha_x := ha.max
  simp only [maxLen] at ha_x
  have ha_c := ha.cap
  have hb := hb.norm
  have hb_l := hb.ulen
  have hb_x := hb.max
  simp only [maxLen] at hb_x
  have hb_c := hb.cap
  have ha0 := ha
  have hb0 := hb
  have hB := ext_refl w
  refine calls_of_W (vs := [.slice Aa ma ca, .slice Ab mb cb]) [4] Try.func32 rfl rfl rfl rfl ?_
  refine W.seq ?_
  refine W.region ?_
  refine WL.assign rfl rfl ?_
  refine WL.done ?_
  refine W.seq ?_
  refine W.region ?_
  refine WL.assign rfl rfl ?_
  refine WL.done ?_
  refine W.seq ?_
  refine W.region ?_
  refine WL.assign rfl rfl ?_
  refine WL.done ?_
  refine W.seq ?_
  refine W.seq ?_
  refine W.region ?_
  refine WL.assign rfl rfl ?_
  refine WL.done ?_
  refine W.block ?_
  refine W.loop (σ := Nat × Nat × List Nat × Option Addr × Nat) (fun s w1 => match s with | (i, c, ys, Ao, co) => w.grownBy w1 none ∧ c ≤ 1 ∧ i ≤ max ma mb + 1 ∧ (max ma mb < i → c = 0) ∧ Lim ys ∧ ys.length = i ∧ nv ys + 4294967296 ^ i * c = nv (xa.take i) + nv (xb.take i) ∧ Own w.heap.size w1 48 1 Ao i co (us ys)) (fun s => match s with | (i, c, ys, Ao, co) => [(0, .slice Aa ma ca), (1, .slice Ab mb cb), (5, .slice Ao i co), (6, .int .u64 ((c : Nat) : Int)), (7, .int .i64 ((i : Nat) : Int))]) (fun s => match s with | (i, c, ys, Ao, co) => max ma mb + 1 - i) (0, 0, [], none, 0) ?_ ?_ ?_
  · exact ⟨ext_refl _, by omega, by omega, fun _ => rfl, Lim.nil, rfl, by simp [nv], World.ownsRow_nil _ _ _ _⟩
  · exact ⟨rfl, rfl, rfl, iv (by omega), iv (by omega), trivial⟩
  · rintro ⟨i, c, ys, Ao, co⟩ w11 ⟨hB, hc, hi, hc0, hLy, hly, heq, ho⟩
    have ha := ha0.ext hB
    have hb := hb0.ext hB
    have hxa := hLa.getD i
    have hxb := hLb.getD i
    refine W.cut (σ := Unit) (fun _u w1 => i ≤ max ma mb ∧ w11 = w1) (fun _u => [(0, .slice Aa ma ca), (1, .slice Ab mb cb), (5, .slice Ao i co), (6, .int .u64 ((c : Nat) : Int)), (7, .int .i64 ((i : Nat) : Int))]) ?_ ?_
    · refine W.seq ?_
      refine W.region ?_
      refine WL.move rfl rfl ?_
      refine WL.move rfl rfl ?_
      refine WL.len Try.underlying23 rfl rfl ?_
      refine WL.lss rfl rfl rfl (fun c12 => ?_) (fun c12 => ?_)
      · refine WL.move rfl rfl ?_
        refine WL.pass rfl rfl rfl ?_
        refine WL.pass rfl rfl rfl ?_
        refine WL.pass rfl rfl rfl ?_
        refine WL.pass rfl rfl rfl ?_
        refine WL.pick rfl rfl rfl ?_
        refine WL.move rfl rfl ?_
        refine WL.pass rfl rfl rfl ?_
        refine WL.pass rfl rfl rfl ?_
        refine WL.pick rfl rfl rfl ?_
        refine WL.done ?_
        refine W.condT rfl ?_
        refine W.skip ?_
        refine ⟨(), ⟨rfl, rfl, rfl, iv (by omega), iv (by omega), trivial⟩, ?_⟩
        exact ⟨by omega, rfl⟩
      · refine WL.move rfl rfl ?_
        refine WL.take rfl ?_
        refine WL.move rfl rfl ?_
        refine WL.take rfl ?_
        refine WL.move rfl rfl ?_
        refine WL.take rfl ?_
        refine WL.len Try.underlying23 rfl rfl ?_
        refine WL.take rfl ?_
        refine WL.lss rfl rfl rfl (fun c13 => ?_) (fun c13 => ?_)
        · refine WL.pick rfl rfl rfl ?_
          refine WL.move rfl rfl ?_
          refine WL.pass rfl rfl rfl ?_
          refine WL.pass rfl rfl rfl ?_
          refine WL.pick rfl rfl rfl ?_
          refine WL.done ?_
          refine W.condT rfl ?_
          refine W.skip ?_
          refine ⟨(), ⟨rfl, rfl, rfl, iv (by omega), iv (by omega), trivial⟩, ?_⟩
          exact ⟨by omega, rfl⟩
        · refine WL.pick rfl rfl rfl ?_
          refine WL.move rfl rfl ?_
          refine WL.take rfl ?_
          refine WL.move rfl rfl ?_
          refine WL.take rfl ?_
          refine WL.gtr rfl rfl rfl (fun c14 => ?_) (fun c14 => ?_)
          · refine WL.pick rfl rfl rfl ?_
            refine WL.done ?_
            refine W.condT rfl ?_
            refine W.skip ?_
            refine ⟨(), ⟨rfl, rfl, rfl, iv (by omega), iv (by omega), trivial⟩, ?_⟩
            exact ⟨by omega, rfl⟩
          · refine WL.pick rfl rfl rfl ?_
            refine WL.done ?_
            refine W.condF rfl ?_
            refine W.exit ?_
            refine W.seq ?_
            refine W.region ?_
            refine WL.move rfl rfl ?_
            refine WL.call Try.func54 rfl Try.nm54 rfl rfl (rTrim_c ho.rd (by omega)) ?_
            rintro _ w15 ⟨A16, m17, cp18, rfl, hGw15, hO19, hm20⟩
            have hO19 := hO19.low (b' := w.heap.size) hB.size
            have hB := ext_trans hB hGw15
            have hO19_l := hO19.rd.ulen
            refine WL.assign rfl rfl ?_
            refine WL.done ?_
            refine W.ret ?_
            refine ⟨_, rfl, ?_⟩
            have hO := hO19
            have hc2 : c = 0 := by omega
            subst hc2
            rw [Nat.mul_zero, Nat.add_zero, nv_take_all (by omega), nv_take_all (by omega)] at heq
            rw [digs_trim hLy, heq] at hO
            exact ⟨_, _, _, rfl, hB, hO, by omega⟩
    · rintro _u w21 ⟨hi2, rfl⟩
      refine W.seq ?_
      refine W.block ?_
      refine W.seq ?_
      refine W.region ?_
      refine WL.move rfl rfl ?_
      refine WL.move rfl rfl ?_
      refine WL.call Try.func59 rfl Try.nm59 rfl rfl (limb_c ha hLa (i) (by omega)) ?_
      rintro _ w22 ⟨rfl, hGw22⟩
      have hB := ext_trans hB hGw22
      have hb := hb0.ext hB
      have ho := ho.ext hGw22
      refine WL.move rfl rfl ?_
      refine WL.move rfl rfl ?_
      refine WL.call Try.func59 rfl Try.nm59 rfl rfl (limb_c hb hLb (i) (by omega)) ?_
      rintro _ w23 ⟨rfl, hGw23⟩
      have hB := ext_trans hB hGw23
      have ho := ho.ext hGw23
      refine WL.add (r := (((xa.getD i 0) + (xb.getD i 0) : Nat) : Int)) rfl rfl (wu64 (by omega) (by omega) (by omega)) rfl ?_
      refine WL.move rfl rfl ?_
      refine WL.add (r := ((((xa.getD i 0) + (xb.getD i 0)) + c : Nat) : Int)) rfl rfl (wu64 (by omega) (by omega) (by omega)) rfl ?_
      refine WL.assign rfl rfl ?_
      refine WL.done ?_
      refine W.seq ?_
      refine W.region ?_
      refine WL.move rfl rfl ?_
      refine WL.move rfl rfl ?_
      refine WL.rem (r := (((((xa.getD i 0) + (xb.getD i 0)) + c) % 4294967296 : Nat) : Int)) rfl rfl (by omega) (tmod_nat (by omega) (by omega)) rfl ?_
      refine WL.conv (r := (((((xa.getD i 0) + (xb.getD i 0)) + c) % 4294967296 : Nat) : Int)) Try.underlying61 Try.underlying48 rfl (wu32 (by omega) (by omega) (by omega)) rfl ?_
      refine WL.lit1 (b := w23.heap.size) Try.underlying23 Try.el48 rfl rfl rfl rfl (by intro v hv; simp only [List.mem_cons, List.not_mem_nil, or_false] at hv; rcases hv with rfl <;> rfl) (Nat.le_refl _) rfl ?_
      rintro A24 w25 - hO26 hGw25
      have hO26 := hO26.low (b' := w.heap.size) hB.size
      have hB := ext_trans hB hGw25
      have ho := ho.ext hGw25
      change Own _ _ _ _ _ _ _ (us [(((xa.getD i 0) + (xb.getD i 0)) + c) % 4294967296]) at hO26
      refine WL.append (i + 1) ((us (ys ++ ([(((xa.getD i 0) + (xb.getD i 0)) + c) % 4294967296])))) Try.underlying23 Try.el48 rfl rfl ho hO26.rd (us_one _) (by simp only [maxLen]; omega) (by omega) hB.size (by omega) (us_app rfl) rfl ?_
      have hOld30 := ho
      intro A27 cp28 w29 ho hGw29 hblw29
      have hB := ext_own hB hGw29 (fun g hg => (hOld30.bl_ge g hg).1)
      refine WL.assign rfl rfl ?_
      refine WL.done ?_
      refine W.region ?_
      refine WL.move rfl rfl ?_
      refine WL.quo (r := (((((xa.getD i 0) + (xb.getD i 0)) + c) / 4294967296 : Nat) : Int)) rfl rfl (by omega) (qu64 (by omega) (by omega) (by omega)) rfl ?_
      refine WL.assign rfl rfl ?_
      refine WL.done ?_
      refine W.region ?_
      refine WL.move rfl rfl ?_
      refine WL.add (r := ((i + 1 : Nat) : Int)) rfl rfl (wi64 (by omega) (by omega) (by omega)) rfl ?_
      refine WL.assign rfl rfl ?_
      refine WL.done ?_
      refine ⟨(i + 1, (xa.getD i 0 + xb.getD i 0 + c) / 4294967296, ys ++ [(xa.getD i 0 + xb.getD i 0 + c) % 4294967296], _, _), ⟨rfl, rfl, rfl, iv (by omega), iv (by omega), trivial⟩, by (dsimp only; omega), ?_⟩
      exact ⟨hB, by omega, by omega, fun h => by rw [getD_out (by omega : xa.length ≤ i), getD_out (by omega : xb.length ≤ i)]; omega, hLy.append (Lim.one (by omega)), by simp [hly], by rw [nv_take_succ, nv_take_succ, Nat.pow_succ]; exact add_step (by rw [hly]) heq rfl, ho⟩
end Go.Proofs.Ythfpcebcfjlkmac
set_option linter.unusedSimpArgs false
set_option linter.unusedVariables false
namespace Go.Proofs.Ythfpcebcfjlkmac
open Go.RowKit
theorem rSub_c {w : World} {Ba : Nat} {Aa : Option Addr} {ma ca : Nat} {xa : List Nat} (ha : Rd Ba w 1 Aa ma ca (us xa)) {Bb : Nat} {Ab : Option Addr} {mb cb : Nat} {xb : List Nat} (hb : Rd Bb w 1 Ab mb cb (us xb)) (hLa : Lim xa) (hLb : Lim xb) (hsa : ma ≤ 1099511627776) (hle : nv xb ≤ nv xa) :
    Calls Try.prog 58 #[.slice Aa ma ca, .slice Ab mb cb] w fun e w2 => ∃ v, e = .returned v ∧ (fun v w2 => ∃ A2 m2 c2, v = .slice A2 m2 c2 ∧ w.grownBy w2 none ∧ Own w.heap.size w2 48 1 A2 m2 c2 (us (digs (nv xa - nv xb))) ∧ m2 ≤ ma) v w2 := by
  have ha := ha.norm
  have ha_l := ha.ulen
  have ha_x := ha.max
  simp only [maxLen] at ha_x
  have ha_c := ha.cap
  have hb := hb.norm
  have hb_l := hb.ulen
  have hb_x := hb.max
  simp only [maxLen] at hb_x
  have hb_c := hb.cap
  have ha0 := ha
  have hb0 := hb
  have hB := ext_refl w
  refine calls_of_W (vs := [.slice Aa ma ca, .slice Ab mb cb]) [4] Try.func58 rfl rfl rfl rfl ?_
  refine W.seq ?_
  refine W.region ?_
  refine WL.assign rfl rfl ?_
  refine WL.done ?_
  refine W.seq ?_
  refine W.region ?_
  refine WL.assign rfl rfl ?_
  refine WL.done ?_
  refine W.seq ?_
  refine W.region ?_
  refine WL.assign rfl rfl ?_
  refine WL.done ?_
  refine W.seq ?_
  refine W.seq ?_
  refine W.region ?_
  refine WL.assign rfl rfl ?_
  refine WL.done ?_
  refine W.block ?_
  refine W.loop (σ := Nat × Nat × List Nat × Option Addr × Nat) (fun s w1 => match s with | (i, c, ys, Ao, co) => w.grownBy w1 none ∧ c ≤ 1 ∧ i ≤ ma ∧ Lim ys ∧ ys.length = i ∧ nv ys + nv (xb.take i) = nv (xa.take i) + 4294967296 ^ i * c ∧ Own w.heap.size w1 48 1 Ao i co (us ys)) (fun s => match s with | (i, c, ys, Ao, co) => [(0, .slice Aa ma ca), (1, .slice Ab mb cb), (5, .slice Ao i co), (6, .int .u64 ((c : Nat) : Int)), (7, .int .i64 ((i : Nat) : Int))]) (fun s => match s with | (i, c, ys, Ao, co) => ma - i) (0, 0, [], none, 0) ?_ ?_ ?_
  · exact ⟨ext_refl _, by omega, by omega, Lim.nil, rfl, by simp [nv], World.ownsRow_nil _ _ _ _⟩
  · exact ⟨rfl, rfl, rfl, iv (by omega), iv (by omega), trivial⟩
  · rintro ⟨i, c, ys, Ao, co⟩ w11 ⟨hB, hc, hi, hLy, hly, heq, ho⟩
    have ha := ha0.ext hB
    have hb := hb0.ext hB
    have hxa := hLa.getD i
    have hxb := hLb.getD i
    refine W.seq ?_
    refine W.seq ?_
    refine W.region ?_
    refine WL.move rfl rfl ?_
    refine WL.move rfl rfl ?_
    refine WL.len Try.underlying23 rfl rfl ?_
    refine WL.lss rfl rfl rfl (fun c12 => ?_) (fun c12 => ?_)
    · refine WL.done ?_
      refine W.condT rfl ?_
      refine W.skip ?_
      refine W.seq ?_
      refine W.block ?_
      refine W.seq ?_
      refine W.region ?_
      refine WL.move rfl rfl ?_
      refine WL.move rfl rfl ?_
      refine WL.call Try.func59 rfl Try.nm59 rfl rfl (limb_c ha hLa (i) (by omega)) ?_
      rintro _ w13 ⟨rfl, hGw13⟩
      have hB := ext_trans hB hGw13
      have hb := hb0.ext hB
      have ho := ho.ext hGw13
      refine WL.add (r := (((xa.getD i 0) + 4294967296 : Nat) : Int)) rfl rfl (wu64 (by omega) (by omega) (by omega)) rfl ?_
      refine WL.move rfl rfl ?_
      refine WL.move rfl rfl ?_
      refine WL.call Try.func59 rfl Try.nm59 rfl rfl (limb_c hb hLb (i) (by omega)) ?_
      rintro _ w14 ⟨rfl, hGw14⟩
      have hB := ext_trans hB hGw14
      have ho := ho.ext hGw14
      refine WL.sub (r := ((((xa.getD i 0) + 4294967296) - (xb.getD i 0) : Nat) : Int)) rfl rfl (wu64 (by omega) (by omega) (by omega)) rfl ?_
      refine WL.move rfl rfl ?_
      refine WL.sub (r := (((((xa.getD i 0) + 4294967296) - (xb.getD i 0)) - c : Nat) : Int)) rfl rfl (wu64 (by omega) (by omega) (by omega)) rfl ?_
      refine WL.assign rfl rfl ?_
      refine WL.done ?_
      refine W.seq ?_
      refine W.region ?_
      refine WL.move rfl rfl ?_
      refine WL.move rfl rfl ?_
      refine WL.rem (r := ((((((xa.getD i 0) + 4294967296) - (xb.getD i 0)) - c) % 4294967296 : Nat) : Int)) rfl rfl (by omega) (tmod_nat (by omega) (by omega)) rfl ?_
      refine WL.conv (r := ((((((xa.getD i 0) + 4294967296) - (xb.getD i 0)) - c) % 4294967296 : Nat) : Int)) Try.underlying61 Try.underlying48 rfl (wu32 (by omega) (by omega) (by omega)) rfl ?_
      refine WL.lit1 (b := w14.heap.size) Try.underlying23 Try.el48 rfl rfl rfl rfl (by intro v hv; simp only [List.mem_cons, List.not_mem_nil, or_false] at hv; rcases hv with rfl <;> rfl) (Nat.le_refl _) rfl ?_
      rintro A15 w16 - hO17 hGw16
      have hO17 := hO17.low (b' := w.heap.size) hB.size
      have hB := ext_trans hB hGw16
      have ho := ho.ext hGw16
      change Own _ _ _ _ _ _ _ (us [((((xa.getD i 0) + 4294967296) - (xb.getD i 0)) - c) % 4294967296]) at hO17
      refine WL.append (i + 1) ((us (ys ++ ([((((xa.getD i 0) + 4294967296) - (xb.getD i 0)) - c) % 4294967296])))) Try.underlying23 Try.el48 rfl rfl ho hO17.rd (us_one _) (by simp only [maxLen]; omega) (by omega) hB.size (by omega) (us_app rfl) rfl ?_
      have hOld21 := ho
      intro A18 cp19 w20 ho hGw20 hblw20
      have hB := ext_own hB hGw20 (fun g hg => (hOld21.bl_ge g hg).1)
      refine WL.assign rfl rfl ?_
      refine WL.done ?_
      refine W.region ?_
      refine WL.move rfl rfl ?_
      refine WL.quo (r := ((((((xa.getD i 0) + 4294967296) - (xb.getD i 0)) - c) / 4294967296 : Nat) : Int)) rfl rfl (by omega) (qu64 (by omega) (by omega) (by omega)) rfl ?_
      refine WL.sub (r := ((1 - (((((xa.getD i 0) + 4294967296) - (xb.getD i 0)) - c) / 4294967296) : Nat) : Int)) rfl rfl (wu64 (by omega) (by omega) (by omega)) rfl ?_
      refine WL.assign rfl rfl ?_
      refine WL.done ?_
      refine W.region ?_
      refine WL.move rfl rfl ?_
      refine WL.add (r := ((i + 1 : Nat) : Int)) rfl rfl (wi64 (by omega) (by omega) (by omega)) rfl ?_
      refine WL.assign rfl rfl ?_
      refine WL.done ?_
      refine ⟨(i + 1, 1 - (xa.getD i 0 + 4294967296 - xb.getD i 0 - c) / 4294967296, ys ++ [(xa.getD i 0 + 4294967296 - xb.getD i 0 - c) % 4294967296], _, _), ⟨rfl, rfl, rfl, iv (by omega), iv (by omega), trivial⟩, by (dsimp only; omega), ?_⟩
      have hst := sub_step (by rw [hly]) heq hc hxb rfl hxa
      exact ⟨hB, hst.2, by omega, hLy.append (Lim.one (by omega)), by simp [hly], by rw [nv_take_succ, nv_take_succ, Nat.pow_succ]; exact hst.1, ho⟩
    · refine WL.done ?_
      refine W.condF rfl ?_
      refine W.exit ?_
      refine W.seq ?_
      refine W.region ?_
      refine WL.move rfl rfl ?_
      refine WL.call Try.func54 rfl Try.nm54 rfl rfl (rTrim_c ho.rd (by omega)) ?_
      rintro _ w22 ⟨A23, m24, cp25, rfl, hGw22, hO26, hm27⟩
      have hO26 := hO26.low (b' := w.heap.size) hB.size
      have hB := ext_trans hB hGw22
      have hO26_l := hO26.rd.ulen
      refine WL.assign rfl rfl ?_
      refine WL.done ?_
      refine W.ret ?_
      refine ⟨_, rfl, ?_⟩
      have hO := hO26
      have hi2 : i = ma := by omega
      subst hi2
      rw [nv_take_all (l := xa) (by omega)] at heq
      rw [digs_trim hLy, sub_end hLy hLb (by rw [hly]; exact heq) hle (by rw [hly, ← ha_l]; exact nv_lt hLa)] at hO
      exact ⟨_, _, _, rfl, hB, hO, by omega⟩

theorem Add32_c {w : World} (x y c : Nat) {X Y Z : Int} (hX : X = x) (hY : Y = y) (hZ : Z = c) (hx : x < 4294967296) (hy : y < 4294967296) (hc : c < 4294967296) :
    Calls Try.prog 78 #[.int .u32 X, .int .u32 Y, .int .u32 Z] w fun e w2 => ∃ v, e = .returned v ∧ (fun v w2 => v = .tuple #[.int .u32 (((x + y + c) % 4294967296 : Nat) : Int), .int .u32 (((x + y + c) / 4294967296 : Nat) : Int)] ∧ w.grownBy w2 none) v w2 := by
  have hB := ext_refl w
  refine calls_of_W (vs := [.int .u32 X, .int .u32 Y, .int .u32 Z]) [6, 7] Try.func78 rfl rfl rfl rfl ?_
  refine W.seq ?_
  refine W.region ?_
  refine WL.assign rfl rfl ?_
  refine WL.assign rfl rfl ?_
  refine WL.done ?_
  refine W.seq ?_
  refine W.region ?_
  refine WL.move rfl rfl ?_
  refine WL.conv (r := X) Try.underlying48 Try.underlying61 rfl (wu64 (by omega) (by omega) (by omega)) rfl ?_
  refine WL.move rfl rfl ?_
  refine WL.conv (r := Y) Try.underlying48 Try.underlying61 rfl (wu64 (by omega) (by omega) (by omega)) rfl ?_
  refine WL.add (r := ((x + y : Nat) : Int)) rfl rfl (wu64 (by omega) (by omega) (by omega)) rfl ?_
  refine WL.move rfl rfl ?_
  refine WL.conv (r := Z) Try.underlying48 Try.underlying61 rfl (wu64 (by omega) (by omega) (by omega)) rfl ?_
  refine WL.add (r := (((x + y) + c : Nat) : Int)) rfl rfl (wu64 (by omega) (by omega) (by omega)) rfl ?_
  refine WL.assign rfl rfl ?_
  refine WL.done ?_
  refine W.seq ?_
  refine W.region ?_
  refine WL.move rfl rfl ?_
  refine WL.conv (r := (((x + y + c) % 4294967296 : Nat) : Int)) Try.underlying61 Try.underlying48 rfl (wu32m (by omega)) rfl ?_
  refine WL.assign rfl rfl ?_
  refine WL.done ?_
  refine W.seq ?_
  refine W.region ?_
  refine WL.move rfl rfl ?_
  refine WL.shr (r := ((((x + y) + c) / 4294967296 : Nat) : Int)) rfl rfl (by omega) (shr_nat (a := (x + y) + c) (s := 32) (by omega) (by omega) 64 (by omega)) rfl ?_
  refine WL.conv (r := ((((x + y) + c) / 4294967296 : Nat) : Int)) Try.underlying61 Try.underlying48 rfl (wu32 (by omega) (by omega) (by omega)) rfl ?_
  refine WL.assign rfl rfl ?_
  refine WL.done ?_
  refine W.ret ?_
  refine ⟨_, rfl, ?_⟩
  exact ⟨rfl, hB⟩

theorem Cmp_c {w : World} {Ba : Nat} {Aa : Option Addr} {ma ca : Nat} {xa : List Nat} (ha : Rd Ba w 1 Aa ma ca (us xa)) {Bb : Nat} {Ab : Option Addr} {mb cb : Nat} {xb : List Nat} (hb : Rd Bb w 1 Ab mb cb (us xb)) (hLa : Lim xa) (hLb : Lim xb) :
    Calls Try.prog 35 #[.slice Aa ma ca, .slice Ab mb cb] w fun e w2 => ∃ v, e = .returned v ∧ (fun v w2 => v = .int .i64 (cmpI (nv xa) (nv xb)) ∧ w.grownBy w2 none) v w2 := by
  have ha := ha.norm
  have ha_l := ha.ulen
  have ha_x := ha.max
  simp only [maxLen] at ha_x
  have ha_c := ha.cap
  have hb := hb.norm
  have hb_l := hb.ulen
  have hb_x := hb.max
  simp only [maxLen] at hb_x
  have hb_c := hb.cap
  have ha0 := ha
  have hb0 := hb
  have hsa := sigL_le xa
  have hsb := sigL_le xb
  have hB := ext_refl w
  refine calls_of_W (vs := [.slice Aa ma ca, .slice Ab mb cb]) [4] Try.func35 rfl rfl rfl rfl ?_
  refine W.seq ?_
  refine W.region ?_
  refine WL.assign rfl rfl ?_
  refine WL.done ?_
  refine W.seq ?_
  refine W.region ?_
  refine WL.move rfl rfl ?_
  refine WL.call Try.func46 rfl Try.nm46 rfl rfl (sig_c ha) ?_
  rintro _ w11 ⟨rfl, hGw11⟩
  have hB := ext_trans hB hGw11
  have ha := ha0.ext hB
  have hb := hb0.ext hB
  refine WL.move rfl rfl ?_
  refine WL.call Try.func46 rfl Try.nm46 rfl rfl (sig_c hb) ?_
  rintro _ w12 ⟨rfl, hGw12⟩
  have hB := ext_trans hB hGw12
  have ha := ha0.ext hB
  have hb := hb0.ext hB
  refine WL.assign rfl rfl ?_
  refine WL.assign rfl rfl ?_
  refine WL.done ?_
  refine W.seq ?_
  refine W.seq ?_
  refine W.region ?_
  refine WL.move rfl rfl ?_
  refine WL.len Try.underlying23 rfl rfl ?_
  refine WL.move rfl rfl ?_
  refine WL.len Try.underlying23 rfl rfl ?_
  refine WL.neq rfl rfl rfl (fun c13 => ?_) (fun c13 => ?_)
  · refine WL.done ?_
    refine W.condT rfl ?_
    refine W.seq ?_
    refine W.region ?_
    refine WL.move rfl rfl ?_
    refine WL.len Try.underlying23 rfl rfl ?_
    refine WL.move rfl rfl ?_
    refine WL.len Try.underlying23 rfl rfl ?_
    refine WL.lss rfl rfl rfl (fun c14 => ?_) (fun c14 => ?_)
    · refine WL.call Try.func62 rfl Try.nm62 rfl rfl (order_c _) ?_
      rintro _ w15 ⟨rfl, hGw15⟩
      have hB := ext_trans hB hGw15
      refine WL.assign rfl rfl ?_
      refine WL.done ?_
      refine W.ret ?_
      refine ⟨_, rfl, ?_⟩
      rw [cmpI_lt (sigL_lt hLa (by omega))]; exact ⟨rfl, hB⟩
    · refine WL.call Try.func62 rfl Try.nm62 rfl rfl (order_c _) ?_
      rintro _ w16 ⟨rfl, hGw16⟩
      have hB := ext_trans hB hGw16
      refine WL.assign rfl rfl ?_
      refine WL.done ?_
      refine W.ret ?_
      refine ⟨_, rfl, ?_⟩
      rw [cmpI_gt (sigL_lt hLb (by omega))]; exact ⟨rfl, hB⟩
  · refine WL.done ?_
    refine W.condF rfl ?_
    refine W.skip ?_
    refine W.seq ?_
    refine W.seq ?_
    refine W.region ?_
    refine WL.move rfl rfl ?_
    refine WL.len Try.underlying23 rfl rfl ?_
    refine WL.sub (r := (((sigL xa : Nat) : Int) - (1 : Int))) rfl rfl (wi64 (by omega) (by omega) (by omega)) rfl ?_
    refine WL.assign rfl rfl ?_
    refine WL.done ?_
    refine W.block ?_
    refine W.loop (σ := Nat) (fun k w1 => w.grownBy w1 none ∧ k ≤ sigL xa ∧ nv (xa.drop k) = nv (xb.drop k)) (fun k => [(0, .slice Aa (sigL xa) ca), (1, .slice Ab (sigL xb) cb), (5, .int .i64 ((k : Int) - 1))]) (fun k => k) (sigL xa) ?_ ?_ ?_
    · exact ⟨hB, Nat.le_refl _, by rw [nv_drop_sig xa (Nat.le_refl _), nv_drop_sig xb (by omega)]⟩
    · exact ⟨rfl, rfl, iv (by omega), trivial⟩
    · rintro k w17 ⟨hB, hk, heq⟩
      have ha := ha0.ext hB
      have hb := hb0.ext hB
      have hta : 0 < k → (trimL xa).getD (k - 1) 0 = xa.getD (k - 1) 0 := fun _ => trimL_getD (by omega)
      have htb : 0 < k → (trimL xb).getD (k - 1) 0 = xb.getD (k - 1) 0 := fun _ => trimL_getD (by omega)
      have hla : (trimL xa).length = sigL xa := rfl
      have hlb : (trimL xb).length = sigL xb := rfl
      refine W.seq ?_
      refine W.seq ?_
      refine W.region ?_
      refine WL.move rfl rfl ?_
      refine WL.geq rfl rfl rfl (fun c18 => ?_) (fun c18 => ?_)
      · refine WL.done ?_
        refine W.condT rfl ?_
        refine W.skip ?_
        refine W.seq ?_
        refine W.block ?_
        refine W.seq ?_
        refine W.draw [⟨[], [0], true⟩, ⟨[], [5], true⟩, ⟨[0, 1], [], true⟩, ⟨[2], [], false⟩, ⟨[], [1], true⟩, ⟨[], [5], true⟩, ⟨[4, 5], [], true⟩, ⟨[6], [], false⟩, ⟨[3, 7], [], true⟩] [[(0, .slice Aa (sigL xa) ca)], [(5, .int .i64 ((k : Int) - 1))], [], [], [(1, .slice Ab (sigL xb) cb)], [(5, .int .i64 ((k : Int) - 1))], [], [], []] (fun iQ => [fun v _ => v = .slice Aa (sigL xa) ca, fun v _ => v = .int .i64 ((k : Int) - 1), fun v _ => v = .pointer (some ((adOf Aa).add (k - 1))), fun v _ => v = .int .u32 (((trimL xa).getD (k - 1) 0 : Nat) : Int), fun v _ => v = .slice Ab (sigL xb) cb, fun v _ => v = .int .i64 ((k : Int) - 1), fun v _ => v = .pointer (some ((adOf Ab).add (k - 1))), fun v _ => v = .int .u32 (((trimL xb).getD (k - 1) 0 : Nat) : Int), fun v _ => v = .bool (decide ((((trimL xa).getD (k - 1) 0 : Nat) : Int) ≠ (((trimL xb).getD (k - 1) 0 : Nat) : Int)))].getD iQ (fun _ _ => True)) (fun _ => True) 9 Try.mixed (by kernel_rfl) ?_ ?_ ?_
        · refine Vs_mono _ ?_
          intro VQ hVQ vQ wQ1 wQ2 hQ1 hQ2
          simp only [List.mem_cons, List.not_mem_nil, or_false] at hVQ
          rcases hVQ with rfl | rfl | rfl | rfl | rfl | rfl | rfl | rfl | rfl <;> exact hQ1
        · refine ⟨⟨rfl, ⟨rfl, trivial⟩, ?_⟩, ⟨rfl, ⟨rfl, trivial⟩, ?_⟩, ⟨rfl, trivial, ?_⟩, ⟨rfl, trivial, ?_⟩, ⟨rfl, ⟨rfl, trivial⟩, ?_⟩, ⟨rfl, ⟨rfl, trivial⟩, ?_⟩, ⟨rfl, trivial, ?_⟩, ⟨rfl, trivial, ?_⟩, ⟨rfl, trivial, ?_⟩, trivial⟩
          · intro w19 hE
            intro R
            refine WL.move rfl rfl ?_
            exact WL.done ⟨_, rfl, rfl, rfl⟩
          · intro w20 hE
            intro R
            refine WL.move rfl rfl ?_
            exact WL.done ⟨_, rfl, rfl, rfl⟩
          · intro w21 hE
            rintro _ rfl
            rintro _ rfl
            intro R
            refine WL.index1 (k - 1) Try.underlying23 Try.el48 rfl rfl (by omega) (by omega) ha.sig rfl ?_
            exact WL.done ⟨_, rfl, rfl, rfl⟩
          · intro w22 hE
            have hE := hE rfl
            have hB := ext_trans hB hE
            have ha := ha0.ext hB
            rintro _ rfl
            intro R
            refine WL.load Try.underlying48 rfl rfl (Rd.at_ ha.sig (us_at (by omega))) rfl ?_
            exact WL.done ⟨_, rfl, ext_refl _, rfl⟩
          · intro w23 hE
            intro R
            refine WL.move rfl rfl ?_
            exact WL.done ⟨_, rfl, rfl, rfl⟩
          · intro w24 hE
            intro R
            refine WL.move rfl rfl ?_
            exact WL.done ⟨_, rfl, rfl, rfl⟩
          · intro w25 hE
            rintro _ rfl
            rintro _ rfl
            intro R
            refine WL.index1 (k - 1) Try.underlying23 Try.el48 rfl rfl (by omega) (by omega) hb.sig rfl ?_
            exact WL.done ⟨_, rfl, rfl, rfl⟩
          · intro w26 hE
            have hE := hE rfl
            have hB := ext_trans hB hE
            have hb := hb0.ext hB
            rintro _ rfl
            intro R
            refine WL.load Try.underlying48 rfl rfl (Rd.at_ hb.sig (us_at (by omega))) rfl ?_
            exact WL.done ⟨_, rfl, ext_refl _, rfl⟩
          · intro w27 hE
            rintro _ rfl
            rintro _ rfl
            intro R
            refine WL.neqD rfl rfl rfl ?_
            exact WL.done ⟨_, rfl, rfl, rfl⟩
        · intro vals w28 hT hVs
          rw [if_neg (by decide)] at hT
          have hB := ext_trans hB hT
          have ha := ha0.ext hB
          have hb := hb0.ext hB
          have hv0 : vals 0 = _ := hVs 0 (by decide) (by decide)
          have hv1 : vals 1 = _ := hVs 1 (by decide) (by decide)
          have hv2 : vals 2 = _ := hVs 2 (by decide) (by decide)
          have hv3 : vals 3 = _ := hVs 3 (by decide) (by decide)
          have hv4 : vals 4 = _ := hVs 4 (by decide) (by decide)
          have hv5 : vals 5 = _ := hVs 5 (by decide) (by decide)
          have hv6 : vals 6 = _ := hVs 6 (by decide) (by decide)
          have hv7 : vals 7 = _ := hVs 7 (by decide) (by decide)
          have hv8 : vals 8 = _ := hVs 8 (by decide) (by decide)
          rw [show (List.filterMap (fun i => Option.map (fun t => (t, vals i)) (dstAt _ i)) (List.range _)) = [(28, .slice Aa (sigL xa) ca), (29, .int .i64 ((k : Int) - 1)), (30, .pointer (some ((adOf Aa).add (k - 1)))), (31, .int .u32 (((trimL xa).getD (k - 1) 0 : Nat) : Int)), (32, .slice Ab (sigL xb) cb), (33, .int .i64 ((k : Int) - 1)), (34, .pointer (some ((adOf Ab).add (k - 1)))), (35, .int .u32 (((trimL xb).getD (k - 1) 0 : Nat) : Int)), (36, .bool (decide ((((trimL xa).getD (k - 1) 0 : Nat) : Int) ≠ (((trimL xb).getD (k - 1) 0 : Nat) : Int))))] from by
            show [(28, vals 0), (29, vals 1), (30, vals 2), (31, vals 3), (32, vals 4), (33, vals 5), (34, vals 6), (35, vals 7), (36, vals 8)] = _
            rw [hv0, hv1, hv2, hv3, hv4, hv5, hv6, hv7, hv8]]
          refine W.cond2 rfl (fun c29 => ?_) (fun c29 => ?_)
          · have c29 := of_decide_eq_true c29
            refine W.seq ?_
            refine W.draw [⟨[], [0], true⟩, ⟨[], [5], true⟩, ⟨[0, 1], [], true⟩, ⟨[2], [], false⟩, ⟨[], [1], true⟩, ⟨[], [5], true⟩, ⟨[4, 5], [], true⟩, ⟨[6], [], false⟩, ⟨[3, 7], [], true⟩, ⟨[8], [], false⟩, ⟨[9], [], true⟩] [[(0, .slice Aa (sigL xa) ca)], [(5, .int .i64 ((k : Int) - 1))], [], [], [(1, .slice Ab (sigL xb) cb)], [(5, .int .i64 ((k : Int) - 1))], [], [], [], [], []] (fun iQ => [fun v _ => v = .slice Aa (sigL xa) ca, fun v _ => v = .int .i64 ((k : Int) - 1), fun v _ => v = .pointer (some ((adOf Aa).add (k - 1))), fun v _ => v = .int .u32 (((trimL xa).getD (k - 1) 0 : Nat) : Int), fun v _ => v = .slice Ab (sigL xb) cb, fun v _ => v = .int .i64 ((k : Int) - 1), fun v _ => v = .pointer (some ((adOf Ab).add (k - 1))), fun v _ => v = .int .u32 (((trimL xb).getD (k - 1) 0 : Nat) : Int), fun v _ => v = .bool (decide ((((trimL xa).getD (k - 1) 0 : Nat) : Int) < (((trimL xb).getD (k - 1) 0 : Nat) : Int))), fun v _ => v = .int .i64 (if (decide ((((trimL xa).getD (k - 1) 0 : Nat) : Int) < (((trimL xb).getD (k - 1) 0 : Nat) : Int))) then -1 else 1), fun v _ => v = .int .i64 (if (decide ((((trimL xa).getD (k - 1) 0 : Nat) : Int) < (((trimL xb).getD (k - 1) 0 : Nat) : Int))) then -1 else 1)].getD iQ (fun _ _ => True)) (fun _ => True) 11 Try.mixed (by kernel_rfl) ?_ ?_ ?_
            · refine Vs_mono _ ?_
              intro VQ hVQ vQ wQ1 wQ2 hQ1 hQ2
              simp only [List.mem_cons, List.not_mem_nil, or_false] at hVQ
              rcases hVQ with rfl | rfl | rfl | rfl | rfl | rfl | rfl | rfl | rfl | rfl | rfl <;> exact hQ1
            · refine ⟨⟨rfl, ⟨rfl, trivial⟩, ?_⟩, ⟨rfl, ⟨rfl, trivial⟩, ?_⟩, ⟨rfl, trivial, ?_⟩, ⟨rfl, trivial, ?_⟩, ⟨rfl, ⟨rfl, trivial⟩, ?_⟩, ⟨rfl, ⟨rfl, trivial⟩, ?_⟩, ⟨rfl, trivial, ?_⟩, ⟨rfl, trivial, ?_⟩, ⟨rfl, trivial, ?_⟩, ⟨rfl, trivial, ?_⟩, ⟨rfl, trivial, ?_⟩, trivial⟩
              · intro w30 hE
                intro R
                refine WL.move rfl rfl ?_
                exact WL.done ⟨_, rfl, rfl, rfl⟩
              · intro w31 hE
                intro R
                refine WL.move rfl rfl ?_
                exact WL.done ⟨_, rfl, rfl, rfl⟩
              · intro w32 hE
                rintro _ rfl
                rintro _ rfl
                intro R
                refine WL.index1 (k - 1) Try.underlying23 Try.el48 rfl rfl (by omega) (by omega) ha.sig rfl ?_
                exact WL.done ⟨_, rfl, rfl, rfl⟩
              · intro w33 hE
                have hE := hE rfl
                have hB := ext_trans hB hE
                have ha := ha0.ext hB
                rintro _ rfl
                intro R
                refine WL.load Try.underlying48 rfl rfl (Rd.at_ ha.sig (us_at (by omega))) rfl ?_
                exact WL.done ⟨_, rfl, ext_refl _, rfl⟩
              · intro w34 hE
                intro R
                refine WL.move rfl rfl ?_
                exact WL.done ⟨_, rfl, rfl, rfl⟩
              · intro w35 hE
                intro R
                refine WL.move rfl rfl ?_
                exact WL.done ⟨_, rfl, rfl, rfl⟩
              · intro w36 hE
                rintro _ rfl
                rintro _ rfl
                intro R
                refine WL.index1 (k - 1) Try.underlying23 Try.el48 rfl rfl (by omega) (by omega) hb.sig rfl ?_
                exact WL.done ⟨_, rfl, rfl, rfl⟩
              · intro w37 hE
                have hE := hE rfl
                have hB := ext_trans hB hE
                have hb := hb0.ext hB
                rintro _ rfl
                intro R
                refine WL.load Try.underlying48 rfl rfl (Rd.at_ hb.sig (us_at (by omega))) rfl ?_
                exact WL.done ⟨_, rfl, ext_refl _, rfl⟩
              · intro w38 hE
                rintro _ rfl
                rintro _ rfl
                intro R
                refine WL.lssD rfl rfl rfl ?_
                exact WL.done ⟨_, rfl, rfl, rfl⟩
              · intro w39 hE
                have hE := hE rfl
                have hB := ext_trans hB hE
                rintro _ rfl
                intro R
                refine WL.call Try.func62 rfl Try.nm62 rfl rfl (order_c _) ?_
                rintro _ w40 ⟨rfl, hGw40⟩
                have hB := ext_trans hB hGw40
                exact WL.done ⟨_, rfl, hGw40, rfl⟩
              · intro w41 hE
                rintro _ rfl
                intro R
                refine WL.assign rfl rfl ?_
                exact WL.done ⟨_, rfl, rfl, rfl⟩
            · intro vals w42 hT hVs
              rw [if_neg (by decide)] at hT
              have hB := ext_trans hB hT
              have hv0 : vals 0 = _ := hVs 0 (by decide) (by decide)
              have hv1 : vals 1 = _ := hVs 1 (by decide) (by decide)
              have hv2 : vals 2 = _ := hVs 2 (by decide) (by decide)
              have hv3 : vals 3 = _ := hVs 3 (by decide) (by decide)
              have hv4 : vals 4 = _ := hVs 4 (by decide) (by decide)
              have hv5 : vals 5 = _ := hVs 5 (by decide) (by decide)
              have hv6 : vals 6 = _ := hVs 6 (by decide) (by decide)
              have hv7 : vals 7 = _ := hVs 7 (by decide) (by decide)
              have hv8 : vals 8 = _ := hVs 8 (by decide) (by decide)
              have hv9 : vals 9 = _ := hVs 9 (by decide) (by decide)
              have hv10 : vals 10 = _ := hVs 10 (by decide) (by decide)
              rw [show (List.filterMap (fun i => Option.map (fun t => (t, vals i)) (dstAt _ i)) (List.range _)) = [(37, .slice Aa (sigL xa) ca), (38, .int .i64 ((k : Int) - 1)), (39, .pointer (some ((adOf Aa).add (k - 1)))), (40, .int .u32 (((trimL xa).getD (k - 1) 0 : Nat) : Int)), (41, .slice Ab (sigL xb) cb), (42, .int .i64 ((k : Int) - 1)), (43, .pointer (some ((adOf Ab).add (k - 1)))), (44, .int .u32 (((trimL xb).getD (k - 1) 0 : Nat) : Int)), (45, .bool (decide ((((trimL xa).getD (k - 1) 0 : Nat) : Int) < (((trimL xb).getD (k - 1) 0 : Nat) : Int)))), (46, .int .i64 (if (decide ((((trimL xa).getD (k - 1) 0 : Nat) : Int) < (((trimL xb).getD (k - 1) 0 : Nat) : Int))) then -1 else 1)), (4, .int .i64 (if (decide ((((trimL xa).getD (k - 1) 0 : Nat) : Int) < (((trimL xb).getD (k - 1) 0 : Nat) : Int))) then -1 else 1))] from by
                show [(37, vals 0), (38, vals 1), (39, vals 2), (40, vals 3), (41, vals 4), (42, vals 5), (43, vals 6), (44, vals 7), (45, vals 8), (46, vals 9), (4, vals 10)] = _
                rw [hv0, hv1, hv2, hv3, hv4, hv5, hv6, hv7, hv8, hv9, hv10]]
              refine W.ret ?_
              refine ⟨_, rfl, ?_⟩
              refine ⟨?_, hB⟩
              have h1 := hta (by omega)
              have h2 := htb (by omega)
              rcases Nat.lt_or_ge (xa.getD (k - 1) 0) (xb.getD (k - 1) 0) with h3 | h3
              · rw [cmpI_lt (nv_lt_at hLa (i := k - 1) (by rw [Nat.sub_add_cancel (by omega)]; exact heq) h3), decide_eq_true (by omega)]; rfl
              · rw [cmpI_gt (nv_lt_at hLb (i := k - 1) (by rw [Nat.sub_add_cancel (by omega)]; exact heq.symm) (by omega)), decide_eq_false (by omega)]; rfl
          · have c29 := of_decide_eq_false c29
            refine W.skip ?_
            refine W.region ?_
            refine WL.move rfl rfl ?_
            refine WL.sub (r := ((k : Int) - 1 - 1)) rfl rfl (wi64 (by omega) (by omega) (by omega)) rfl ?_
            refine WL.assign rfl rfl ?_
            refine WL.done ?_
            refine ⟨k - 1, ⟨rfl, rfl, iv (by omega), trivial⟩, by omega, ?_⟩
            exact ⟨hB, by omega, drop_step (by rw [Nat.sub_add_cancel (by omega)]; exact heq) (by omega)⟩
      · refine WL.done ?_
        refine W.condF rfl ?_
        refine W.exit ?_
        refine W.seq ?_
        refine W.region ?_
        refine WL.assign rfl rfl ?_
        refine WL.done ?_
        refine W.ret ?_
        refine ⟨_, rfl, ?_⟩
        have : k = 0 := by omega
        subst this
        simp only [List.drop_zero] at heq
        rw [cmpI_eq heq]; exact ⟨rfl, hB⟩

theorem rMul_c {w : World} {Ba : Nat} {Aa : Option Addr} {ma ca : Nat} {xa : List Nat} (ha : Rd Ba w 1 Aa ma ca (us xa)) {Bb : Nat} {Ab : Option Addr} {mb cb : Nat} {xb : List Nat} (hb : Rd Bb w 1 Ab mb cb (us xb)) (hLa : Lim xa) (hLb : Lim xb) (hsa : ma ≤ 1099511627776) (hsb : mb ≤ 1099511627776) :
    Calls Try.prog 66 #[.slice Aa ma ca, .slice Ab mb cb] w fun e w2 => ∃ v, e = .returned v ∧ (fun v w2 => ∃ A2 m2 c2, v = .slice A2 m2 c2 ∧ w.grownBy w2 none ∧ Own w.heap.size w2 48 1 A2 m2 c2 (us (digs (nv xa * nv xb))) ∧ m2 ≤ ma + mb) v w2 := by
  have ha := ha.norm
  have ha_l := ha.ulen
  have ha_x := ha.max
  simp only [maxLen] at ha_x
  have ha_c := ha.cap
  have hb := hb.norm
  have hb_l := hb.ulen
  have hb_x := hb.max
  simp only [maxLen] at hb_x
  have hb_c := hb.cap
  have ha0 := ha
  have hb0 := hb
  have hB := ext_refl w
  refine calls_of_W (vs := [.slice Aa ma ca, .slice Ab mb cb]) [4] Try.func66 rfl rfl rfl rfl ?_
  refine W.seq ?_
  refine W.region ?_
  refine WL.assign rfl rfl ?_
  refine WL.done ?_
  refine W.seq ?_
  refine W.region ?_
  refine WL.move rfl rfl ?_
  refine WL.len Try.underlying23 rfl rfl ?_
  refine WL.move rfl rfl ?_
  refine WL.len Try.underlying23 rfl rfl ?_
  refine WL.add (r := ((ma + mb : Nat) : Int)) rfl rfl (wi64 (by omega) (by omega) (by omega)) rfl ?_
  refine WL.make (w.heap.size) (ma + mb) Try.underlying23 Try.el48 rfl rfl (by omega) (by omega) (by simp only [maxLen]; omega) (Nat.le_of_eq rfl) rfl ?_
  rintro A11 w12 - ho hGw12
  rw [made_us] at ho
  have ho := ho.low (b' := w.heap.size) hB.size
  have hB := ext_trans hB hGw12
  have ha := ha0.ext hB
  have hb := hb0.ext hB
  refine WL.assign rfl rfl ?_
  refine WL.done ?_
  refine W.seq ?_
  refine W.seq ?_
  refine W.region ?_
  refine WL.assign rfl rfl ?_
  refine WL.done ?_
  refine W.block ?_
  refine W.loop (σ := Nat × Nat × List Nat × Option Addr × Nat) (fun s w1 => match s with | (i, n, zs, Ao, co) => w.grownBy w1 none ∧ i ≤ ma ∧ n = ma + mb ∧ Lim zs ∧ zs.length = n ∧ (∀ t, i + mb ≤ t → zs.getD t 0 = 0) ∧ nv zs = nv (xa.take i) * nv xb ∧ Own w.heap.size w1 48 1 Ao n co (us zs)) (fun s => match s with | (i, n, zs, Ao, co) => [(0, .slice Aa ma ca), (1, .slice Ab mb cb), (5, .slice Ao n co), (6, .int .i64 ((i : Nat) : Int))]) (fun s => match s with | (i, n, zs, Ao, co) => ma - i) (0, ma + mb, List.replicate (ma + mb) 0, A11, ma + mb) ?_ ?_ ?_
  · exact ⟨hB, by omega, rfl, Lim.zeros _, by simp, fun t _ => zeros_getD _ _, by simp [nv_zeros], ho⟩
  · exact ⟨rfl, rfl, rfl, iv (by omega), trivial⟩
  · rintro ⟨i, n, zs, Ao, co⟩ w13 ⟨hB, hi, hn, hLz, hlz, h0z, heq, ho⟩
    have ha := ha0.ext hB
    have hb := hb0.ext hB
    refine W.seq ?_
    refine W.seq ?_
    refine W.region ?_
    refine WL.move rfl rfl ?_
    refine WL.move rfl rfl ?_
    refine WL.len Try.underlying23 rfl rfl ?_
    refine WL.lss rfl rfl rfl (fun c14 => ?_) (fun c14 => ?_)
    · refine WL.done ?_
      refine W.condT rfl ?_
      refine W.skip ?_
      refine W.seq ?_
      refine W.block ?_
      refine W.seq ?_
      refine W.region ?_
      refine WL.assign rfl rfl ?_
      refine WL.done ?_
      refine W.seq ?_
      refine W.seq ?_
      refine W.region ?_
      refine WL.assign rfl rfl ?_
      refine WL.done ?_
      refine W.block ?_
      refine W.loop (σ := Nat × Nat × List Nat × Option Addr × Nat) (fun s w1 => match s with | (j, c, zs, Ao, co) => w.grownBy w1 none ∧ j ≤ mb ∧ c < 4294967296 ∧ Lim zs ∧ zs.length = n ∧ (∀ t, i + mb ≤ t → zs.getD t 0 = 0) ∧ nv zs + 4294967296 ^ (i + j) * c = nv (xa.take i) * nv xb + 4294967296 ^ i * (xa.getD i 0 * nv (xb.take j)) ∧ Own w.heap.size w1 48 1 Ao n co (us zs)) (fun s => match s with | (j, c, zs, Ao, co) => [(0, .slice Aa ma ca), (1, .slice Ab mb cb), (5, .slice Ao n co), (6, .int .i64 ((i : Nat) : Int)), (7, .int .u64 ((c : Nat) : Int)), (8, .int .i64 ((j : Nat) : Int))]) (fun s => match s with | (j, c, zs, Ao, co) => mb - j) (0, 0, zs, Ao, co) ?_ ?_ ?_
      · exact ⟨hB, by omega, by omega, hLz, hlz, h0z, by simpa [nv] using heq, ho⟩
      · exact ⟨rfl, rfl, rfl, iv (by omega), iv (by omega), iv (by omega), trivial⟩
      · rintro ⟨j, c, zs, Ao, co⟩ w15 ⟨hB, hj, hc, hLz, hlz, h0z, heq, ho⟩
        have ha := ha0.ext hB
        have hb := hb0.ext hB
        have hxa := hLa.getD i
        have hxb := hLb.getD j
        have hz := hLz.getD (i + j)
        have hm1 := mul_lim hxa hxb hz hc
        have hm0 := mul_lim0 hxa hxb
        refine W.seq ?_
        refine W.seq ?_
        refine W.region ?_
        refine WL.move rfl rfl ?_
        refine WL.move rfl rfl ?_
        refine WL.len Try.underlying23 rfl rfl ?_
        refine WL.lss rfl rfl rfl (fun c16 => ?_) (fun c16 => ?_)
        · refine WL.done ?_
          refine W.condT rfl ?_
          refine W.skip ?_
          refine W.seq ?_
          refine W.block ?_
          refine W.seq ?_
          refine W.draw [⟨[], [0], true⟩, ⟨[], [6], true⟩, ⟨[0, 1], [], true⟩, ⟨[2], [], false⟩, ⟨[3], [], true⟩, ⟨[], [1], true⟩, ⟨[], [8], true⟩, ⟨[5, 6], [], true⟩, ⟨[7], [], false⟩, ⟨[8], [], true⟩, ⟨[4, 9], [], true⟩, ⟨[], [5], true⟩, ⟨[], [6], true⟩, ⟨[], [8], true⟩, ⟨[12, 13], [], true⟩, ⟨[11, 14], [], true⟩, ⟨[15], [], false⟩, ⟨[16], [], true⟩, ⟨[10, 17], [], true⟩, ⟨[], [7], true⟩, ⟨[18, 19], [], true⟩, ⟨[20], [], true⟩] [[(0, .slice Aa ma ca)], [(6, .int .i64 ((i : Nat) : Int))], [], [], [], [(1, .slice Ab mb cb)], [(8, .int .i64 ((j : Nat) : Int))], [], [], [], [], [(5, .slice Ao n co)], [(6, .int .i64 ((i : Nat) : Int))], [(8, .int .i64 ((j : Nat) : Int))], [], [], [], [], [], [(7, .int .u64 ((c : Nat) : Int))], [], []] (fun iQ => [fun v _ => v = .slice Aa ma ca, fun v _ => v = .int .i64 ((i : Nat) : Int), fun v _ => v = .pointer (some ((adOf Aa).add i)), fun v _ => v = .int .u32 ((xa.getD i 0 : Nat) : Int), fun v _ => v = .int .u64 ((xa.getD i 0 : Nat) : Int), fun v _ => v = .slice Ab mb cb, fun v _ => v = .int .i64 ((j : Nat) : Int), fun v _ => v = .pointer (some ((adOf Ab).add j)), fun v _ => v = .int .u32 ((xb.getD j 0 : Nat) : Int), fun v _ => v = .int .u64 ((xb.getD j 0 : Nat) : Int), fun v _ => v = .int .u64 (((xa.getD i 0) * (xb.getD j 0) : Nat) : Int), fun v _ => v = .slice Ao n co, fun v _ => v = .int .i64 ((i : Nat) : Int), fun v _ => v = .int .i64 ((j : Nat) : Int), fun v _ => v = .int .i64 ((i + j : Nat) : Int), fun v _ => v = .pointer (some ((adOf Ao).add (i + j))), fun v _ => v = .int .u32 ((zs.getD (i + j) 0 : Nat) : Int), fun v _ => v = .int .u64 ((zs.getD (i + j) 0 : Nat) : Int), fun v _ => v = .int .u64 ((((xa.getD i 0) * (xb.getD j 0)) + (zs.getD (i + j) 0) : Nat) : Int), fun v _ => v = .int .u64 ((c : Nat) : Int), fun v _ => v = .int .u64 (((((xa.getD i 0) * (xb.getD j 0)) + (zs.getD (i + j) 0)) + c : Nat) : Int), fun v _ => v = .int .u64 (((((xa.getD i 0) * (xb.getD j 0)) + (zs.getD (i + j) 0)) + c : Nat) : Int)].getD iQ (fun _ _ => True)) (fun _ => True) 22 Try.mixed (by kernel_rfl) ?_ ?_ ?_
          · refine Vs_mono _ ?_
            intro VQ hVQ vQ wQ1 wQ2 hQ1 hQ2
            simp only [List.mem_cons, List.not_mem_nil, or_false] at hVQ
            rcases hVQ with rfl | rfl | rfl | rfl | rfl | rfl | rfl | rfl | rfl | rfl | rfl | rfl | rfl | rfl | rfl | rfl | rfl | rfl | rfl | rfl | rfl | rfl <;> exact hQ1
          · refine ⟨⟨rfl, ⟨rfl, trivial⟩, ?_⟩, ⟨rfl, ⟨rfl, trivial⟩, ?_⟩, ⟨rfl, trivial, ?_⟩, ⟨rfl, trivial, ?_⟩, ⟨rfl, trivial, ?_⟩, ⟨rfl, ⟨rfl, trivial⟩, ?_⟩, ⟨rfl, ⟨rfl, trivial⟩, ?_⟩, ⟨rfl, trivial, ?_⟩, ⟨rfl, trivial, ?_⟩, ⟨rfl, trivial, ?_⟩, ⟨rfl, trivial, ?_⟩, ⟨rfl, ⟨rfl, trivial⟩, ?_⟩, ⟨rfl, ⟨rfl, trivial⟩, ?_⟩, ⟨rfl, ⟨rfl, trivial⟩, ?_⟩, ⟨rfl, trivial, ?_⟩, ⟨rfl, trivial, ?_⟩, ⟨rfl, trivial, ?_⟩, ⟨rfl, trivial, ?_⟩, ⟨rfl, trivial, ?_⟩, ⟨rfl, ⟨rfl, trivial⟩, ?_⟩, ⟨rfl, trivial, ?_⟩, ⟨rfl, trivial, ?_⟩, trivial⟩
            · intro w17 hE
              intro R
              refine WL.move rfl rfl ?_
              exact WL.done ⟨_, rfl, rfl, rfl⟩
            · intro w18 hE
              intro R
              refine WL.move rfl rfl ?_
              exact WL.done ⟨_, rfl, rfl, rfl⟩
            · intro w19 hE
              rintro _ rfl
              rintro _ rfl
              intro R
              refine WL.index1 (i) Try.underlying23 Try.el48 rfl rfl (by omega) (by omega) ha rfl ?_
              exact WL.done ⟨_, rfl, rfl, rfl⟩
            · intro w20 hE
              have hE := hE rfl
              have hB := ext_trans hB hE
              have ha := ha0.ext hB
              rintro _ rfl
              intro R
              refine WL.load Try.underlying48 rfl rfl (Rd.at_ ha (us_at (by omega))) rfl ?_
              exact WL.done ⟨_, rfl, ext_refl _, rfl⟩
            · intro w21 hE
              rintro _ rfl
              intro R
              refine WL.conv (r := ((xa.getD i 0 : Nat) : Int)) Try.underlying48 Try.underlying61 rfl (wu64 (by omega) (by omega) (by omega)) rfl ?_
              exact WL.done ⟨_, rfl, rfl, rfl⟩
            · intro w22 hE
              intro R
              refine WL.move rfl rfl ?_
              exact WL.done ⟨_, rfl, rfl, rfl⟩
            · intro w23 hE
              intro R
              refine WL.move rfl rfl ?_
              exact WL.done ⟨_, rfl, rfl, rfl⟩
            · intro w24 hE
              rintro _ rfl
              rintro _ rfl
              intro R
              refine WL.index1 (j) Try.underlying23 Try.el48 rfl rfl (by omega) (by omega) hb rfl ?_
              exact WL.done ⟨_, rfl, rfl, rfl⟩
            · intro w25 hE
              have hE := hE rfl
              have hB := ext_trans hB hE
              have hb := hb0.ext hB
              rintro _ rfl
              intro R
              refine WL.load Try.underlying48 rfl rfl (Rd.at_ hb (us_at (by omega))) rfl ?_
              exact WL.done ⟨_, rfl, ext_refl _, rfl⟩
            · intro w26 hE
              rintro _ rfl
              intro R
              refine WL.conv (r := ((xb.getD j 0 : Nat) : Int)) Try.underlying48 Try.underlying61 rfl (wu64 (by omega) (by omega) (by omega)) rfl ?_
              exact WL.done ⟨_, rfl, rfl, rfl⟩
            · intro w27 hE
              rintro _ rfl
              rintro _ rfl
              intro R
              refine WL.mul (r := (((xa.getD i 0) * (xb.getD j 0) : Nat) : Int)) rfl rfl (by rw [← Int.natCast_mul]; exact wu64 (by omega) (by omega) rfl) rfl ?_
              exact WL.done ⟨_, rfl, rfl, rfl⟩
            · intro w28 hE
              intro R
              refine WL.move rfl rfl ?_
              exact WL.done ⟨_, rfl, rfl, rfl⟩
            · intro w29 hE
              intro R
              refine WL.move rfl rfl ?_
              exact WL.done ⟨_, rfl, rfl, rfl⟩
            · intro w30 hE
              intro R
              refine WL.move rfl rfl ?_
              exact WL.done ⟨_, rfl, rfl, rfl⟩
            · intro w31 hE
              rintro _ rfl
              rintro _ rfl
              intro R
              refine WL.add (r := ((i + j : Nat) : Int)) rfl rfl (wi64 (by omega) (by omega) (by omega)) rfl ?_
              exact WL.done ⟨_, rfl, rfl, rfl⟩
            · intro w32 hE
              rintro _ rfl
              rintro _ rfl
              intro R
              refine WL.index1 (i + j) Try.underlying23 Try.el48 rfl rfl (by omega) (by omega) ho.rd rfl ?_
              exact WL.done ⟨_, rfl, rfl, rfl⟩
            · intro w33 hE
              have hE := hE rfl
              have hB := ext_trans hB hE
              have ho := ho.ext hE
              rintro _ rfl
              intro R
              refine WL.load Try.underlying48 rfl rfl (Rd.at_ ho.rd (us_at (by omega))) rfl ?_
              exact WL.done ⟨_, rfl, ext_refl _, rfl⟩
            · intro w34 hE
              rintro _ rfl
              intro R
              refine WL.conv (r := ((zs.getD (i + j) 0 : Nat) : Int)) Try.underlying48 Try.underlying61 rfl (wu64 (by omega) (by omega) (by omega)) rfl ?_
              exact WL.done ⟨_, rfl, rfl, rfl⟩
            · intro w35 hE
              rintro _ rfl
              rintro _ rfl
              intro R
              refine WL.add (r := ((((xa.getD i 0) * (xb.getD j 0)) + (zs.getD (i + j) 0) : Nat) : Int)) rfl rfl (wu64 (by omega) (by omega) (by omega)) rfl ?_
              exact WL.done ⟨_, rfl, rfl, rfl⟩
            · intro w36 hE
              intro R
              refine WL.move rfl rfl ?_
              exact WL.done ⟨_, rfl, rfl, rfl⟩
            · intro w37 hE
              rintro _ rfl
              rintro _ rfl
              intro R
              refine WL.add (r := (((((xa.getD i 0) * (xb.getD j 0)) + (zs.getD (i + j) 0)) + c : Nat) : Int)) rfl rfl (wu64 (by omega) (by omega) (by omega)) rfl ?_
              exact WL.done ⟨_, rfl, rfl, rfl⟩
            · intro w38 hE
              rintro _ rfl
              intro R
              refine WL.assign rfl rfl ?_
              exact WL.done ⟨_, rfl, rfl, rfl⟩
          · intro vals w39 hT hVs
            rw [if_neg (by decide)] at hT
            have hB := ext_trans hB hT
            have ho := ho.ext hT
            have hv0 : vals 0 = _ := hVs 0 (by decide) (by decide)
            have hv1 : vals 1 = _ := hVs 1 (by decide) (by decide)
            have hv2 : vals 2 = _ := hVs 2 (by decide) (by decide)
            have hv3 : vals 3 = _ := hVs 3 (by decide) (by decide)
            have hv4 : vals 4 = _ := hVs 4 (by decide) (by decide)
            have hv5 : vals 5 = _ := hVs 5 (by decide) (by decide)
            have hv6 : vals 6 = _ := hVs 6 (by decide) (by decide)
            have hv7 : vals 7 = _ := hVs 7 (by decide) (by decide)
            have hv8 : vals 8 = _ := hVs 8 (by decide) (by decide)
            have hv9 : vals 9 = _ := hVs 9 (by decide) (by decide)
            have hv10 : vals 10 = _ := hVs 10 (by decide) (by decide)
            have hv11 : vals 11 = _ := hVs 11 (by decide) (by decide)
            have hv12 : vals 12 = _ := hVs 12 (by decide) (by decide)
            have hv13 : vals 13 = _ := hVs 13 (by decide) (by decide)
            have hv14 : vals 14 = _ := hVs 14 (by decide) (by decide)
            have hv15 : vals 15 = _ := hVs 15 (by decide) (by decide)
            have hv16 : vals 16 = _ := hVs 16 (by decide) (by decide)
            have hv17 : vals 17 = _ := hVs 17 (by decide) (by decide)
            have hv18 : vals 18 = _ := hVs 18 (by decide) (by decide)
            have hv19 : vals 19 = _ := hVs 19 (by decide) (by decide)
            have hv20 : vals 20 = _ := hVs 20 (by decide) (by decide)
            have hv21 : vals 21 = _ := hVs 21 (by decide) (by decide)
            rw [show (List.filterMap (fun i => Option.map (fun t => (t, vals i)) (dstAt _ i)) (List.range _)) = [(28, .slice Aa ma ca), (29, .int .i64 ((i : Nat) : Int)), (30, .pointer (some ((adOf Aa).add i))), (31, .int .u32 ((xa.getD i 0 : Nat) : Int)), (32, .int .u64 ((xa.getD i 0 : Nat) : Int)), (33, .slice Ab mb cb), (34, .int .i64 ((j : Nat) : Int)), (35, .pointer (some ((adOf Ab).add j))), (36, .int .u32 ((xb.getD j 0 : Nat) : Int)), (37, .int .u64 ((xb.getD j 0 : Nat) : Int)), (38, .int .u64 (((xa.getD i 0) * (xb.getD j 0) : Nat) : Int)), (39, .slice Ao n co), (40, .int .i64 ((i : Nat) : Int)), (41, .int .i64 ((j : Nat) : Int)), (42, .int .i64 ((i + j : Nat) : Int)), (43, .pointer (some ((adOf Ao).add (i + j)))), (44, .int .u32 ((zs.getD (i + j) 0 : Nat) : Int)), (45, .int .u64 ((zs.getD (i + j) 0 : Nat) : Int)), (46, .int .u64 ((((xa.getD i 0) * (xb.getD j 0)) + (zs.getD (i + j) 0) : Nat) : Int)), (47, .int .u64 ((c : Nat) : Int)), (48, .int .u64 (((((xa.getD i 0) * (xb.getD j 0)) + (zs.getD (i + j) 0)) + c : Nat) : Int)), (9, .int .u64 (((((xa.getD i 0) * (xb.getD j 0)) + (zs.getD (i + j) 0)) + c : Nat) : Int))] from by
              show [(28, vals 0), (29, vals 1), (30, vals 2), (31, vals 3), (32, vals 4), (33, vals 5), (34, vals 6), (35, vals 7), (36, vals 8), (37, vals 9), (38, vals 10), (39, vals 11), (40, vals 12), (41, vals 13), (42, vals 14), (43, vals 15), (44, vals 16), (45, vals 17), (46, vals 18), (47, vals 19), (48, vals 20), (9, vals 21)] = _
              rw [hv0, hv1, hv2, hv3, hv4, hv5, hv6, hv7, hv8, hv9, hv10, hv11, hv12, hv13, hv14, hv15, hv16, hv17, hv18, hv19, hv20, hv21]]
            refine W.seq ?_
            refine W.region ?_
            refine WL.move rfl rfl ?_
            refine WL.move rfl rfl ?_
            refine WL.move rfl rfl ?_
            refine WL.add (r := ((i + j : Nat) : Int)) rfl rfl (wi64 (by omega) (by omega) (by omega)) rfl ?_
            refine WL.move rfl rfl ?_
            refine WL.rem (r := ((((((xa.getD i 0) * (xb.getD j 0)) + (zs.getD (i + j) 0)) + c) % 4294967296 : Nat) : Int)) rfl rfl (by omega) (tmod_nat (by omega) (by omega)) rfl ?_
            refine WL.conv (r := ((((((xa.getD i 0) * (xb.getD j 0)) + (zs.getD (i + j) 0)) + c) % 4294967296 : Nat) : Int)) Try.underlying61 Try.underlying48 rfl (wu32 (by omega) (by omega) (by omega)) rfl ?_
            refine WL.index1 (i + j) Try.underlying23 Try.el48 rfl rfl (by omega) (by omega) ho.rd rfl ?_
            refine WL.store Try.el48 rfl rfl rfl (by omega) ho ?_
            have hOld41 := ho
            intro w40 ho hGw40
            change Own _ _ _ _ _ _ _ ((us zs).set (i + j) (.int .u32 ((((((xa.getD i 0) * (xb.getD j 0)) + (zs.getD (i + j) 0)) + c) % 4294967296 : Nat) : Int))) at ho
            rw [us_set] at ho
            have hB := ext_own hB hGw40 (fun g hg => (hOld41.bl_ge g hg).1)
            have := ho.rd.ulen
            refine WL.done ?_
            refine W.region ?_
            refine WL.move rfl rfl ?_
            refine WL.quo (r := ((((((xa.getD i 0) * (xb.getD j 0)) + (zs.getD (i + j) 0)) + c) / 4294967296 : Nat) : Int)) rfl rfl (by omega) (qu64 (by omega) (by omega) (by omega)) rfl ?_
            refine WL.assign rfl rfl ?_
            refine WL.done ?_
            refine W.region ?_
            refine WL.move rfl rfl ?_
            refine WL.add (r := ((j + 1 : Nat) : Int)) rfl rfl (wi64 (by omega) (by omega) (by omega)) rfl ?_
            refine WL.assign rfl rfl ?_
            refine WL.done ?_
            refine ⟨(j + 1, (xa.getD i 0 * xb.getD j 0 + zs.getD (i + j) 0 + c) / 4294967296, zs.set (i + j) ((xa.getD i 0 * xb.getD j 0 + zs.getD (i + j) 0 + c) % 4294967296), _, _), ⟨rfl, rfl, rfl, iv (by omega), iv (by omega), iv (by omega), trivial⟩, by (dsimp only; omega), ?_⟩
            exact ⟨hB, by omega, by omega, hLz.set _ (by omega), by simp [hlz], fun t ht => by rw [getD_set_ne (by omega)]; exact h0z t (by omega), by rw [nv_take_succ]; exact mul_inner (by omega) heq rfl, ho⟩
        · refine WL.done ?_
          refine W.condF rfl ?_
          refine W.exit ?_
          refine W.region ?_
          refine WL.move rfl rfl ?_
          refine WL.move rfl rfl ?_
          refine WL.move rfl rfl ?_
          refine WL.len Try.underlying23 rfl rfl ?_
          refine WL.add (r := ((i + mb : Nat) : Int)) rfl rfl (wi64 (by omega) (by omega) (by omega)) rfl ?_
          refine WL.move rfl rfl ?_
          refine WL.conv (r := ((c : Nat) : Int)) Try.underlying61 Try.underlying48 rfl (wu32 (by omega) (by omega) (by omega)) rfl ?_
          refine WL.index1 (i + mb) Try.underlying23 Try.el48 rfl rfl (by omega) (by omega) ho.rd rfl ?_
          refine WL.store Try.el48 rfl rfl rfl (by omega) ho ?_
          have hOld43 := ho
          intro w42 ho hGw42
          change Own _ _ _ _ _ _ _ ((us zs).set (i + mb) (.int .u32 ((c : Nat) : Int))) at ho
          rw [us_set] at ho
          have hB := ext_own hB hGw42 (fun g hg => (hOld43.bl_ge g hg).1)
          have := ho.rd.ulen
          refine WL.done ?_
          refine W.region ?_
          refine WL.move rfl rfl ?_
          refine WL.add (r := ((i + 1 : Nat) : Int)) rfl rfl (wi64 (by omega) (by omega) (by omega)) rfl ?_
          refine WL.assign rfl rfl ?_
          refine WL.done ?_
          refine ⟨(i + 1, n, zs.set (i + mb) c, _, _), ⟨rfl, rfl, rfl, iv (by omega), trivial⟩, by (dsimp only; omega), ?_⟩
          exact ⟨hB, by omega, hn, hLz.set _ hc, by simp [hlz], fun t ht => by rw [getD_set_ne (by omega)]; exact h0z t (by omega), by rw [mul_outer (u := nv xb) (base := nv (xa.take i) * nv xb) (x := xa.getD i 0) (by omega) (h0z _ (Nat.le_refl _)) (by rw [← nv_take_all (l := xb) (i := j) (by omega), show i + mb = i + j by omega, nv_take_all (l := xb) (i := j) (by omega)]; rw [nv_take_all (l := xb) (i := j) (by omega)] at heq; exact heq)]; exact take_mul, ho⟩
    · refine WL.done ?_
      refine W.condF rfl ?_
      refine W.exit ?_
      refine W.seq ?_
      refine W.region ?_
      refine WL.move rfl rfl ?_
      refine WL.call Try.func54 rfl Try.nm54 rfl rfl (rTrim_c ho.rd (by omega)) ?_
      rintro _ w44 ⟨A45, m46, cp47, rfl, hGw44, hO48, hm49⟩
      have hO48 := hO48.low (b' := w.heap.size) hB.size
      have hB := ext_trans hB hGw44
      have hO48_l := hO48.rd.ulen
      refine WL.assign rfl rfl ?_
      refine WL.done ?_
      refine W.ret ?_
      refine ⟨_, rfl, ?_⟩
      have hO := hO48
      obtain rfl : i = ma := by omega
      rw [nv_take_all (by omega)] at heq
      rw [digs_trim hLz, heq] at hO
      exact ⟨_, _, _, rfl, hB, hO, by omega⟩
end Go.Proofs.Ythfpcebcfjlkmac
