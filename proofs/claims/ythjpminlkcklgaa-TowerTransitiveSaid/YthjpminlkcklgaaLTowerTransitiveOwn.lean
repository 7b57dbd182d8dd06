/- What only this law leans on. -/
import Derived.Test.YthjpminlkcklgaaTowerTransitiveG9
set_option linter.unusedSimpArgs false
set_option linter.unusedVariables false
namespace Go.Proofs.Ythjpminlkcklgaa
open Go.ChangeShapes Go.WideShapes Go.ChangeAt Go.RowKit
section
variable {H : Type} {enc : TypeId × Value → H} {P : Program} {W : World} {base : Nat} {spare : Nat → Bool} {held : Bool}
theorem okWide_arr {r : Reach} {t e : TypeId} {n : Nat} {v : Value} (ht : P.underlying t = some (.array n e)) (h : Value.okWide P W r base t v) : ∃ cs, v = .agg cs ∧ cs.size = P.cellsOf t := by
  simp only [Value.okWide, ht] at h
  obtain ⟨cs, h1, h2, _⟩ := h
  exact ⟨cs, h1, h2⟩
end
end Go.Proofs.Ythjpminlkcklgaa
set_option linter.unusedSimpArgs false
set_option linter.unusedVariables false
namespace Go.Proofs.Ythjpminlkcklgaa
open Go.RowKit
section
variable {P : Program} {n : Nat} {ro : Option Nat} {df : List Deferred} {N : Post} {B : BPost} {L : Fr} {w : World}
end
/-- Arrays as values: one cell an entry. -/
def arrB (P : Program) (t n : Nat) : Bool :=
  match P.underlying t with
  | some (.array m e) => m == n && (match P.underlying e with | some (.struct _) => false | some (.array _ _) => false | some _ => true | none => false) && (match P.info? e with | some i => i.size == 1 | none => false)
  | _ => false
section
variable {P : Program} {n : Nat} {ro : Option Nat} {df : List Deferred} {N : Post} {L : Fr} {w : World} {ops : Array Oper} {rest : List Oper}
variable {d : Nat} {ty : TypeId} {pos : String} {af : Array Edge}
end
end Go.Proofs.Ythjpminlkcklgaa
set_option linter.unusedSimpArgs false
set_option linter.unusedVariables false
namespace Go.Proofs.Ythjpminlkcklgaa
open Go.RowKit
/-! ### pointers and functions beside nil; entries of an array that lies in memory -/
section
variable {P : Program} {n : Nat} {ro : Option Nat} {df : List Deferred} {N : Post} {L : Fr} {w : World} {rest : List Oper} {ops : Array Oper}
variable {d : Nat} {ty : TypeId} {pos : String} {af : Array Edge}
/-- the address of an entry of an array -/
theorem WL.indexP {x i : Operand} {t m : Nat} {p q : Addr} {k : IntKind} {J : Int} (j : Nat) (hA : arrB P t m = true) (hx : ev L x = some (.pointer (some p))) (hi : ev L i = some (.int k J)) (hJ : J = j) (hj : j < m) (hq : p.add (j * 1) = q) (hn : Nat.blt d n = true)
    (h : WL P n ro df ops rest N ((d, .pointer (some q)) :: L) w) : WL P n ro df ops (⟨some d, .indexAddr t x i, ty, pos, af, none⟩ :: rest) N L w := by
  refine WL.val rfl rfl hn (fun a ha => ?_) h
  subst hJ; subst hq
  unfold arrB at hA
  split at hA
  · rename_i m' e hu
    simp only [Bool.and_eq_true, beq_iff_eq] at hA
    obtain ⟨⟨hm, hk⟩, hs⟩ := hA
    subst hm
    cases hi2 : P.info? e with
    | none => rw [hi2] at hs; cases hs
    | some it =>
      rw [hi2] at hs
      simp only [beq_iff_eq] at hs
      have hc : (0 : Int) ≤ (j : Int) ∧ (j : Int) < (m' : Int) := by omega
      simp [execOp, ha.ev hx, ha.ev hi, Instr.indexAt, Instr.sureAddr, asIntOf, run_underlying hu, sizeOf, typeInfo, hi2, hs, hj]
  · cases hA
end
end Go.Proofs.Ythjpminlkcklgaa
set_option linter.unusedSimpArgs false
set_option linter.unusedVariables false
namespace Go.Proofs.Ythjpminlkcklgaa
open Go.ChangeShapes Go.WideShapes Go.ChangeAt Go.RowKit
/-- an array of two ints -/
theorem arr2_arg {H : Type} {enc : TypeId × Value → H} {P : Program} {W : World} {base : Nat} {spare : Nat → Bool} {held : Bool} {t e : TypeId} {cs : Array Value} {d : DataW H} {p : List MemPlace} (ht : P.underlying t = some (.array 2 e)) (he : P.underlying e = some (.int .i64)) (hc : P.cellsOf e = 1) (h3 : P.cellsOf t = 2) (h : DataW.Trod enc P W base spare held t (.agg cs) d p) :
    ∃ a b : Int, cs = #[.int .i64 a, .int .i64 b] := by
  obtain ⟨fuel, hf⟩ := h
  obtain ⟨xs, n, _, _, hl, hx, hel⟩ := DataW.trod_array ht hf
  have e2 : (Value.agg cs).cells.toList = cs.toList := rfl
  rw [e2] at hl hel
  rw [h3] at hl
  generalize hcs : cs.toList = l at *
  match l, hl with
  | [v0, v1], _ =>
    match xs, hx with
    | [x0, x1], _ =>
      have h0 := hel 0 (by omega)
      have h1 := hel 1 (by omega)
      simp only [hc, Nat.zero_mul, Nat.one_mul, Nat.mul_one, List.drop_zero, List.drop_succ_cons, List.take_succ_cons, List.take_zero, List.getElem?_cons_zero, List.getElem?_cons_succ] at h0 h1
      obtain ⟨a, e0, _, _⟩ := DataW.trod_int he h0
      obtain ⟨b, e1, _, _⟩ := DataW.trod_int he h1
      have e0' : v0 = .int .i64 a := by simpa using e0
      have e1' : v1 = .int .i64 b := by simpa using e1
      subst e0'; subst e1'
      refine ⟨a, b, ?_⟩
      rw [← Array.toArray_toList (xs := cs), hcs]
end Go.Proofs.Ythjpminlkcklgaa
set_option linter.unusedVariables false
namespace Go.Proofs.Ythjpminlkcklgaa
open Go.RowKit
theorem Try.arr31 : arrB Try.prog 31 2 = true := by kernel_rfl
theorem Try.nm23 : (Try.f23.name == "runtime.NumGoroutine") = false := by kernel_rfl
theorem Try.nm61 : (Try.f61.name == "runtime.NumGoroutine") = false := by kernel_rfl
end Go.Proofs.Ythjpminlkcklgaa
set_option linter.unusedSimpArgs false
set_option linter.unusedVariables false
namespace Go.Proofs.Ythjpminlkcklgaa
open Go.RowKit
def V_rPow (Pf : Int) (Mf : Int) (mf : List Int) (x : Int) (n : Int) (Q : Int × Int → Prop) : Prop :=
  V_rIn Pf Mf mf x (fun r14 => ((n = (0 : Int)) → (Q ((1 : Int), (0 : Int)))) ∧ (¬ (n = (0 : Int)) → (((r14 = (0 : Int)) → (((n < (0 : Int)) → (Q ((0 : Int), (7 : Int)))) ∧ (¬ (n < (0 : Int)) → (Q ((0 : Int), (0 : Int)))))) ∧ (¬ (r14 = (0 : Int)) → (V_rOrder Pf Mf mf (fun r19 => (I64 (r19 - (1 : Int))) ∧ (((r19 - (1 : Int)) ≠ 0) ∧ ((I64 ((n.tmod (r19 - (1 : Int))) + (r19 - (1 : Int)))) ∧ (((r19 - (1 : Int)) ≠ 0) ∧ (∃ (I30 : Int → Int → Prop) (μ31 : Int → Int → Nat), I30 (1 : Int) (0 : Int) ∧ ∀ (z28 : Int) (z29 : Int), (I30 z28 z29 → (((z29 < (((n.tmod (r19 - (1 : Int))) + (r19 - (1 : Int))).tmod (r19 - (1 : Int)))) → (V_rMul Pf Mf mf z28 r14 (fun r35 => (I64 (z29 + (1 : Int))) ∧ (I30 r35 (z29 + (1 : Int)) ∧ μ31 r35 (z29 + (1 : Int)) < μ31 z28 z29)))) ∧ (¬ (z29 < (((n.tmod (r19 - (1 : Int))) + (r19 - (1 : Int))).tmod (r19 - (1 : Int)))) → (Q (z28, (0 : Int))))))))))))))))
theorem ok_rPow {w : World} {Q : Int × Int → Prop} {Pf : Int} {Mf : Int} {mf : List Int} {x : Int} {n : Int} {Bf : Nat} {Af : Option Addr} {nf kf : Nat} (hf : Rd Bf w 1 Af nf kf (is mf)) (hv : V_rPow Pf Mf mf x n Q) :
    Calls Try.prog 61 #[.agg #[.int .i64 Pf, .int .i64 Mf, .slice Af nf kf], .int .i64 x, .int .i64 n] w fun e w' => ∃ v Qr, e = .returned v ∧ w.grownBy w' none ∧ Rows w.heap.size none w' Qr ∧ News w.heap.size Qr ∧ ∃ (r0 : Int) (r1 : Int), v = .tuple #[.int .i64 r0, .int .i64 r1] ∧ Qr = [] ∧ Q (r0, r1) := by
  have hnf := hf.ilen
  subst hnf
  refine calls_swap ?_
  refine calls_of_W (vs := [.agg #[.int .i64 Pf, .int .i64 Mf, .slice Af mf.length kf], .int .i64 x, .int .i64 n]) [6, 7] Try.func61 rfl rfl rfl rfl ?_
  have hS := St.start w
  unfold V_rPow at hv
  refine W.seq ?_
  refine W.region ?_
  refine SL.box (z := 3) (cs := [.int .i64 Pf, .int .i64 Mf, .slice Af mf.length kf]) hS rfl rfl rfl rfl ?_
  intro g11 w12 hS
  refine WL.assign rfl rfl ?_
  refine WL.assign rfl rfl ?_
  refine WL.done ?_
  refine W.seq ?_
  refine W.region ?_
  refine WL.loadV (cs := [.int .i64 Pf, .int .i64 Mf, .slice Af mf.length kf]) Try.el24 Try.agg24 rfl rfl (Own.vcells (hS.own (i := 0) rfl)) rfl ?_
  refine WL.move rfl rfl ?_
  refine SL.call hS (ok_rIn (hS.ro hf) hv) Try.func26 rfl Try.nm26 rfl rfl ?_
  rintro _ _ w13 ⟨r14, rfl, rfl, hv⟩ hGw13 hS
  change St _ _ _ _ [.row 24 3 (some ⟨g11, 0, none⟩) 1 1 [.int .i64 Pf, .int .i64 Mf, .slice Af mf.length kf]] at hS
  refine WL.assign rfl rfl ?_
  refine WL.done ?_
  refine W.seq ?_
  refine W.seq ?_
  refine W.region ?_
  refine WL.move rfl rfl ?_
  refine WL.eqlD rfl rfl rfl ?_
  refine WL.done ?_
  refine W.cond2 rfl (fun c15 => ?_) (fun c15 => ?_)
  · have hv := hv.1 (of_decide_eq_true c15)
    refine W.seq ?_
    refine W.region ?_
    refine WL.assign rfl rfl ?_
    refine WL.assign rfl rfl ?_
    refine WL.done ?_
    refine W.ret ?_
    refine ⟨_, rfl, Fin.nil ?_⟩
    exact ⟨_, hS.ext, (hS.pick [] rfl).rows, News.of (hS.pick [] rfl).rows rfl, ⟨(1 : Int), (0 : Int), rfl, rfl, hv⟩⟩
  · have hv := hv.2 (of_decide_eq_false c15)
    refine W.skip ?_
    refine W.seq ?_
    refine W.seq ?_
    refine W.region ?_
    refine WL.move rfl rfl ?_
    refine WL.eqlD rfl rfl rfl ?_
    refine WL.move rfl rfl ?_
    by_cases g16 : r14 = (0 : Int)
    · have hv := hv.1 g16
      rw [decide_eq_true g16]
      refine WL.take rfl ?_
      refine WL.move rfl rfl ?_
      refine WL.take rfl ?_
      refine WL.lssD rfl rfl rfl ?_
      refine WL.pick rfl rfl rfl ?_
      refine WL.done ?_
      refine W.cond2 rfl (fun c17 => ?_) (fun c17 => ?_)
      · have hv := hv.1 (of_decide_eq_true c17)
        refine W.seq ?_
        refine W.region ?_
        refine WL.assign rfl rfl ?_
        refine WL.assign rfl rfl ?_
        refine WL.done ?_
        refine W.ret ?_
        refine ⟨_, rfl, Fin.nil ?_⟩
        exact ⟨_, hS.ext, (hS.pick [] rfl).rows, News.of (hS.pick [] rfl).rows rfl, ⟨(0 : Int), (7 : Int), rfl, rfl, hv⟩⟩
      · have hv := hv.2 (of_decide_eq_false c17)
        refine W.skip ?_
        refine W.seq ?_
        refine W.seq ?_
        refine W.region ?_
        refine WL.move rfl rfl ?_
        refine WL.eqlD rfl rfl rfl ?_; rw [decide_eq_true g16]
        refine WL.done ?_
        refine W.condT rfl ?_
        refine W.seq ?_
        refine W.region ?_
        refine WL.assign rfl rfl ?_
        refine WL.assign rfl rfl ?_
        refine WL.done ?_
        refine W.ret ?_
        refine ⟨_, rfl, Fin.nil ?_⟩
        exact ⟨_, hS.ext, (hS.pick [] rfl).rows, News.of (hS.pick [] rfl).rows rfl, ⟨(0 : Int), (0 : Int), rfl, rfl, hv⟩⟩
    · have hv := hv.2 g16
      rw [decide_eq_false g16]
      refine WL.pass rfl rfl rfl ?_
      refine WL.pass rfl rfl rfl ?_
      refine WL.pick rfl rfl rfl ?_
      refine WL.done ?_
      refine W.condF rfl ?_
      refine W.skip ?_
      refine W.seq ?_
      refine W.seq ?_
      refine W.region ?_
      refine WL.move rfl rfl ?_
      refine WL.eqlD rfl rfl rfl ?_; rw [decide_eq_false g16]
      refine WL.done ?_
      refine W.condF rfl ?_
      refine W.skip ?_
      refine W.seq ?_
      refine W.region ?_
      refine WL.loadV (cs := [.int .i64 Pf, .int .i64 Mf, .slice Af mf.length kf]) Try.el24 Try.agg24 rfl rfl (Own.vcells (hS.own (i := 0) rfl)) rfl ?_
      refine SL.call hS (ok_rOrder (hS.ro hf) hv) Try.func31 rfl Try.nm31 rfl rfl ?_
      rintro _ _ w18 ⟨r19, rfl, rfl, hv⟩ hGw18 hS
      change St _ _ _ _ [.row 24 3 (some ⟨g11, 0, none⟩) 1 1 [.int .i64 Pf, .int .i64 Mf, .slice Af mf.length kf]] at hS
      obtain ⟨o20, hv⟩ := hv
      refine WL.sub (r := (r19 - (1 : Int))) rfl rfl (wr o20) rfl ?_
      refine WL.assign rfl rfl ?_
      refine WL.done ?_
      refine W.seq ?_
      refine W.region ?_
      refine WL.move rfl rfl ?_
      refine WL.move rfl rfl ?_
      obtain ⟨o21, hv⟩ := hv
      refine WL.rem (r := (n.tmod (r19 - (1 : Int)))) rfl rfl o21 rfl rfl ?_
      refine WL.move rfl rfl ?_
      obtain ⟨o22, hv⟩ := hv
      refine WL.add (r := ((n.tmod (r19 - (1 : Int))) + (r19 - (1 : Int)))) rfl rfl (wr o22) rfl ?_
      refine WL.move rfl rfl ?_
      obtain ⟨o23, hv⟩ := hv
      refine WL.rem (r := (((n.tmod (r19 - (1 : Int))) + (r19 - (1 : Int))).tmod (r19 - (1 : Int)))) rfl rfl o23 rfl rfl ?_
      refine WL.assign rfl rfl ?_
      refine WL.done ?_
      refine W.seq ?_
      refine W.region ?_
      refine WL.assign rfl rfl ?_
      refine WL.done ?_
      refine W.seq ?_
      refine W.seq ?_
      refine W.region ?_
      refine WL.assign rfl rfl ?_
      refine WL.done ?_
      refine W.block ?_
      obtain ⟨I30, μ31, hv, hk37⟩ := hv
      change St _ _ _ _ [.row 24 3 (some ⟨g11, 0, none⟩) 1 1 [.int .i64 Pf, .int .i64 Mf, .slice Af mf.length kf]] at hS
      refine W.loop (σ := Int × Int) (fun q w1 => match q with | (z28, z29) => I30 z28 z29 ∧ St TT w none w1 [.row 24 3 (some ⟨g11, 0, none⟩) 1 1 [.int .i64 Pf, .int .i64 Mf, .slice Af mf.length kf]]) (fun q => match q with | (z28, z29) => [(1, .int .i64 r14), (2, .int .i64 (((n.tmod (r19 - (1 : Int))) + (r19 - (1 : Int))).tmod (r19 - (1 : Int)))), (3, .pointer (some ⟨g11, 0, none⟩)), (6, .int .i64 (0 : Int)), (7, .int .i64 (0 : Int)), (9, .int .i64 z28), (10, .int .i64 z29)]) (fun q => match q with | (z28, z29) => μ31 z28 z29) ((1 : Int), (0 : Int)) ⟨hv, hS⟩ ⟨rfl, rfl, rfl, rfl, rfl, rfl, rfl, trivial⟩ ?_
      rintro ⟨z28, z29⟩ w32 ⟨hv, hS⟩
      have hv := hk37 z28 z29 hv
      refine W.seq ?_
      refine W.seq ?_
      refine W.region ?_
      refine WL.move rfl rfl ?_
      refine WL.move rfl rfl ?_
      refine WL.lssD rfl rfl rfl ?_
      refine WL.done ?_
      refine W.cond2 rfl (fun c33 => ?_) (fun c33 => ?_)
      · have hv := hv.1 (of_decide_eq_true c33)
        refine W.skip ?_
        refine W.seq ?_
        refine W.block ?_
        refine W.region ?_
        refine WL.loadV (cs := [.int .i64 Pf, .int .i64 Mf, .slice Af mf.length kf]) Try.el24 Try.agg24 rfl rfl (Own.vcells (hS.own (i := 0) rfl)) rfl ?_
        refine WL.move rfl rfl ?_
        refine WL.move rfl rfl ?_
        refine SL.call hS (ok_rMul (hS.ro hf) hv) Try.func25 rfl Try.nm25 rfl rfl ?_
        rintro _ _ w34 ⟨r35, rfl, rfl, hv⟩ hGw34 hS
        change St _ _ _ _ [.row 24 3 (some ⟨g11, 0, none⟩) 1 1 [.int .i64 Pf, .int .i64 Mf, .slice Af mf.length kf]] at hS
        refine WL.assign rfl rfl ?_
        refine WL.done ?_
        refine W.region ?_
        refine WL.move rfl rfl ?_
        obtain ⟨o36, hv⟩ := hv
        refine WL.add (r := (z29 + (1 : Int))) rfl rfl (wr o36) rfl ?_
        refine WL.assign rfl rfl ?_
        refine WL.done ?_
        change St _ _ _ _ [.row 24 3 (some ⟨g11, 0, none⟩) 1 1 [.int .i64 Pf, .int .i64 Mf, .slice Af mf.length kf]] at hS
        exact ⟨(r35, (z29 + (1 : Int))), ⟨rfl, rfl, rfl, rfl, rfl, rfl, rfl, trivial⟩, hv.2, rfl, hv.1, hS⟩
      · have hv := hv.2 (of_decide_eq_false c33)
        refine W.exit ?_
        refine W.seq ?_
        refine W.region ?_
        refine WL.move rfl rfl ?_
        refine WL.assign rfl rfl ?_
        refine WL.assign rfl rfl ?_
        refine WL.done ?_
        refine W.ret ?_
        refine ⟨_, rfl, Fin.nil ?_⟩
        exact ⟨_, hS.ext, (hS.pick [] rfl).rows, News.of (hS.pick [] rfl).rows rfl, ⟨z28, (0 : Int), rfl, rfl, hv⟩⟩

end Go.Proofs.Ythjpminlkcklgaa
set_option linter.unusedSimpArgs false
set_option linter.unusedVariables false
namespace Go.Proofs.Ythjpminlkcklgaa
open Go.RowKit
def V_rfrob (Pf : Int) (Mf : Int) (mf : List Int) (x : Int) (k : Int) (Q : Int → Prop) : Prop :=
  V_rIn Pf Mf mf x (fun r14 => ∃ (I21 : Int → Int → Prop) (μ22 : Int → Int → Nat), I21 r14 (0 : Int) ∧ ∀ (z19 : Int) (z20 : Int), (I21 z19 z20 → (((z20 < k) → (V_rPow Pf Mf mf z19 Pf (fun q => match q with | (r26, r27) => (I64 (z20 + (1 : Int))) ∧ (I21 r26 (z20 + (1 : Int)) ∧ μ22 r26 (z20 + (1 : Int)) < μ22 z19 z20)))) ∧ (¬ (z20 < k) → Q z19))))
theorem ok_rfrob {w : World} {Q : Int → Prop} {Pf : Int} {Mf : Int} {mf : List Int} {x : Int} {k : Int} {Bf : Nat} {Af : Option Addr} {nf kf : Nat} (hf : Rd Bf w 1 Af nf kf (is mf)) (hv : V_rfrob Pf Mf mf x k Q) :
    Calls Try.prog 23 #[.agg #[.int .i64 Pf, .int .i64 Mf, .slice Af nf kf], .int .i64 x, .int .i64 k] w fun e w' => ∃ v Qr, e = .returned v ∧ w.grownBy w' none ∧ Rows w.heap.size none w' Qr ∧ News w.heap.size Qr ∧ ∃ (r0 : Int), v = .int .i64 r0 ∧ Qr = [] ∧ Q r0 := by
  have hnf := hf.ilen
  subst hnf
  refine calls_swap ?_
  refine calls_of_W (vs := [.agg #[.int .i64 Pf, .int .i64 Mf, .slice Af mf.length kf], .int .i64 x, .int .i64 k]) [6] Try.func23 rfl rfl rfl rfl ?_
  have hS := St.start w
  unfold V_rfrob at hv
  refine W.seq ?_
  refine W.region ?_
  refine SL.box (z := 3) (cs := [.int .i64 Pf, .int .i64 Mf, .slice Af mf.length kf]) hS rfl rfl rfl rfl ?_
  intro g11 w12 hS
  refine WL.assign rfl rfl ?_
  refine WL.done ?_
  refine W.seq ?_
  refine W.region ?_
  refine WL.loadV (cs := [.int .i64 Pf, .int .i64 Mf, .slice Af mf.length kf]) Try.el24 Try.agg24 rfl rfl (Own.vcells (hS.own (i := 0) rfl)) rfl ?_
  refine WL.move rfl rfl ?_
  refine SL.call hS (ok_rIn (hS.ro hf) hv) Try.func26 rfl Try.nm26 rfl rfl ?_
  rintro _ _ w13 ⟨r14, rfl, rfl, hv⟩ hGw13 hS
  change St _ _ _ _ [.row 24 3 (some ⟨g11, 0, none⟩) 1 1 [.int .i64 Pf, .int .i64 Mf, .slice Af mf.length kf]] at hS
  refine WL.assign rfl rfl ?_
  refine WL.done ?_
  refine W.seq ?_
  refine W.seq ?_
  refine W.region ?_
  refine WL.assign rfl rfl ?_
  refine WL.done ?_
  refine W.block ?_
  obtain ⟨I21, μ22, hv, hk29⟩ := hv
  change St _ _ _ _ [.row 24 3 (some ⟨g11, 0, none⟩) 1 1 [.int .i64 Pf, .int .i64 Mf, .slice Af mf.length kf]] at hS
  refine W.loop (σ := Int × Int) (fun q w1 => match q with | (z19, z20) => I21 z19 z20 ∧ St TT w none w1 [.row 24 3 (some ⟨g11, 0, none⟩) 1 1 [.int .i64 Pf, .int .i64 Mf, .slice Af mf.length kf]]) (fun q => match q with | (z19, z20) => [(1, .int .i64 z19), (2, .int .i64 k), (3, .pointer (some ⟨g11, 0, none⟩)), (6, .int .i64 (0 : Int)), (7, .int .i64 z20)]) (fun q => match q with | (z19, z20) => μ22 z19 z20) (r14, (0 : Int)) ⟨hv, hS⟩ ⟨rfl, rfl, rfl, rfl, rfl, trivial⟩ ?_
  rintro ⟨z19, z20⟩ w23 ⟨hv, hS⟩
  have hv := hk29 z19 z20 hv
  refine W.seq ?_
  refine W.seq ?_
  refine W.region ?_
  refine WL.move rfl rfl ?_
  refine WL.move rfl rfl ?_
  refine WL.lssD rfl rfl rfl ?_
  refine WL.done ?_
  refine W.cond2 rfl (fun c24 => ?_) (fun c24 => ?_)
  · have hv := hv.1 (of_decide_eq_true c24)
    refine W.skip ?_
    refine W.seq ?_
    refine W.block ?_
    refine W.region ?_
    refine WL.loadV (cs := [.int .i64 Pf, .int .i64 Mf, .slice Af mf.length kf]) Try.el24 Try.agg24 rfl rfl (Own.vcells (hS.own (i := 0) rfl)) rfl ?_
    refine WL.move rfl rfl ?_
    refine WL.fieldA (off := 0) Try.fla24_0 rfl rfl ?_
    refine WL.load Try.underlying3 rfl rfl (Own.vcells (hS.own (i := 0) rfl) 0 _ rfl) rfl ?_
    refine SL.call hS (ok_rPow (hS.ro hf) hv) Try.func61 rfl Try.nm61 rfl rfl ?_
    rintro _ _ w25 ⟨r26, r27, rfl, rfl, hv⟩ hGw25 hS
    change St _ _ _ _ [.row 24 3 (some ⟨g11, 0, none⟩) 1 1 [.int .i64 Pf, .int .i64 Mf, .slice Af mf.length kf]] at hS
    refine WL.move rfl rfl ?_
    refine WL.extract rfl rfl rfl ?_
    refine WL.extract rfl rfl rfl ?_
    refine WL.assign rfl rfl ?_
    refine WL.done ?_
    refine W.region ?_
    refine WL.move rfl rfl ?_
    obtain ⟨o28, hv⟩ := hv
    refine WL.add (r := (z20 + (1 : Int))) rfl rfl (wr o28) rfl ?_
    refine WL.assign rfl rfl ?_
    refine WL.done ?_
    change St _ _ _ _ [.row 24 3 (some ⟨g11, 0, none⟩) 1 1 [.int .i64 Pf, .int .i64 Mf, .slice Af mf.length kf]] at hS
    exact ⟨(r26, (z20 + (1 : Int))), ⟨rfl, rfl, rfl, rfl, rfl, trivial⟩, hv.2, rfl, hv.1, hS⟩
  · have hv := hv.2 (of_decide_eq_false c24)
    refine W.exit ?_
    refine W.seq ?_
    refine W.region ?_
    refine WL.move rfl rfl ?_
    refine WL.assign rfl rfl ?_
    refine WL.done ?_
    refine W.ret ?_
    refine ⟨_, rfl, Fin.nil ?_⟩
    exact ⟨_, hS.ext, (hS.pick [] rfl).rows, News.of (hS.pick [] rfl).rows rfl, ⟨z19, rfl, rfl, hv⟩⟩

end Go.Proofs.Ythjpminlkcklgaa
set_option linter.unusedSimpArgs false
set_option linter.unusedVariables false
namespace Go.Proofs.Ythjpminlkcklgaa
open Go.RowKit
def V_TowerTransitive (Pf : Int) (Mf : Int) (mf : List Int) (x : Int) (v0 : Int) (v1 : Int) (Q : Bool → Prop) : Prop :=
  V_alive  (fun r16 => (((!r16) = true) → Q false) ∧ ((!r16) = false → (V_made Pf Mf mf (fun q => match q with | none => Q true | some F21 => V_tdivides Pf Mf mf v0 (fun r42 => (((!r42) = true) → Q true) ∧ ((!r42) = false → (((v1 < (1 : Int)) → Q true) ∧ (¬ (v1 < (1 : Int)) → (((v0 < v1) → Q true) ∧ (¬ (v0 < v1) → ((v1 ≠ 0) ∧ ((((v0.tmod v1) ≠ (0 : Int)) → Q true) ∧ (¬ ((v0.tmod v1) ≠ (0 : Int)) → (V_trace F21 x v0 (fun q => match q with | (r49, r50) => V_norm F21 x v0 (fun q => match q with | (r52, r53) => (v1 ≠ 0 ∧ I64 (v0.tdiv v1)) ∧ (∃ (I65 : Int → Int → Int → Prop) (μ66 : Int → Int → Int → Nat), I65 (0 : Int) (1 : Int) (0 : Int) ∧ ∀ (z61 : Int) (z62 : Int) (z63 : Int), (I65 z61 z62 z63 → (((z63 < (v0.tdiv v1)) → ((I64 (v1 * z63)) ∧ (∃ (r78 : Int), V_rfrob Pf Mf mf r49 (v1 * z63) (fun q => q = r78) ∧ (∃ (r82 : Int), V_rAdd Pf Mf mf z61 r78 (fun q => q = r82) ∧ ((I64 (v1 * z63)) ∧ (∃ (r96 : Int), V_rfrob Pf Mf mf r52 (v1 * z63) (fun q => q = r96) ∧ (∃ (r100 : Int), V_rMul Pf Mf mf z62 r96 (fun q => q = r100) ∧ ((I64 (z63 + (1 : Int))) ∧ (I65 r82 r100 (z63 + (1 : Int)) ∧ μ66 r82 r100 (z63 + (1 : Int)) < μ66 z61 z62 z63))))))))) ∧ (¬ (z63 < (v0.tdiv v1)) → (V_trace F21 x v1 (fun q => match q with | (r107, r108) => V_norm F21 x v1 (fun q => match q with | (r110, r111) => ((r108 = (0 : Int)) → (((r111 = (0 : Int)) → (((r107 = z61) → (Q (decide (r110 = z62)))) ∧ (¬ (r107 = z61) → Q false))) ∧ (¬ (r111 = (0 : Int)) → Q false))) ∧ (¬ (r108 = (0 : Int)) → Q false))))))))))))))))))))))))
theorem ok_TowerTransitive {w : World} {Q : Bool → Prop} {Pf : Int} {Mf : Int} {mf : List Int} {x : Int} {v0 : Int} {v1 : Int} {Bf : Nat} {Af : Option Addr} {nf kf : Nat} (hf : Rd Bf w 1 Af nf kf (is mf)) (hv : V_TowerTransitive Pf Mf mf x v0 v1 Q) :
    Calls Try.prog 14 #[.agg #[.int .i64 Pf, .int .i64 Mf, .slice Af nf kf], .int .i64 x, .agg #[.int .i64 v0, .int .i64 v1]] w fun e w' => ∃ v Qr, e = .returned v ∧ w.grownBy w' none ∧ Rows w.heap.size none w' Qr ∧ News w.heap.size Qr ∧ ∃ (r0 : Bool), v = .bool r0 ∧ Qr = [] ∧ Q r0 := by
  have hnf := hf.ilen
  subst hnf
  refine calls_swap ?_
  refine calls_of_W (vs := [.agg #[.int .i64 Pf, .int .i64 Mf, .slice Af mf.length kf], .int .i64 x, .agg #[.int .i64 v0, .int .i64 v1]]) [6] Try.func14 rfl rfl rfl rfl ?_
  have hS := St.start w
  unfold V_TowerTransitive at hv
  refine W.seq ?_
  refine W.region ?_
  refine SL.box (z := 3) (cs := [.int .i64 Pf, .int .i64 Mf, .slice Af mf.length kf]) hS rfl rfl rfl rfl ?_
  intro g11 w12 hS
  refine SL.box (z := 2) (cs := [.int .i64 v0, .int .i64 v1]) hS rfl rfl rfl rfl ?_
  intro g13 w14 hS
  refine WL.assign rfl rfl ?_
  refine WL.done ?_
  refine W.seq ?_
  refine W.seq ?_
  refine W.region ?_
  refine SL.call hS (ok_alive  hv) Try.func20 rfl Try.nm20 rfl rfl ?_
  rintro _ _ w15 ⟨r16, rfl, rfl, hv⟩ hGw15 hS
  change St _ _ _ _ [.row 31 2 (some ⟨g13, 0, none⟩) 1 1 [.int .i64 v0, .int .i64 v1], .row 24 3 (some ⟨g11, 0, none⟩) 1 1 [.int .i64 Pf, .int .i64 Mf, .slice Af mf.length kf]] at hS
  refine WL.not rfl rfl ?_
  refine WL.done ?_
  refine W.cond2 rfl (fun c17 => ?_) (fun c17 => ?_)
  · have hv := hv.1 (c17)
    refine W.seq ?_
    refine W.region ?_
    refine WL.assign rfl rfl ?_
    refine WL.done ?_
    refine W.ret ?_
    refine ⟨_, rfl, Fin.nil ?_⟩
    exact ⟨_, hS.ext, (hS.pick [] rfl).rows, News.of (hS.pick [] rfl).rows rfl, ⟨false, rfl, rfl, hv⟩⟩
  · have hv := hv.2 (c17)
    refine W.skip ?_
    refine W.seq ?_
    refine W.region ?_
    refine WL.loadV (cs := [.int .i64 Pf, .int .i64 Mf, .slice Af mf.length kf]) Try.el24 Try.agg24 rfl rfl (Own.vcells (hS.own (i := 1) rfl)) rfl ?_
    refine SL.call hS (ok_made (hS.ro hf) hv) Try.func21 rfl Try.nm21 rfl rfl ?_
    rintro _ _ w19 ⟨o, hv, hK⟩ hGw19 hS
    cases o with
    | none =>
      obtain ⟨rfl, rfl⟩ := hK
      change St _ _ _ _ [.row 31 2 (some ⟨g13, 0, none⟩) 1 1 [.int .i64 v0, .int .i64 v1], .row 24 3 (some ⟨g11, 0, none⟩) 1 1 [.int .i64 Pf, .int .i64 Mf, .slice Af mf.length kf]] at hS
      refine WL.assign rfl rfl ?_
      refine WL.done ?_
      refine W.seq ?_
      have hS0 := hS
      refine W.drawX 6 (fun _ => false) (fun _ => none) [⟨[], [5], true⟩, ⟨[0], [], false⟩, ⟨[], [5], true⟩, ⟨[2], [], false⟩, ⟨[1], [], true⟩, ⟨[3], [], true⟩] [[(5, .pointer (some ⟨g13, 0, none⟩))], [], [(5, .pointer (some ⟨g13, 0, none⟩))], [], [], []] (fun iQ => [fun v _ => v = .pointer (some ⟨g13, 0, none⟩), fun v _ => v = .int .i64 v0, fun v _ => v = .pointer (some ((⟨g13, 0, none⟩ : Addr).add 1)), fun v _ => v = .int .i64 v1, fun v _ => v = .int .i64 v0, fun v _ => v = .int .i64 v1].getD iQ (fun _ _ => True)) Try.mixed (by kernel_rfl) ?_ (by kernel_rfl) ?_ ?_
      · refine Vs_monoT _ ?_
        intro VQ hVQ vQ wQ1 wQ2 hQ1 hQ2
        simp only [List.mem_cons, List.not_mem_nil, or_false] at hVQ
        rcases hVQ with rfl | rfl | rfl | rfl | rfl | rfl
        · exact hQ1
        · exact hQ1
        · exact hQ1
        · exact hQ1
        · exact hQ1
        · exact hQ1
      · refine ⟨⟨rfl, ⟨rfl, trivial⟩, ?_⟩, ⟨rfl, trivial, ?_⟩, ⟨rfl, ⟨rfl, trivial⟩, ?_⟩, ⟨rfl, trivial, ?_⟩, ⟨rfl, trivial, ?_⟩, ⟨rfl, trivial, ?_⟩, trivial⟩
        · intro w27 hE
          intro RR
          refine WL.indexP 0 Try.arr31 rfl rfl rfl (by decide) rfl rfl ?_
          exact WL.done ⟨_, rfl, rfl, rfl, (fun h => absurd h (by decide)), (fun j h => by cases h)⟩
        · intro w28 hE
          have hE := hE rfl
          have hS := hS.grow hE
          rintro _ rfl
          intro RR
          refine WL.load Try.underlying3 rfl rfl (Own.vcells (hS.own (i := 0) rfl) 0 _ rfl) rfl ?_
          exact WL.done ⟨_, rfl, ext_refl _, rfl, (fun h => absurd h (by decide)), (fun j h => by cases h)⟩
        · intro w29 hE
          intro RR
          refine WL.indexP 1 Try.arr31 rfl rfl rfl (by decide) rfl rfl ?_
          exact WL.done ⟨_, rfl, rfl, rfl, (fun h => absurd h (by decide)), (fun j h => by cases h)⟩
        · intro w30 hE
          have hE := hE rfl
          have hS := hS.grow hE
          rintro _ rfl
          intro RR
          refine WL.load Try.underlying3 rfl rfl (Own.vcells (hS.own (i := 0) rfl) 1 _ rfl) rfl ?_
          exact WL.done ⟨_, rfl, ext_refl _, rfl, (fun h => absurd h (by decide)), (fun j h => by cases h)⟩
        · intro w31 hE
          rintro _ rfl
          intro RR
          refine WL.assign rfl rfl ?_
          exact WL.done ⟨_, rfl, rfl, rfl, (fun h => absurd h (by decide)), (fun j h => by cases h)⟩
        · intro w32 hE
          rintro _ rfl
          intro RR
          refine WL.assign rfl rfl ?_
          exact WL.done ⟨_, rfl, rfl, rfl, (fun h => absurd h (by decide)), (fun j h => by cases h)⟩
      · intro vals w33 hT hVs hAp hCp
        have hS := hS.grow hT
        have hv0 : vals 0 = _ := hVs 0 (by decide)
        have hv1 : vals 1 = _ := hVs 1 (by decide)
        have hv2 : vals 2 = _ := hVs 2 (by decide)
        have hv3 : vals 3 = _ := hVs 3 (by decide)
        have hv4 : vals 4 = _ := hVs 4 (by decide)
        have hv5 : vals 5 = _ := hVs 5 (by decide)
        rw [show (List.filterMap (fun i => Option.map (fun t => (t, vals i)) (dstAt _ i)) (List.range _)) = [(25, .pointer (some ⟨g13, 0, none⟩)), (26, .int .i64 v0), (27, .pointer (some ((⟨g13, 0, none⟩ : Addr).add 1))), (28, .int .i64 v1), (8, .int .i64 v0), (9, .int .i64 v1)] from by
          show [(25, vals 0), (26, vals 1), (27, vals 2), (28, vals 3), (8, vals 4), (9, vals 5)] = _
          rw [hv0, hv1, hv2, hv3, hv4, hv5]]
        refine WA.done (by decide +kernel) ?_
        refine W.seq ?_
        refine W.seq ?_
        refine W.region ?_
        refine WL.move rfl rfl ?_
        refine WL.eqlPn Try.underlying26 rfl rfl rfl rfl ?_
        refine WL.move rfl rfl ?_
        refine WL.pass rfl rfl rfl ?_
        refine WL.pass rfl rfl rfl ?_
        refine WL.pass rfl rfl rfl ?_
        refine WL.pass rfl rfl rfl ?_
        refine WL.pick rfl rfl rfl ?_
        refine WL.move rfl rfl ?_
        refine WL.pass rfl rfl rfl ?_
        refine WL.pass rfl rfl rfl ?_
        refine WL.pick rfl rfl rfl ?_
        refine WL.move rfl rfl ?_
        refine WL.pass rfl rfl rfl ?_
        refine WL.pass rfl rfl rfl ?_
        refine WL.pass rfl rfl rfl ?_
        refine WL.pick rfl rfl rfl ?_
        refine WL.move rfl rfl ?_
        refine WL.pass rfl rfl rfl ?_
        refine WL.pass rfl rfl rfl ?_
        refine WL.pass rfl rfl rfl ?_
        refine WL.pass rfl rfl rfl ?_
        refine WL.pick rfl rfl rfl ?_
        refine WL.done ?_
        refine W.condT rfl ?_
        refine W.seq ?_
        refine W.region ?_
        refine WL.assign rfl rfl ?_
        refine WL.done ?_
        refine W.ret ?_
        refine ⟨_, rfl, Fin.nil ?_⟩
        exact ⟨_, hS.ext, (hS.pick [] rfl).rows, News.of (hS.pick [] rfl).rows rfl, ⟨true, rfl, rfl, hv⟩⟩
    | some F21 =>
      obtain ⟨ad22, lo23, hi24, rfl, rfl⟩ := hK
      change St _ _ _ _ [.ch lo23 hi24 (fun wz => GFX lo23 hi24 wz ad22 F21), .row 31 2 (some ⟨g13, 0, none⟩) 1 1 [.int .i64 v0, .int .i64 v1], .row 24 3 (some ⟨g11, 0, none⟩) 1 1 [.int .i64 Pf, .int .i64 Mf, .slice Af mf.length kf]] at hS
      refine WL.assign rfl rfl ?_
      refine WL.done ?_
      refine W.seq ?_
      have hS0 := hS
      refine W.drawX 6 (fun _ => false) (fun _ => none) [⟨[], [5], true⟩, ⟨[0], [], false⟩, ⟨[], [5], true⟩, ⟨[2], [], false⟩, ⟨[1], [], true⟩, ⟨[3], [], true⟩] [[(5, .pointer (some ⟨g13, 0, none⟩))], [], [(5, .pointer (some ⟨g13, 0, none⟩))], [], [], []] (fun iQ => [fun v _ => v = .pointer (some ⟨g13, 0, none⟩), fun v _ => v = .int .i64 v0, fun v _ => v = .pointer (some ((⟨g13, 0, none⟩ : Addr).add 1)), fun v _ => v = .int .i64 v1, fun v _ => v = .int .i64 v0, fun v _ => v = .int .i64 v1].getD iQ (fun _ _ => True)) Try.mixed (by kernel_rfl) ?_ (by kernel_rfl) ?_ ?_
      · refine Vs_monoT _ ?_
        intro VQ hVQ vQ wQ1 wQ2 hQ1 hQ2
        simp only [List.mem_cons, List.not_mem_nil, or_false] at hVQ
        rcases hVQ with rfl | rfl | rfl | rfl | rfl | rfl
        · exact hQ1
        · exact hQ1
        · exact hQ1
        · exact hQ1
        · exact hQ1
        · exact hQ1
      · refine ⟨⟨rfl, ⟨rfl, trivial⟩, ?_⟩, ⟨rfl, trivial, ?_⟩, ⟨rfl, ⟨rfl, trivial⟩, ?_⟩, ⟨rfl, trivial, ?_⟩, ⟨rfl, trivial, ?_⟩, ⟨rfl, trivial, ?_⟩, trivial⟩
        · intro w34 hE
          intro RR
          refine WL.indexP 0 Try.arr31 rfl rfl rfl (by decide) rfl rfl ?_
          exact WL.done ⟨_, rfl, rfl, rfl, (fun h => absurd h (by decide)), (fun j h => by cases h)⟩
        · intro w35 hE
          have hE := hE rfl
          have hS := hS.grow hE
          rintro _ rfl
          intro RR
          refine WL.load Try.underlying3 rfl rfl (Own.vcells (hS.own (i := 1) rfl) 0 _ rfl) rfl ?_
          exact WL.done ⟨_, rfl, ext_refl _, rfl, (fun h => absurd h (by decide)), (fun j h => by cases h)⟩
        · intro w36 hE
          intro RR
          refine WL.indexP 1 Try.arr31 rfl rfl rfl (by decide) rfl rfl ?_
          exact WL.done ⟨_, rfl, rfl, rfl, (fun h => absurd h (by decide)), (fun j h => by cases h)⟩
        · intro w37 hE
          have hE := hE rfl
          have hS := hS.grow hE
          rintro _ rfl
          intro RR
          refine WL.load Try.underlying3 rfl rfl (Own.vcells (hS.own (i := 1) rfl) 1 _ rfl) rfl ?_
          exact WL.done ⟨_, rfl, ext_refl _, rfl, (fun h => absurd h (by decide)), (fun j h => by cases h)⟩
        · intro w38 hE
          rintro _ rfl
          intro RR
          refine WL.assign rfl rfl ?_
          exact WL.done ⟨_, rfl, rfl, rfl, (fun h => absurd h (by decide)), (fun j h => by cases h)⟩
        · intro w39 hE
          rintro _ rfl
          intro RR
          refine WL.assign rfl rfl ?_
          exact WL.done ⟨_, rfl, rfl, rfl, (fun h => absurd h (by decide)), (fun j h => by cases h)⟩
      · intro vals w40 hT hVs hAp hCp
        have hS := hS.grow hT
        have hv0 : vals 0 = _ := hVs 0 (by decide)
        have hv1 : vals 1 = _ := hVs 1 (by decide)
        have hv2 : vals 2 = _ := hVs 2 (by decide)
        have hv3 : vals 3 = _ := hVs 3 (by decide)
        have hv4 : vals 4 = _ := hVs 4 (by decide)
        have hv5 : vals 5 = _ := hVs 5 (by decide)
        rw [show (List.filterMap (fun i => Option.map (fun t => (t, vals i)) (dstAt _ i)) (List.range _)) = [(25, .pointer (some ⟨g13, 0, none⟩)), (26, .int .i64 v0), (27, .pointer (some ((⟨g13, 0, none⟩ : Addr).add 1))), (28, .int .i64 v1), (8, .int .i64 v0), (9, .int .i64 v1)] from by
          show [(25, vals 0), (26, vals 1), (27, vals 2), (28, vals 3), (8, vals 4), (9, vals 5)] = _
          rw [hv0, hv1, hv2, hv3, hv4, hv5]]
        refine WA.done (by decide +kernel) ?_
        refine W.seq ?_
        refine W.seq ?_
        refine W.region ?_
        refine WL.move rfl rfl ?_
        refine WL.eqlPn Try.underlying26 rfl rfl rfl rfl ?_
        refine WL.move rfl rfl ?_
        refine WL.take rfl ?_
        refine WL.loadV (cs := [.int .i64 Pf, .int .i64 Mf, .slice Af mf.length kf]) Try.el24 Try.agg24 rfl rfl (Own.vcells (hS.own (i := 2) rfl)) rfl ?_
        refine WL.take rfl ?_
        refine WL.move rfl rfl ?_
        refine WL.take rfl ?_
        refine SL.call hS (ok_tdivides (hS.ro hf) hv) Try.func28 rfl Try.nm28 rfl rfl ?_
        rintro _ _ w41 ⟨r42, rfl, rfl, hv⟩ hGw41 hS
        change St _ _ _ _ [.ch lo23 hi24 (fun wz => GFX lo23 hi24 wz ad22 F21), .row 31 2 (some ⟨g13, 0, none⟩) 1 1 [.int .i64 v0, .int .i64 v1], .row 24 3 (some ⟨g11, 0, none⟩) 1 1 [.int .i64 Pf, .int .i64 Mf, .slice Af mf.length kf]] at hS
        refine WL.take rfl ?_
        refine WL.not rfl rfl ?_
        refine WL.pick rfl rfl rfl ?_
        refine WL.move rfl rfl ?_
        rcases g43 : (!r42) with _ | _
        · have hv := hv.2 g43
          refine WL.take rfl ?_
          refine WL.move rfl rfl ?_
          refine WL.take rfl ?_
          refine WL.lssD rfl rfl rfl ?_
          refine WL.pick rfl rfl rfl ?_
          refine WL.move rfl rfl ?_
          by_cases g44 : v1 < (1 : Int)
          · have hv := hv.1 g44
            rw [decide_eq_true g44]
            refine WL.pass rfl rfl rfl ?_
            refine WL.pass rfl rfl rfl ?_
            refine WL.pass rfl rfl rfl ?_
            refine WL.pick rfl rfl rfl ?_
            refine WL.move rfl rfl ?_
            refine WL.pass rfl rfl rfl ?_
            refine WL.pass rfl rfl rfl ?_
            refine WL.pass rfl rfl rfl ?_
            refine WL.pass rfl rfl rfl ?_
            refine WL.pick rfl rfl rfl ?_
            refine WL.done ?_
            refine W.condT rfl ?_
            refine W.seq ?_
            refine W.region ?_
            refine WL.assign rfl rfl ?_
            refine WL.done ?_
            refine W.ret ?_
            refine ⟨_, rfl, Fin.nil ?_⟩
            exact ⟨_, hS.ext, (hS.pick [] rfl).rows, News.of (hS.pick [] rfl).rows rfl, ⟨true, rfl, rfl, hv⟩⟩
          · have hv := hv.2 g44
            rw [decide_eq_false g44]
            refine WL.take rfl ?_
            refine WL.move rfl rfl ?_
            refine WL.take rfl ?_
            refine WL.move rfl rfl ?_
            refine WL.take rfl ?_
            refine WL.gtrD rfl rfl rfl ?_
            refine WL.pick rfl rfl rfl ?_
            refine WL.move rfl rfl ?_
            by_cases g45 : v0 < v1
            · have hv := hv.1 g45
              rw [decide_eq_true g45]
              refine WL.pass rfl rfl rfl ?_
              refine WL.pass rfl rfl rfl ?_
              refine WL.pass rfl rfl rfl ?_
              refine WL.pass rfl rfl rfl ?_
              refine WL.pick rfl rfl rfl ?_
              refine WL.done ?_
              refine W.condT rfl ?_
              refine W.seq ?_
              refine W.region ?_
              refine WL.assign rfl rfl ?_
              refine WL.done ?_
              refine W.ret ?_
              refine ⟨_, rfl, Fin.nil ?_⟩
              exact ⟨_, hS.ext, (hS.pick [] rfl).rows, News.of (hS.pick [] rfl).rows rfl, ⟨true, rfl, rfl, hv⟩⟩
            · have hv := hv.2 g45
              rw [decide_eq_false g45]
              refine WL.take rfl ?_
              refine WL.move rfl rfl ?_
              refine WL.take rfl ?_
              refine WL.move rfl rfl ?_
              refine WL.take rfl ?_
              obtain ⟨o46, hv⟩ := hv
              refine WL.rem (r := (v0.tmod v1)) rfl rfl o46 rfl rfl ?_
              refine WL.take rfl ?_
              refine WL.neqD rfl rfl rfl ?_
              refine WL.pick rfl rfl rfl ?_
              refine WL.done ?_
              refine W.cond2 rfl (fun c47 => ?_) (fun c47 => ?_)
              · have hv := hv.1 (of_decide_eq_true c47)
                refine W.seq ?_
                refine W.region ?_
                refine WL.assign rfl rfl ?_
                refine WL.done ?_
                refine W.ret ?_
                refine ⟨_, rfl, Fin.nil ?_⟩
                exact ⟨_, hS.ext, (hS.pick [] rfl).rows, News.of (hS.pick [] rfl).rows rfl, ⟨true, rfl, rfl, hv⟩⟩
              · have hv := hv.2 (of_decide_eq_false c47)
                refine W.skip ?_
                refine W.seq ?_
                refine W.region ?_
                refine WL.move rfl rfl ?_
                refine WL.move rfl rfl ?_
                refine WL.move rfl rfl ?_
                refine SL.call hS (ok_trace (GFX.gfr (hS.chunk (i := 0) rfl)) hv) Try.func46 rfl Try.nm46 rfl rfl ?_
                rintro _ _ w48 ⟨r49, r50, rfl, rfl, hv⟩ hGw48 hS
                change St _ _ _ _ [.ch lo23 hi24 (fun wz => GFX lo23 hi24 wz ad22 F21), .row 31 2 (some ⟨g13, 0, none⟩) 1 1 [.int .i64 v0, .int .i64 v1], .row 24 3 (some ⟨g11, 0, none⟩) 1 1 [.int .i64 Pf, .int .i64 Mf, .slice Af mf.length kf]] at hS
                refine WL.move rfl rfl ?_
                refine WL.extract rfl rfl rfl ?_
                refine WL.extract rfl rfl rfl ?_
                refine WL.assign rfl rfl ?_
                refine WL.assign rfl rfl ?_
                refine WL.done ?_
                refine W.seq ?_
                refine W.region ?_
                refine WL.move rfl rfl ?_
                refine WL.move rfl rfl ?_
                refine WL.move rfl rfl ?_
                refine SL.call hS (ok_norm (GFX.gfr (hS.chunk (i := 0) rfl)) hv) Try.func48 rfl Try.nm48 rfl rfl ?_
                rintro _ _ w51 ⟨r52, r53, rfl, rfl, hv⟩ hGw51 hS
                change St _ _ _ _ [.ch lo23 hi24 (fun wz => GFX lo23 hi24 wz ad22 F21), .row 31 2 (some ⟨g13, 0, none⟩) 1 1 [.int .i64 v0, .int .i64 v1], .row 24 3 (some ⟨g11, 0, none⟩) 1 1 [.int .i64 Pf, .int .i64 Mf, .slice Af mf.length kf]] at hS
                refine WL.move rfl rfl ?_
                refine WL.extract rfl rfl rfl ?_
                refine WL.extract rfl rfl rfl ?_
                refine WL.assign rfl rfl ?_
                refine WL.assign rfl rfl ?_
                refine WL.done ?_
                refine W.seq ?_
                refine W.region ?_
                refine WL.assign rfl rfl ?_
                refine WL.assign rfl rfl ?_
                refine WL.done ?_
                refine W.seq ?_
                refine W.seq ?_
                refine W.region ?_
                refine WL.move rfl rfl ?_
                refine WL.move rfl rfl ?_
                obtain ⟨o54, hv⟩ := hv
                refine WL.quo (r := (v0.tdiv v1)) rfl rfl o54.1 (wr o54.2) rfl ?_
                refine WL.move rfl rfl ?_
                refine WL.done ?_
                refine W.block ?_
                obtain ⟨I65, μ66, hv, hk115⟩ := hv
                change St _ _ _ _ [.ch lo23 hi24 (fun wz => GFX lo23 hi24 wz ad22 F21), .row 31 2 (some ⟨g13, 0, none⟩) 1 1 [.int .i64 v0, .int .i64 v1], .row 24 3 (some ⟨g11, 0, none⟩) 1 1 [.int .i64 Pf, .int .i64 Mf, .slice Af mf.length kf]] at hS
                refine W.loop (σ := Int × Int × Int) (fun q w1 => match q with | (z61, z62, z63) => I65 z61 z62 z63 ∧ St TT w none w1 [.ch lo23 hi24 (fun wz => GFX lo23 hi24 wz ad22 F21), .row 31 2 (some ⟨g13, 0, none⟩) 1 1 [.int .i64 v0, .int .i64 v1], .row 24 3 (some ⟨g11, 0, none⟩) 1 1 [.int .i64 Pf, .int .i64 Mf, .slice Af mf.length kf]]) (fun q => match q with | (z61, z62, z63) => [(1, .int .i64 x), (3, .pointer (some ⟨g11, 0, none⟩)), (6, .bool false), (7, .pointer (some ad22)), (9, .int .i64 v1), (10, .int .i64 r49), (12, .int .i64 r52), (14, .int .i64 z61), (15, .int .i64 z62), (68, .int .i64 (v0.tdiv v1)), (69, .int .i64 z63)]) (fun q => match q with | (z61, z62, z63) => μ66 z61 z62 z63) ((0 : Int), (1 : Int), (0 : Int)) ⟨hv, hS⟩ ⟨rfl, rfl, rfl, rfl, rfl, rfl, rfl, rfl, rfl, rfl, rfl, trivial⟩ ?_
                rintro ⟨z61, z62, z63⟩ w67 ⟨hv, hS⟩
                have hv := hk115 z61 z62 z63 hv
                refine W.seq ?_
                refine W.region ?_
                refine WL.lssD rfl rfl rfl ?_
                refine WL.done ?_
                refine W.seq ?_
                refine W.cond2 rfl (fun c68 => ?_) (fun c68 => ?_)
                · have hv := hv.1 (of_decide_eq_true c68)
                  refine W.skip ?_
                  refine W.seq ?_
                  refine W.block ?_
                  refine W.seq ?_
                  refine W.region ?_
                  refine WL.move rfl rfl ?_
                  refine WL.assign rfl rfl ?_
                  refine WL.done ?_
                  refine W.seq ?_
                  obtain ⟨o76, hv⟩ := hv
                  obtain ⟨r78, o80, hv⟩ := hv
                  obtain ⟨r82, o84, hv⟩ := hv
                  have hS0 := hS
                  refine W.drawX 10 (fun _ => false) (fun _ => none) [⟨[], [3], false⟩, ⟨[], [14], true⟩, ⟨[], [3], false⟩, ⟨[], [10], true⟩, ⟨[], [9], true⟩, ⟨[], [16], true⟩, ⟨[4, 5], [], true⟩, ⟨[2, 3, 6], [], false⟩, ⟨[0, 1, 7], [], false⟩, ⟨[8], [], true⟩] [[(3, .pointer (some ⟨g11, 0, none⟩))], [(14, .int .i64 z61)], [(3, .pointer (some ⟨g11, 0, none⟩))], [(10, .int .i64 r49)], [(9, .int .i64 v1)], [(16, .int .i64 z63)], [], [], [], []] (fun iQ => [fun v _ => v = .agg #[.int .i64 Pf, .int .i64 Mf, .slice Af mf.length kf], fun v _ => v = .int .i64 z61, fun v _ => v = .agg #[.int .i64 Pf, .int .i64 Mf, .slice Af mf.length kf], fun v _ => v = .int .i64 r49, fun v _ => v = .int .i64 v1, fun v _ => v = .int .i64 z63, fun v _ => v = .int .i64 (v1 * z63), fun v _ => v = .int .i64 r78, fun v _ => v = .int .i64 r82, fun v _ => v = .int .i64 r82].getD iQ (fun _ _ => True)) Try.mixed (by kernel_rfl) ?_ (by kernel_rfl) ?_ ?_
                  · refine Vs_monoT _ ?_
                    intro VQ hVQ vQ wQ1 wQ2 hQ1 hQ2
                    simp only [List.mem_cons, List.not_mem_nil, or_false] at hVQ
                    rcases hVQ with rfl | rfl | rfl | rfl | rfl | rfl | rfl | rfl | rfl | rfl
                    · exact hQ1
                    · exact hQ1
                    · exact hQ1
                    · exact hQ1
                    · exact hQ1
                    · exact hQ1
                    · exact hQ1
                    · exact hQ1
                    · exact hQ1
                    · exact hQ1
                  · refine ⟨⟨rfl, ⟨rfl, trivial⟩, ?_⟩, ⟨rfl, ⟨rfl, trivial⟩, ?_⟩, ⟨rfl, ⟨rfl, trivial⟩, ?_⟩, ⟨rfl, ⟨rfl, trivial⟩, ?_⟩, ⟨rfl, ⟨rfl, trivial⟩, ?_⟩, ⟨rfl, ⟨rfl, trivial⟩, ?_⟩, ⟨rfl, trivial, ?_⟩, ⟨rfl, trivial, ?_⟩, ⟨rfl, trivial, ?_⟩, ⟨rfl, trivial, ?_⟩, trivial⟩
                    · intro w69 hE
                      have hE := hE rfl
                      have hS := hS.grow hE
                      intro RR
                      refine WL.loadV (cs := [.int .i64 Pf, .int .i64 Mf, .slice Af mf.length kf]) Try.el24 Try.agg24 rfl rfl (Own.vcells (hS.own (i := 2) rfl)) rfl ?_
                      exact WL.done ⟨_, rfl, ext_refl _, rfl, (fun h => absurd h (by decide)), (fun j h => by cases h)⟩
                    · intro w70 hE
                      intro RR
                      refine WL.move rfl rfl ?_
                      exact WL.done ⟨_, rfl, rfl, rfl, (fun h => absurd h (by decide)), (fun j h => by cases h)⟩
                    · intro w71 hE
                      have hE := hE rfl
                      have hS := hS.grow hE
                      intro RR
                      refine WL.loadV (cs := [.int .i64 Pf, .int .i64 Mf, .slice Af mf.length kf]) Try.el24 Try.agg24 rfl rfl (Own.vcells (hS.own (i := 2) rfl)) rfl ?_
                      exact WL.done ⟨_, rfl, ext_refl _, rfl, (fun h => absurd h (by decide)), (fun j h => by cases h)⟩
                    · intro w72 hE
                      intro RR
                      refine WL.move rfl rfl ?_
                      exact WL.done ⟨_, rfl, rfl, rfl, (fun h => absurd h (by decide)), (fun j h => by cases h)⟩
                    · intro w73 hE
                      intro RR
                      refine WL.move rfl rfl ?_
                      exact WL.done ⟨_, rfl, rfl, rfl, (fun h => absurd h (by decide)), (fun j h => by cases h)⟩
                    · intro w74 hE
                      intro RR
                      refine WL.move rfl rfl ?_
                      exact WL.done ⟨_, rfl, rfl, rfl, (fun h => absurd h (by decide)), (fun j h => by cases h)⟩
                    · intro w75 hE
                      rintro _ rfl
                      rintro _ rfl
                      intro RR
                      refine WL.mul (r := (v1 * z63)) rfl rfl (wr o76) rfl ?_
                      exact WL.done ⟨_, rfl, rfl, rfl, (fun h => absurd h (by decide)), (fun j h => by cases h)⟩
                    · intro w77 hE
                      have hE := hE rfl
                      have hS := hS.grow hE
                      rintro _ rfl
                      rintro _ rfl
                      rintro _ rfl
                      intro RR
                      refine WL.call Try.func23 rfl Try.nm23 rfl rfl (calls_un (ok_rfrob (hS.ro hf) o80)) ?_
                      rintro _ w79 ⟨_, hGw79, hRww79, hNww79, r78q, rfl, rfl, he⟩
                      subst he
                      exact WL.done ⟨_, rfl, hGw79, rfl, (fun h => absurd h (by decide)), (fun j h => by cases h)⟩
                    · intro w81 hE
                      have hE := hE rfl
                      have hS := hS.grow hE
                      rintro _ rfl
                      rintro _ rfl
                      rintro _ rfl
                      intro RR
                      refine WL.call Try.func24 rfl Try.nm24 rfl rfl (calls_un (ok_rAdd (hS.ro hf) o84)) ?_
                      rintro _ w83 ⟨_, hGw83, hRww83, hNww83, r82q, rfl, rfl, he⟩
                      subst he
                      exact WL.done ⟨_, rfl, hGw83, rfl, (fun h => absurd h (by decide)), (fun j h => by cases h)⟩
                    · intro w85 hE
                      rintro _ rfl
                      intro RR
                      refine WL.assign rfl rfl ?_
                      exact WL.done ⟨_, rfl, rfl, rfl, (fun h => absurd h (by decide)), (fun j h => by cases h)⟩
                  · intro vals w86 hT hVs hAp hCp
                    have hS := hS.grow hT
                    have hv0 : vals 0 = _ := hVs 0 (by decide)
                    have hv1 : vals 1 = _ := hVs 1 (by decide)
                    have hv2 : vals 2 = _ := hVs 2 (by decide)
                    have hv3 : vals 3 = _ := hVs 3 (by decide)
                    have hv4 : vals 4 = _ := hVs 4 (by decide)
                    have hv5 : vals 5 = _ := hVs 5 (by decide)
                    have hv6 : vals 6 = _ := hVs 6 (by decide)
                    have hv7 : vals 7 = _ := hVs 7 (by decide)
                    have hv8 : vals 8 = _ := hVs 8 (by decide)
                    have hv9 : vals 9 = _ := hVs 9 (by decide)
                    rw [show (List.filterMap (fun i => Option.map (fun t => (t, vals i)) (dstAt _ i)) (List.range _)) = [(72, .agg #[.int .i64 Pf, .int .i64 Mf, .slice Af mf.length kf]), (73, .int .i64 z61), (74, .agg #[.int .i64 Pf, .int .i64 Mf, .slice Af mf.length kf]), (75, .int .i64 r49), (76, .int .i64 v1), (77, .int .i64 z63), (78, .int .i64 (v1 * z63)), (79, .int .i64 r78), (80, .int .i64 r82), (14, .int .i64 r82)] from by
                      show [(72, vals 0), (73, vals 1), (74, vals 2), (75, vals 3), (76, vals 4), (77, vals 5), (78, vals 6), (79, vals 7), (80, vals 8), (14, vals 9)] = _
                      rw [hv0, hv1, hv2, hv3, hv4, hv5, hv6, hv7, hv8, hv9]]
                    refine WA.done (by decide +kernel) ?_
                    obtain ⟨o94, hv⟩ := hv
                    obtain ⟨r96, o98, hv⟩ := hv
                    obtain ⟨r100, o102, hv⟩ := hv
                    have hS0 := hS
                    refine W.drawX 10 (fun _ => false) (fun _ => none) [⟨[], [3], false⟩, ⟨[], [15], true⟩, ⟨[], [3], false⟩, ⟨[], [12], true⟩, ⟨[], [9], true⟩, ⟨[], [16], true⟩, ⟨[4, 5], [], true⟩, ⟨[2, 3, 6], [], false⟩, ⟨[0, 1, 7], [], false⟩, ⟨[8], [], true⟩] [[(3, .pointer (some ⟨g11, 0, none⟩))], [(15, .int .i64 z62)], [(3, .pointer (some ⟨g11, 0, none⟩))], [(12, .int .i64 r52)], [(9, .int .i64 v1)], [(16, .int .i64 z63)], [], [], [], []] (fun iQ => [fun v _ => v = .agg #[.int .i64 Pf, .int .i64 Mf, .slice Af mf.length kf], fun v _ => v = .int .i64 z62, fun v _ => v = .agg #[.int .i64 Pf, .int .i64 Mf, .slice Af mf.length kf], fun v _ => v = .int .i64 r52, fun v _ => v = .int .i64 v1, fun v _ => v = .int .i64 z63, fun v _ => v = .int .i64 (v1 * z63), fun v _ => v = .int .i64 r96, fun v _ => v = .int .i64 r100, fun v _ => v = .int .i64 r100].getD iQ (fun _ _ => True)) Try.mixed (by kernel_rfl) ?_ (by kernel_rfl) ?_ ?_
                    · refine Vs_monoT _ ?_
                      intro VQ hVQ vQ wQ1 wQ2 hQ1 hQ2
                      simp only [List.mem_cons, List.not_mem_nil, or_false] at hVQ
                      rcases hVQ with rfl | rfl | rfl | rfl | rfl | rfl | rfl | rfl | rfl | rfl
                      · exact hQ1
                      · exact hQ1
                      · exact hQ1
                      · exact hQ1
                      · exact hQ1
                      · exact hQ1
                      · exact hQ1
                      · exact hQ1
                      · exact hQ1
                      · exact hQ1
                    · refine ⟨⟨rfl, ⟨rfl, trivial⟩, ?_⟩, ⟨rfl, ⟨rfl, trivial⟩, ?_⟩, ⟨rfl, ⟨rfl, trivial⟩, ?_⟩, ⟨rfl, ⟨rfl, trivial⟩, ?_⟩, ⟨rfl, ⟨rfl, trivial⟩, ?_⟩, ⟨rfl, ⟨rfl, trivial⟩, ?_⟩, ⟨rfl, trivial, ?_⟩, ⟨rfl, trivial, ?_⟩, ⟨rfl, trivial, ?_⟩, ⟨rfl, trivial, ?_⟩, trivial⟩
                      · intro w87 hE
                        have hE := hE rfl
                        have hS := hS.grow hE
                        intro RR
                        refine WL.loadV (cs := [.int .i64 Pf, .int .i64 Mf, .slice Af mf.length kf]) Try.el24 Try.agg24 rfl rfl (Own.vcells (hS.own (i := 2) rfl)) rfl ?_
                        exact WL.done ⟨_, rfl, ext_refl _, rfl, (fun h => absurd h (by decide)), (fun j h => by cases h)⟩
                      · intro w88 hE
                        intro RR
                        refine WL.move rfl rfl ?_
                        exact WL.done ⟨_, rfl, rfl, rfl, (fun h => absurd h (by decide)), (fun j h => by cases h)⟩
                      · intro w89 hE
                        have hE := hE rfl
                        have hS := hS.grow hE
                        intro RR
                        refine WL.loadV (cs := [.int .i64 Pf, .int .i64 Mf, .slice Af mf.length kf]) Try.el24 Try.agg24 rfl rfl (Own.vcells (hS.own (i := 2) rfl)) rfl ?_
                        exact WL.done ⟨_, rfl, ext_refl _, rfl, (fun h => absurd h (by decide)), (fun j h => by cases h)⟩
                      · intro w90 hE
                        intro RR
                        refine WL.move rfl rfl ?_
                        exact WL.done ⟨_, rfl, rfl, rfl, (fun h => absurd h (by decide)), (fun j h => by cases h)⟩
                      · intro w91 hE
                        intro RR
                        refine WL.move rfl rfl ?_
                        exact WL.done ⟨_, rfl, rfl, rfl, (fun h => absurd h (by decide)), (fun j h => by cases h)⟩
                      · intro w92 hE
                        intro RR
                        refine WL.move rfl rfl ?_
                        exact WL.done ⟨_, rfl, rfl, rfl, (fun h => absurd h (by decide)), (fun j h => by cases h)⟩
                      · intro w93 hE
                        rintro _ rfl
                        rintro _ rfl
                        intro RR
                        refine WL.mul (r := (v1 * z63)) rfl rfl (wr o94) rfl ?_
                        exact WL.done ⟨_, rfl, rfl, rfl, (fun h => absurd h (by decide)), (fun j h => by cases h)⟩
                      · intro w95 hE
                        have hE := hE rfl
                        have hS := hS.grow hE
                        rintro _ rfl
                        rintro _ rfl
                        rintro _ rfl
                        intro RR
                        refine WL.call Try.func23 rfl Try.nm23 rfl rfl (calls_un (ok_rfrob (hS.ro hf) o98)) ?_
                        rintro _ w97 ⟨_, hGw97, hRww97, hNww97, r96q, rfl, rfl, he⟩
                        subst he
                        exact WL.done ⟨_, rfl, hGw97, rfl, (fun h => absurd h (by decide)), (fun j h => by cases h)⟩
                      · intro w99 hE
                        have hE := hE rfl
                        have hS := hS.grow hE
                        rintro _ rfl
                        rintro _ rfl
                        rintro _ rfl
                        intro RR
                        refine WL.call Try.func25 rfl Try.nm25 rfl rfl (calls_un (ok_rMul (hS.ro hf) o102)) ?_
                        rintro _ w101 ⟨_, hGw101, hRww101, hNww101, r100q, rfl, rfl, he⟩
                        subst he
                        exact WL.done ⟨_, rfl, hGw101, rfl, (fun h => absurd h (by decide)), (fun j h => by cases h)⟩
                      · intro w103 hE
                        rintro _ rfl
                        intro RR
                        refine WL.assign rfl rfl ?_
                        exact WL.done ⟨_, rfl, rfl, rfl, (fun h => absurd h (by decide)), (fun j h => by cases h)⟩
                    · intro vals w104 hT hVs hAp hCp
                      have hS := hS.grow hT
                      have hv0 : vals 0 = _ := hVs 0 (by decide)
                      have hv1 : vals 1 = _ := hVs 1 (by decide)
                      have hv2 : vals 2 = _ := hVs 2 (by decide)
                      have hv3 : vals 3 = _ := hVs 3 (by decide)
                      have hv4 : vals 4 = _ := hVs 4 (by decide)
                      have hv5 : vals 5 = _ := hVs 5 (by decide)
                      have hv6 : vals 6 = _ := hVs 6 (by decide)
                      have hv7 : vals 7 = _ := hVs 7 (by decide)
                      have hv8 : vals 8 = _ := hVs 8 (by decide)
                      have hv9 : vals 9 = _ := hVs 9 (by decide)
                      rw [show (List.filterMap (fun i => Option.map (fun t => (t, vals i)) (dstAt _ i)) (List.range _)) = [(81, .agg #[.int .i64 Pf, .int .i64 Mf, .slice Af mf.length kf]), (82, .int .i64 z62), (83, .agg #[.int .i64 Pf, .int .i64 Mf, .slice Af mf.length kf]), (84, .int .i64 r52), (85, .int .i64 v1), (86, .int .i64 z63), (87, .int .i64 (v1 * z63)), (88, .int .i64 r96), (89, .int .i64 r100), (15, .int .i64 r100)] from by
                        show [(81, vals 0), (82, vals 1), (83, vals 2), (84, vals 3), (85, vals 4), (86, vals 5), (87, vals 6), (88, vals 7), (89, vals 8), (15, vals 9)] = _
                        rw [hv0, hv1, hv2, hv3, hv4, hv5, hv6, hv7, hv8, hv9]]
                      refine WA.done (by decide +kernel) ?_
                      refine W.region ?_
                      obtain ⟨o105, hv⟩ := hv
                      refine WL.add (r := (z63 + (1 : Int))) rfl rfl (wr o105) rfl ?_
                      refine WL.move rfl rfl ?_
                      refine WL.done ?_
                      change St _ _ _ _ [.ch lo23 hi24 (fun wz => GFX lo23 hi24 wz ad22 F21), .row 31 2 (some ⟨g13, 0, none⟩) 1 1 [.int .i64 v0, .int .i64 v1], .row 24 3 (some ⟨g11, 0, none⟩) 1 1 [.int .i64 Pf, .int .i64 Mf, .slice Af mf.length kf]] at hS
                      exact ⟨(r82, r100, (z63 + (1 : Int))), ⟨rfl, rfl, rfl, rfl, rfl, rfl, rfl, rfl, rfl, rfl, rfl, trivial⟩, hv.2, rfl, hv.1, hS⟩
                · have hv := hv.2 (of_decide_eq_false c68)
                  refine W.exit ?_
                  refine W.seq ?_
                  refine W.region ?_
                  refine WL.move rfl rfl ?_
                  refine WL.move rfl rfl ?_
                  refine WL.move rfl rfl ?_
                  refine SL.call hS (ok_trace (GFX.gfr (hS.chunk (i := 0) rfl)) hv) Try.func46 rfl Try.nm46 rfl rfl ?_
                  rintro _ _ w106 ⟨r107, r108, rfl, rfl, hv⟩ hGw106 hS
                  change St _ _ _ _ [.ch lo23 hi24 (fun wz => GFX lo23 hi24 wz ad22 F21), .row 31 2 (some ⟨g13, 0, none⟩) 1 1 [.int .i64 v0, .int .i64 v1], .row 24 3 (some ⟨g11, 0, none⟩) 1 1 [.int .i64 Pf, .int .i64 Mf, .slice Af mf.length kf]] at hS
                  refine WL.move rfl rfl ?_
                  refine WL.extract rfl rfl rfl ?_
                  refine WL.extract rfl rfl rfl ?_
                  refine WL.assign rfl rfl ?_
                  refine WL.assign rfl rfl ?_
                  refine WL.done ?_
                  refine W.seq ?_
                  refine W.region ?_
                  refine WL.move rfl rfl ?_
                  refine WL.move rfl rfl ?_
                  refine WL.move rfl rfl ?_
                  refine SL.call hS (ok_norm (GFX.gfr (hS.chunk (i := 0) rfl)) hv) Try.func48 rfl Try.nm48 rfl rfl ?_
                  rintro _ _ w109 ⟨r110, r111, rfl, rfl, hv⟩ hGw109 hS
                  change St _ _ _ _ [.ch lo23 hi24 (fun wz => GFX lo23 hi24 wz ad22 F21), .row 31 2 (some ⟨g13, 0, none⟩) 1 1 [.int .i64 v0, .int .i64 v1], .row 24 3 (some ⟨g11, 0, none⟩) 1 1 [.int .i64 Pf, .int .i64 Mf, .slice Af mf.length kf]] at hS
                  refine WL.move rfl rfl ?_
                  refine WL.extract rfl rfl rfl ?_
                  refine WL.extract rfl rfl rfl ?_
                  refine WL.assign rfl rfl ?_
                  refine WL.assign rfl rfl ?_
                  refine WL.done ?_
                  refine W.seq ?_
                  refine W.region ?_
                  refine WL.move rfl rfl ?_
                  refine WL.eqlD rfl rfl rfl ?_
                  refine WL.move rfl rfl ?_
                  by_cases g112 : r108 = (0 : Int)
                  · have hv := hv.1 g112
                    rw [decide_eq_true g112]
                    refine WL.take rfl ?_
                    refine WL.move rfl rfl ?_
                    refine WL.take rfl ?_
                    refine WL.eqlD rfl rfl rfl ?_
                    refine WL.pick rfl rfl rfl ?_
                    refine WL.move rfl rfl ?_
                    by_cases g113 : r111 = (0 : Int)
                    · have hv := hv.1 g113
                      rw [decide_eq_true g113]
                      refine WL.take rfl ?_
                      refine WL.move rfl rfl ?_
                      refine WL.take rfl ?_
                      refine WL.move rfl rfl ?_
                      refine WL.take rfl ?_
                      refine WL.eqlD rfl rfl rfl ?_
                      refine WL.pick rfl rfl rfl ?_
                      refine WL.move rfl rfl ?_
                      by_cases g114 : r107 = z61
                      · have hv := hv.1 g114
                        rw [decide_eq_true g114]
                        refine WL.take rfl ?_
                        refine WL.move rfl rfl ?_
                        refine WL.take rfl ?_
                        refine WL.move rfl rfl ?_
                        refine WL.take rfl ?_
                        refine WL.eqlD rfl rfl rfl ?_
                        refine WL.pick rfl rfl rfl ?_
                        refine WL.assign rfl rfl ?_
                        refine WL.done ?_
                        refine W.ret ?_
                        refine ⟨_, rfl, Fin.nil ?_⟩
                        exact ⟨_, hS.ext, (hS.pick [] rfl).rows, News.of (hS.pick [] rfl).rows rfl, ⟨(decide (r110 = z62)), rfl, rfl, hv⟩⟩
                      · have hv := hv.2 g114
                        rw [decide_eq_false g114]
                        refine WL.pass rfl rfl rfl ?_
                        refine WL.pass rfl rfl rfl ?_
                        refine WL.pass rfl rfl rfl ?_
                        refine WL.pick rfl rfl rfl ?_
                        refine WL.assign rfl rfl ?_
                        refine WL.done ?_
                        refine W.ret ?_
                        refine ⟨_, rfl, Fin.nil ?_⟩
                        exact ⟨_, hS.ext, (hS.pick [] rfl).rows, News.of (hS.pick [] rfl).rows rfl, ⟨false, rfl, rfl, hv⟩⟩
                    · have hv := hv.2 g113
                      rw [decide_eq_false g113]
                      refine WL.pass rfl rfl rfl ?_
                      refine WL.pass rfl rfl rfl ?_
                      refine WL.pass rfl rfl rfl ?_
                      refine WL.pick rfl rfl rfl ?_
                      refine WL.move rfl rfl ?_
                      refine WL.pass rfl rfl rfl ?_
                      refine WL.pass rfl rfl rfl ?_
                      refine WL.pass rfl rfl rfl ?_
                      refine WL.pick rfl rfl rfl ?_
                      refine WL.assign rfl rfl ?_
                      refine WL.done ?_
                      refine W.ret ?_
                      refine ⟨_, rfl, Fin.nil ?_⟩
                      exact ⟨_, hS.ext, (hS.pick [] rfl).rows, News.of (hS.pick [] rfl).rows rfl, ⟨false, rfl, rfl, hv⟩⟩
                  · have hv := hv.2 g112
                    rw [decide_eq_false g112]
                    refine WL.pass rfl rfl rfl ?_
                    refine WL.pass rfl rfl rfl ?_
                    refine WL.pick rfl rfl rfl ?_
                    refine WL.move rfl rfl ?_
                    refine WL.pass rfl rfl rfl ?_
                    refine WL.pass rfl rfl rfl ?_
                    refine WL.pass rfl rfl rfl ?_
                    refine WL.pick rfl rfl rfl ?_
                    refine WL.move rfl rfl ?_
                    refine WL.pass rfl rfl rfl ?_
                    refine WL.pass rfl rfl rfl ?_
                    refine WL.pass rfl rfl rfl ?_
                    refine WL.pick rfl rfl rfl ?_
                    refine WL.assign rfl rfl ?_
                    refine WL.done ?_
                    refine W.ret ?_
                    refine ⟨_, rfl, Fin.nil ?_⟩
                    exact ⟨_, hS.ext, (hS.pick [] rfl).rows, News.of (hS.pick [] rfl).rows rfl, ⟨false, rfl, rfl, hv⟩⟩
        · have hv := hv.1 g43
          refine WL.pass rfl rfl rfl ?_
          refine WL.pass rfl rfl rfl ?_
          refine WL.pick rfl rfl rfl ?_
          refine WL.move rfl rfl ?_
          refine WL.pass rfl rfl rfl ?_
          refine WL.pass rfl rfl rfl ?_
          refine WL.pass rfl rfl rfl ?_
          refine WL.pick rfl rfl rfl ?_
          refine WL.move rfl rfl ?_
          refine WL.pass rfl rfl rfl ?_
          refine WL.pass rfl rfl rfl ?_
          refine WL.pass rfl rfl rfl ?_
          refine WL.pass rfl rfl rfl ?_
          refine WL.pick rfl rfl rfl ?_
          refine WL.done ?_
          refine W.condT rfl ?_
          refine W.seq ?_
          refine W.region ?_
          refine WL.assign rfl rfl ?_
          refine WL.done ?_
          refine W.ret ?_
          refine ⟨_, rfl, Fin.nil ?_⟩
          exact ⟨_, hS.ext, (hS.pick [] rfl).rows, News.of (hS.pick [] rfl).rows rfl, ⟨true, rfl, rfl, hv⟩⟩

end Go.Proofs.Ythjpminlkcklgaa
set_option linter.unusedVariables false
set_option linter.unusedSimpArgs false
namespace Go.Proofs.Ythjpminlkcklgaa
section
variable {P M : Int} {mf : List Int} {p m v : Nat}
end
section
variable {P M : Int} {mf : List Int} {p m v : Nat}
theorem v_rPow (F : FV P M mf p m v) {x n : Int} {Q : Int × Int → Prop} (h0 : inE (p ^ m) x = 0 → Q (if n = 0 then (1, 0) else if n < 0 then (0, 7) else (0, 0)))
    (h1 : inE (p ^ m) x ≠ 0 → Q (((pw (fmul p m (dv p v)) (inE (p ^ m) x) (n % (((p ^ m : Nat) : Int) - 1)).toNat : Nat) : Int), 0)) (hn : I64 n) : V_rPow P M mf x n Q := by
  have hq := F.q
  have R := F.ring
  have hq2 := R.q2
  have hlt := inE_lt R.pos x
  refine v_rIn F ⟨fun hn0 => ?_, fun hn0 => ⟨fun hz => ⟨fun hneg => ?_, fun hpos => ?_⟩, fun hz => v_rOrder ?_⟩⟩
  · by_cases hz : inE (p ^ m) x = 0
    · have := h0 hz; rwa [if_pos hn0] at this
    · have := h1 hz
      rw [hn0, Int.zero_emod] at this
      exact this
  · have := h0 (by omega); rwa [if_neg hn0, if_pos hneg] at this
  · have := h0 (by omega); rwa [if_neg hn0, if_neg hpos] at this
  · rw [F.ord]
    have h1 := h1 (by omega)
    generalize inE (p ^ m) x = a at *
    generalize hqq : p ^ m = q at *
    have hk : (0 : Int) < (q : Int) - 1 := by omega
    have t1 := Int.tmod_lt_of_pos n hk
    have t2 := Int.lt_tmod_of_pos n hk
    have e1 := Int.emod_nonneg n (show (q : Int) - 1 ≠ 0 by omega)
    have e2 := Int.emod_lt_of_pos n hk
    rw [modk hk]
    refine ⟨small (by omega) (by omega), by omega, small (by omega) (by omega), by omega, ?_⟩
    obtain ⟨e, he⟩ := Int.eq_ofNat_of_zero_le e1
    rw [he] at h1 ⊢
    rw [Int.toNat_natCast] at h1
    refine ⟨fun z i => ∃ k : Nat, i = k ∧ k ≤ e ∧ z = ((pw (fmul p m (dv p v)) a k : Nat) : Int), fun z i => (e - i).toNat, ⟨0, rfl, Nat.zero_le _, rfl⟩, ?_⟩
    rintro _ _ ⟨k, rfl, hk2, rfl⟩
    dsimp only
    refine ⟨fun hltk => v_rMul F ?_, fun hge => ?_⟩
    · rw [hqq, inE_nat (R.pw_lt a k), inE_nat hlt]
      exact ⟨small (by omega) (by omega), ⟨k + 1, by push_cast; rfl, by omega, rfl⟩, by omega⟩
    · rw [show k = e by omega]; exact h1
end
end Go.Proofs.Ythjpminlkcklgaa
set_option linter.unusedVariables false
namespace Go.Proofs.Ythjpminlkcklgaa
namespace Cm
variable {q e : Nat} {o : Nat → Nat → Nat} (C : Cm q o e)
include C
end Cm
section
variable {q g p m : Nat} {A M : Nat → Nat → Nat}
/-- Through a subfield between. -/
theorem trc_tr (R : CR q A M) (G : Gn q M g) (hp : IsLf p p) (hp0 : 0 < p) (hch : ∀ x, x < q → ns A x p = 0) {x : Nat} (hx : x < q) (e s t : Nat) : trc A M p e (s * t) x = sO A 0 (fun b => pw M (trc A M p (e * s) t x) (p ^ (e * b))) s := by
  have h : ∀ b, pw M (trc A M p (e * s) t x) (p ^ (e * b)) = sO A 0 (fun a => pw M x (p ^ (e * (s * a + b)))) t := fun b => by
    rw [trc_fr R G hp hp0 hch hx]
    exact sO_congr t fun i _ => by rw [R.fr_comp hx, Nat.mul_add, Nat.mul_assoc, Nat.add_comm]
  rw [sO_congr s fun b _ => h b]
  exact R.add.block (f := fun i => pw M x (p ^ (e * i))) (fun i => R.pw_lt x _) s t
theorem nrm_tr (R : CR q A M) {x : Nat} (hx : x < q) (e s t : Nat) : nrm M p e (s * t) x = sO M 1 (fun b => pw M (nrm M p (e * s) t x) (p ^ (e * b))) s := by
  have h : ∀ b, pw M (nrm M p (e * s) t x) (p ^ (e * b)) = sO M 1 (fun a => pw M x (p ^ (e * (s * a + b)))) t := fun b => by
    rw [nrm_fr R hx]
    exact sO_congr t fun i _ => by rw [R.fr_comp hx, Nat.mul_add, Nat.mul_assoc, Nat.add_comm]
  rw [sO_congr s fun b _ => h b]
  exact R.mul.block (f := fun i => pw M x (p ^ (e * i))) (fun i => R.pw_lt x _) s t
end
end Go.Proofs.Ythjpminlkcklgaa
set_option linter.unusedVariables false
set_option linter.unusedSimpArgs false
namespace Go.Proofs.Ythjpminlkcklgaa
section
variable {F : GFv} {p m v g : Nat} {P M : Int} {mf : List Int}
theorem w_rPowP {n : Nat} {x : Int} {Q : Int × Int → Prop} (K : GFk F p m v g) (hF : FV P M mf p m v) (hn0 : 0 < n) (hn : n ≤ 1000) (h : Q (((pw (fmul p m (dv p v)) (inE (p ^ m) x) n : Nat) : Int), 0)) : V_rPow P M mf x n Q := by
  have R := K.fv.ring
  have hq2 := R.q2
  refine v_rPow hF (fun h0 => ?_) (fun h1 => ?_) (smallN (by omega))
  · rw [if_neg (by omega), if_neg (by omega)]
    rw [h0, R.zero_pw hn0] at h; exact h
  · have e : ((n : Int) % (((p ^ m : Nat) : Int) - 1)).toNat = n % (p ^ m - 1) := by
      rw [show ((p ^ m : Nat) : Int) - 1 = ((p ^ m - 1 : Nat) : Int) by omega]; rfl
    rw [e, K.G.xmod R (Nat.pos_of_ne_zero h1) (inE_lt R.pos x)]; exact h
theorem w_rfrob {x : Int} {c : Nat} {Q : Int → Prop} (K : GFk F p m v g) (hF : FV P M mf p m v) (hc : c ≤ 1000000) (h : Q ((pw (fmul p m (dv p v)) (inE (p ^ m) x) (p ^ c) : Nat) : Int)) : V_rfrob P M mf x (c : Int) Q := by
  have R := K.fv.ring
  have hx := inE_lt R.pos x
  have hp := hF.p2
  have hp256 := hF.p256
  refine v_rIn hF ⟨fun z i => ∃ n : Nat, i = n ∧ n ≤ c ∧ z = ((pw (fmul p m (dv p v)) (inE (p ^ m) x) (p ^ n) : Nat) : Int), fun z i => (c - i).toNat, ⟨0, rfl, Nat.zero_le _, by rw [R.fr_zero hx]⟩, ?_⟩
  rintro _ _ ⟨n, rfl, hn, rfl⟩
  refine ⟨fun hlt => ?_, fun hge => ?_⟩
  · rw [show P = (p : Int) from hF.eP]
    have hF' : FV (p : Int) M mf p m v := by have := hF; rwa [hF.eP] at this
    refine w_rPowP K hF' (by omega) (by omega) ?_
    rw [inE_nat (R.pw_lt _ _), R.fr_succ hx]
    exact ⟨small (by omega) (by omega), ⟨n + 1, by push_cast; rfl, by omega, rfl⟩, by show ((c : Int) - ((n : Int) + 1)).toNat < ((c : Int) - (n : Int)).toNat; omega⟩
  · obtain rfl : n = c := by omega
    exact h
end
end Go.Proofs.Ythjpminlkcklgaa
set_option linter.unusedVariables false
set_option linter.unusedSimpArgs false
namespace Go.Proofs.Ythjpminlkcklgaa
section
variable {F : GFv} {p m v g : Nat} {P M : Int} {mf : List Int}
theorem trc_lt (R : CR (p ^ m) (fadd p m) (fmul p m (dv p v))) (d t x : Nat) : trc (fadd p m) (fmul p m (dv p v)) p d t x < p ^ m := R.add.lt _ _
end
end Go.Proofs.Ythjpminlkcklgaa
set_option linter.unusedVariables false
set_option linter.unusedSimpArgs false
namespace Go.Proofs.Ythjpminlkcklgaa
section
variable {F : GFv} {p m v g : Nat} {P M : Int} {mf : List Int}
theorem law_TowerTransitive (x d e : Int) : V_TowerTransitive P M mf x d e (fun b => b = true) := by
  refine w_alive (nb (w_made (fun _ => rfl) fun F p m v g K hF => ?_))
  have R := hF.ring
  have hx := inE_lt R.pos x
  have hp := hF.p2
  have hm8 := hF.m8
  refine w_tdivides hF (fun c t h1 hc hm => nb ?_) fun hn => nf rfl
  subst h1
  have hcm := cm_le hF.m0 hm
  refine ⟨fun _ => rfl, fun he1 => ⟨fun _ => rfl, fun he2 => ⟨by omega, ?_⟩⟩⟩
  obtain ⟨b, rfl⟩ := Int.eq_ofNat_of_zero_le (show 0 ≤ e by omega)
  rw [tmodN c b]
  refine ⟨fun _ => rfl, fun hd => ?_⟩
  have hb : 0 < b := by omega
  have hcb : c = b * (c / b) := IsD.of hb (by omega)
  generalize hs : c / b = s at hcb
  have hm2 : m = b * (s * t) := by rw [hm, hcb, Nat.mul_assoc]
  have hbs := cm_le hF.m0 hm2
  have hcs : s ≤ c := by rw [hcb]; exact Nat.le_mul_of_pos_left _ hb
  have hct : ∀ c' t' : Nat, (c : Int) = c' → m = c' * t' → c' = c ∧ t' = t := fun c' t' e h2 => by
    obtain rfl : c' = c := by omega
    exact ⟨rfl, Nat.eq_of_mul_eq_mul_left hc (h2.symm.trans hm)⟩
  have hbt : ∀ c' t' : Nat, (b : Int) = c' → m = c' * t' → c' = b ∧ t' = s * t := fun c' t' e h2 => by
    obtain rfl : c' = b := by omega
    exact ⟨rfl, Nat.eq_of_mul_eq_mul_left hb (h2.symm.trans hm2)⟩
  refine w_trace K (fun hn => absurd ⟨c, t, rfl, hc, hm⟩ hn) fun c1 t1 e1 _ h11 => ?_
  obtain ⟨rfl, rfl⟩ := hct c1 t1 e1 h11
  refine w_norm K (fun hn => absurd ⟨c1, t1, rfl, hc, hm⟩ hn) fun c2 t2 e2 _ h22 => ?_
  obtain ⟨rfl, rfl⟩ := hct c2 t2 e2 h22
  have eq1 : ((c2 : Nat) : Int).tdiv (b : Int) = (s : Int) := by rw [tdivN c2 b, hs]
  dsimp only
  rw [eq1]
  refine ⟨⟨by omega, small (by omega) (by omega)⟩, fun z y i => ∃ j : Nat, i = j ∧ j ≤ s ∧ z = ((sO (fadd p m) 0 (fun i => pw (fmul p m (dv p v)) (trc (fadd p m) (fmul p m (dv p v)) p c2 t2 (inE (p ^ m) x)) (p ^ (b * i))) j : Nat) : Int) ∧ y = ((sO (fmul p m (dv p v)) 1 (fun i => pw (fmul p m (dv p v)) (nrm (fmul p m (dv p v)) p c2 t2 (inE (p ^ m) x)) (p ^ (b * i))) j : Nat) : Int), fun z y i => (s - i).toNat, ⟨0, rfl, Nat.zero_le _, rfl, rfl⟩, ?_⟩
  rintro _ _ _ ⟨j, rfl, hj, rfl, rfl⟩
  dsimp only
  have ecj : (b : Int) * (j : Int) = ((b * j : Nat) : Int) := by push_cast; rfl
  have hbj : b * j ≤ c2 := by rw [hcb]; exact Nat.mul_le_mul_left _ hj
  refine ⟨fun hlt => ?_, fun hge => ?_⟩
  · rw [ecj]
    refine ⟨small (by omega) (by omega), _, w_rfrob K hF (by omega) rfl, _, v_rAdd hF rfl, small (by omega) (by omega), _, w_rfrob K hF (by omega) rfl, _, v_rMul hF rfl, small (by omega) (by omega), ⟨j + 1, by push_cast; rfl, by omega, ?_, ?_⟩, by omega⟩
    · rw [inE_nat (R.add.lt _ _), inE_nat (R.pw_lt _ _), inE_nat (trc_lt R _ _ _)]; rfl
    · rw [inE_nat (R.mul.lt _ _), inE_nat (R.pw_lt _ _), inE_nat (nrm_lt R _ _ _)]; rfl
  · obtain rfl : j = s := by omega
    refine w_trace K (fun hn => absurd ⟨b, j * t2, rfl, hb, hm2⟩ hn) fun c3 t3 e3 _ h33 => ?_
    obtain ⟨rfl, rfl⟩ := hbt c3 t3 e3 h33
    refine w_norm K (fun hn => absurd ⟨c3, j * t2, rfl, hb, hm2⟩ hn) fun c4 t4 e4 _ h44 => ?_
    obtain ⟨rfl, rfl⟩ := hbt c4 t4 e4 h44
    have h1 := trc_tr R K.G hF.pr (by omega) (chz hF) hx c4 j t2
    have h2 := nrm_tr (p := p) R hx c4 j t2
    rw [← hcb] at h1 h2
    refine ⟨fun _ => ⟨fun _ => ⟨fun _ => decide_eq_true ?_, fun hne => absurd ?_ hne⟩, fun hne => absurd rfl hne⟩, fun hne => absurd rfl hne⟩
    · rw [h2]
    · rw [h1]
end
end Go.Proofs.Ythjpminlkcklgaa
