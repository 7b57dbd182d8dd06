/- The rules of single operations. -/
import Derived.Test.YthfpcebcfjlkmabCore
namespace Go.Proofs.Ythfpcebcfjlkmab
open Go.RowKit

section
variable {P : Program} {n : Nat} {N : Post} {L : Fr} {w : World} {ops : Array Oper} {rest : List Oper}
variable {d : Nat} {ty : TypeId} {pos : String} {af : Array Edge}

theorem WL.done (h : N L w) : WL P n ops [] N L w := ⟨fun _ ha _ => ⟨_, ha, h⟩⟩

theorem wanted_none {o : Oper} (hg : o.guard = none) (y : Nat → Option Bool) : Region.wanted o y = true := by simp [Region.wanted, hg]

/-- An operation that yields a value, in whatever frame of which L is known. -/
theorem WL.val {o : Oper} {v : Value} {w' : World} (hg : o.guard = none) (hd : o.dst = some d) (hn : Nat.blt d n = true)
    (hr : ∀ a, Has n a L → (execOp a.eval o).run P w = .ok (.value v) w') (h : WL P n ops rest N ((d, v) :: L) w') : WL P n ops (o :: rest) N L w := by
  refine ⟨fun a ha B => wpList_plain hg fun K hK => ?_⟩
  unfold Oper.wp
  rw [hr a ha, Oper.upon_value, hd]
  exact hK _ _ (h.out _ (ha.put (by simpa [Nat.blt_eq] using hn) v) B)
/-- An operation that yields no value. -/
theorem WL.act {o : Oper} {w' : World} (hg : o.guard = none) (hd : o.dst = none)
    (hr : ∀ a, Has n a L → (execOp a.eval o).run P w = .ok .skip w') (h : WL P n ops rest N L w') : WL P n ops (o :: rest) N L w := by
  refine ⟨fun a ha B => wpList_plain hg fun K hK => ?_⟩
  unfold Oper.wp
  rw [hr a ha, Oper.upon_skip, hd]
  exact hK _ _ (h.out _ ha B)
/-- The call of a Go function. -/
theorem WL.enter {o : Oper} {f : FuncId} {args : Array Value} {R : Value → World → Prop} (hg : o.guard = none) (hd : o.dst = some d) (hn : Nat.blt d n = true)
    (hr : ∀ a, Has n a L → (execOp a.eval o).run P w = .ok (.enter f args) w)
    (hc : Calls P f args w fun e w' => ∃ v, e = .returned v ∧ R v w') (h : ∀ v w', R v w' → WL P n ops rest N ((d, v) :: L) w') : WL P n ops (o :: rest) N L w := by
  refine ⟨fun a ha B => wpList_plain hg fun K hK => ?_⟩
  unfold Oper.wp
  rw [hr a ha, Oper.upon_enter]
  refine hc.mono fun e w' ⟨v, he, hv⟩ => ?_
  subst he
  show K (a.put o.dst v) w'
  rw [hd]
  exact hK _ _ ((h v w' hv).out _ (ha.put (by simpa [Nat.blt_eq] using hn) v) B)

/-- A guard that says no. -/
theorem WL.pass {op : Op} {j : Nat} {want b : Bool} (hb : ((ops[j]?).bind (·.dst)).bind (lk L) = some (.bool b)) (hne : (b == want) = false) (hn : Nat.blt d n = true)
    (h : WL P n ops rest N ((d, undef) :: L) w) : WL P n ops (⟨some d, op, ty, pos, af, some (j, want)⟩ :: rest) N L w := by
  refine ⟨fun a ha B => ?_⟩
  have hy : yielded ops a.tmps j = some b := by
    unfold yielded
    cases hj : (ops[j]?).bind (·.dst) with
    | none => rw [hj] at hb; cases hb
    | some t => rw [hj] at hb; simp only [Option.bind_some] at hb ⊢; rw [ha.at_ t _ hb]
  refine wpList_skip ?_ (h.out _ (ha.put (by simpa [Nat.blt_eq] using hn) _) B)
  simp only [Region.wanted, hy]
  revert hne; cases b <;> cases want <;> simp
/-- A guard on an operation that was passed over. -/
theorem WL.passU {op : Op} {j : Nat} {want : Bool} (hb : ((ops[j]?).bind (·.dst)).bind (lk L) = some undef) (hn : Nat.blt d n = true)
    (h : WL P n ops rest N ((d, undef) :: L) w) : WL P n ops (⟨some d, op, ty, pos, af, some (j, want)⟩ :: rest) N L w := by
  refine ⟨fun a ha B => ?_⟩
  have hy : yielded ops a.tmps j = none := by
    unfold yielded
    cases hj : (ops[j]?).bind (·.dst) with
    | none => rw [hj] at hb; cases hb
    | some t => rw [hj] at hb; simp only [Option.bind_some] at hb ⊢; rw [ha.at_ t _ hb]; rfl
  refine wpList_skip ?_ (h.out _ (ha.put (by simpa [Nat.blt_eq] using hn) _) B)
  simp only [Region.wanted, hy]
  rfl
/-- A guard that says yes: the operation is as if it had none. -/
theorem WL.take {op : Op} {j : Nat} {want : Bool} (hb : ((ops[j]?).bind (·.dst)).bind (lk L) = some (.bool want)) 
    (h : WL P n ops (⟨some d, op, ty, pos, af, none⟩ :: rest) N L w) : WL P n ops (⟨some d, op, ty, pos, af, some (j, want)⟩ :: rest) N L w := by
  refine ⟨fun a ha B => ?_⟩
  have hy : yielded ops a.tmps j = some want := by
    unfold yielded
    cases hj : (ops[j]?).bind (·.dst) with
    | none => rw [hj] at hb; cases hb
    | some t => rw [hj] at hb; simp only [Option.bind_some] at hb ⊢; rw [ha.at_ t _ hb]
  have h1 := h.out a ha B
  unfold wpList at h1 ⊢
  rw [if_pos (by simp [Region.wanted])] at h1
  rw [if_pos (by simp [Region.wanted, hy])]
  exact h1

theorem WL.move {x : Operand} {v : Value} (hx : ev L x = some v) (hn : Nat.blt d n = true) (h : WL P n ops rest N ((d, v) :: L) w) :
    WL P n ops (⟨some d, .move x, ty, pos, af, none⟩ :: rest) N L w :=
  WL.val rfl rfl hn (fun a ha => by simp [execOp, ha.ev hx]) h
theorem WL.assign {x : Operand} {v : Value} (hx : ev L x = some v) (hn : Nat.blt d n = true) (h : WL P n ops rest N ((d, v) :: L) w) :
    WL P n ops (⟨some d, .assign x, ty, pos, af, none⟩ :: rest) N L w :=
  WL.val rfl rfl hn (fun a ha => by simp [execOp, ha.ev hx]) h
theorem WL.pick {c x y : Operand} {b : Bool} {v : Value} (hc : ev L c = some (.bool b)) (hx : ev L (bif b then x else y) = some v) (hn : Nat.blt d n = true) (h : WL P n ops rest N ((d, v) :: L) w) :
    WL P n ops (⟨some d, .pick c x y, ty, pos, af, none⟩ :: rest) N L w :=
  WL.val rfl rfl hn (fun a ha => by have hx' := ha.ev hx; cases b <;> simp [execOp, ha.ev hc, asBool] <;> exact hx') h
theorem WL.extract {x : Operand} {vs : Array Value} {i : Nat} {v : Value} (hx : ev L x = some (.tuple vs)) (hv : vs[i]? = some v) (hn : Nat.blt d n = true) (h : WL P n ops rest N ((d, v) :: L) w) :
    WL P n ops (⟨some d, .extract x i, ty, pos, af, none⟩ :: rest) N L w :=
  WL.val rfl rfl hn (fun a ha => by simp [execOp, ha.ev hx, Instr.extract, hv]) h
theorem WL.add {x y : Operand} {k : IntKind} {a b r : Int} {tx tb : TypeId} (hx : ev L x = some (.int k a)) (hy : ev L y = some (.int k b)) (hr : k.wrap (a + b) = r) (hn : Nat.blt d n = true) (h : WL P n ops rest N ((d, .int k r) :: L) w) :
    WL P n ops (⟨some d, .binOp .add tx x y tb, ty, pos, af, none⟩ :: rest) N L w :=
  WL.val rfl rfl hn (fun a ha => by simp [execOp, eqGuard, binOp, Op.intArith, ha.ev hx, ha.ev hy, hr]) h
theorem WL.sub {x y : Operand} {k : IntKind} {a b r : Int} {tx tb : TypeId} (hx : ev L x = some (.int k a)) (hy : ev L y = some (.int k b)) (hr : k.wrap (a - b) = r) (hn : Nat.blt d n = true) (h : WL P n ops rest N ((d, .int k r) :: L) w) :
    WL P n ops (⟨some d, .binOp .sub tx x y tb, ty, pos, af, none⟩ :: rest) N L w :=
  WL.val rfl rfl hn (fun a ha => by simp [execOp, eqGuard, binOp, Op.intArith, ha.ev hx, ha.ev hy, hr]) h
theorem WL.mul {x y : Operand} {k : IntKind} {a b r : Int} {tx tb : TypeId} (hx : ev L x = some (.int k a)) (hy : ev L y = some (.int k b)) (hr : k.wrap (a * b) = r) (hn : Nat.blt d n = true) (h : WL P n ops rest N ((d, .int k r) :: L) w) :
    WL P n ops (⟨some d, .binOp .mul tx x y tb, ty, pos, af, none⟩ :: rest) N L w :=
  WL.val rfl rfl hn (fun a ha => by simp [execOp, eqGuard, binOp, Op.intArith, ha.ev hx, ha.ev hy, hr]) h
theorem WL.quo {x y : Operand} {k : IntKind} {a b r : Int} {tx tb : TypeId} (hx : ev L x = some (.int k a)) (hy : ev L y = some (.int k b)) (h0 : b ≠ 0) (hr : k.wrap (a.tdiv b) = r) (hn : Nat.blt d n = true) (h : WL P n ops rest N ((d, .int k r) :: L) w) :
    WL P n ops (⟨some d, .binOp .quo tx x y tb, ty, pos, af, none⟩ :: rest) N L w :=
  WL.val rfl rfl hn (fun a ha => by simp [execOp, eqGuard, binOp, Op.intDiv, ha.ev hx, ha.ev hy, hr, h0]) h
theorem WL.rem {x y : Operand} {k : IntKind} {a b r : Int} {tx tb : TypeId} (hx : ev L x = some (.int k a)) (hy : ev L y = some (.int k b)) (h0 : b ≠ 0) (hr : a.tmod b = r) (hn : Nat.blt d n = true) (h : WL P n ops rest N ((d, .int k r) :: L) w) :
    WL P n ops (⟨some d, .binOp .rem tx x y tb, ty, pos, af, none⟩ :: rest) N L w :=
  WL.val rfl rfl hn (fun a ha => by simp [execOp, eqGuard, binOp, Op.intDiv, ha.ev hx, ha.ev hy, hr, h0]) h
theorem WL.bits {op : BinOp} {x y : Operand} {k : IntKind} {a b r : Int} {tx tb : TypeId} (hx : ev L x = some (.int k a)) (hy : ev L y = some (.int k b)) (ho : op = .and ∨ op = .or ∨ op = .xor ∨ op = .andNot)
    (hr : (Op.intBits op k a b).run P w = .ok (.int k r) w) (hn : Nat.blt d n = true) (h : WL P n ops rest N ((d, .int k r) :: L) w) :
    WL P n ops (⟨some d, .binOp op tx x y tb, ty, pos, af, none⟩ :: rest) N L w :=
  WL.val rfl rfl hn (fun a ha => by rcases ho with rfl | rfl | rfl | rfl <;> simp [execOp, eqGuard, binOp, ha.ev hx, ha.ev hy, hr]) h
theorem WL.shl {x y : Operand} {k ky : IntKind} {a b r : Int} {tx tb : TypeId} (hx : ev L x = some (.int k a)) (hy : ev L y = some (.int ky b)) (h0 : 0 ≤ b) (hr : k.wrap (a * 2 ^ min b.toNat k.bits) = r) (hn : Nat.blt d n = true) (h : WL P n ops rest N ((d, .int k r) :: L) w) :
    WL P n ops (⟨some d, .binOp .shl tx x y tb, ty, pos, af, none⟩ :: rest) N L w :=
  WL.val rfl rfl hn (fun a ha => by simp [execOp, eqGuard, binOp, Op.shift, ha.ev hx, ha.ev hy, hr, show ¬ b < 0 by omega]) h
theorem WL.shr {x y : Operand} {k ky : IntKind} {a b r : Int} {tx tb : TypeId} (hx : ev L x = some (.int k a)) (hy : ev L y = some (.int ky b)) (h0 : 0 ≤ b) (hr : a.fdiv (2 ^ min b.toNat k.bits) = r) (hn : Nat.blt d n = true) (h : WL P n ops rest N ((d, .int k r) :: L) w) :
    WL P n ops (⟨some d, .binOp .shr tx x y tb, ty, pos, af, none⟩ :: rest) N L w :=
  WL.val rfl rfl hn (fun a ha => by simp [execOp, eqGuard, binOp, Op.shift, ha.ev hx, ha.ev hy, hr, show ¬ b < 0 by omega]) h
theorem cmp_run {op : BinOp} {k : IntKind} {a b : Int} {tx : TypeId} {x y : Operand} {r : Bool} (hr : (Op.intCmp op a b).run P w = .ok (.bool r) w) (ho : op = .eql ∨ op = .neq ∨ op = .lss ∨ op = .leq ∨ op = .gtr ∨ op = .geq) :
    (do eqGuard op tx x y (.int k a) (.int k b); binOp op tx (.int k a) (.int k b)).run P w = .ok (.bool r) w := by
  rcases ho with rfl | rfl | rfl | rfl | rfl | rfl <;> simp [eqGuard, binOp, hr]
/-- A comparison of numbers: the walk parts. -/
theorem WL.lss {x y : Operand} {k : IntKind} {a b : Int} {tx tb : TypeId} (hx : ev L x = some (.int k a)) (hy : ev L y = some (.int k b)) (hn : Nat.blt d n = true)
    (ht : a < b → WL P n ops rest N ((d, .bool true) :: L) w) (hf : b ≤ a → WL P n ops rest N ((d, .bool false) :: L) w) :
    WL P n ops (⟨some d, .binOp .lss tx x y tb, ty, pos, af, none⟩ :: rest) N L w := by
  by_cases hc : a < b
  · exact WL.val rfl rfl hn (fun a ha => by simp [execOp, eqGuard, binOp, Op.intCmp, ha.ev hx, ha.ev hy, hc]) (ht hc)
  · exact WL.val rfl rfl hn (fun a ha => by simp [execOp, eqGuard, binOp, Op.intCmp, ha.ev hx, ha.ev hy, hc]) (hf (by omega))
theorem WL.leq {x y : Operand} {k : IntKind} {a b : Int} {tx tb : TypeId} (hx : ev L x = some (.int k a)) (hy : ev L y = some (.int k b)) (hn : Nat.blt d n = true)
    (ht : a ≤ b → WL P n ops rest N ((d, .bool true) :: L) w) (hf : b < a → WL P n ops rest N ((d, .bool false) :: L) w) :
    WL P n ops (⟨some d, .binOp .leq tx x y tb, ty, pos, af, none⟩ :: rest) N L w := by
  by_cases hc : a ≤ b
  · exact WL.val rfl rfl hn (fun a ha => by simp [execOp, eqGuard, binOp, Op.intCmp, ha.ev hx, ha.ev hy, hc]) (ht hc)
  · exact WL.val rfl rfl hn (fun a ha => by simp [execOp, eqGuard, binOp, Op.intCmp, ha.ev hx, ha.ev hy, hc]) (hf (by omega))
theorem WL.gtr {x y : Operand} {k : IntKind} {a b : Int} {tx tb : TypeId} (hx : ev L x = some (.int k a)) (hy : ev L y = some (.int k b)) (hn : Nat.blt d n = true)
    (ht : b < a → WL P n ops rest N ((d, .bool true) :: L) w) (hf : a ≤ b → WL P n ops rest N ((d, .bool false) :: L) w) :
    WL P n ops (⟨some d, .binOp .gtr tx x y tb, ty, pos, af, none⟩ :: rest) N L w := by
  by_cases hc : b < a
  · exact WL.val rfl rfl hn (fun a ha => by simp [execOp, eqGuard, binOp, Op.intCmp, ha.ev hx, ha.ev hy, hc]) (ht hc)
  · exact WL.val rfl rfl hn (fun a ha => by simp [execOp, eqGuard, binOp, Op.intCmp, ha.ev hx, ha.ev hy, hc]) (hf (by omega))
theorem WL.geq {x y : Operand} {k : IntKind} {a b : Int} {tx tb : TypeId} (hx : ev L x = some (.int k a)) (hy : ev L y = some (.int k b)) (hn : Nat.blt d n = true)
    (ht : b ≤ a → WL P n ops rest N ((d, .bool true) :: L) w) (hf : a < b → WL P n ops rest N ((d, .bool false) :: L) w) :
    WL P n ops (⟨some d, .binOp .geq tx x y tb, ty, pos, af, none⟩ :: rest) N L w := by
  by_cases hc : b ≤ a
  · exact WL.val rfl rfl hn (fun a ha => by simp [execOp, eqGuard, binOp, Op.intCmp, ha.ev hx, ha.ev hy, hc]) (ht hc)
  · exact WL.val rfl rfl hn (fun a ha => by simp [execOp, eqGuard, binOp, Op.intCmp, ha.ev hx, ha.ev hy, hc]) (hf (by omega))
theorem WL.eql {x y : Operand} {k : IntKind} {a b : Int} {tx tb : TypeId} (hx : ev L x = some (.int k a)) (hy : ev L y = some (.int k b)) (hn : Nat.blt d n = true)
    (ht : a = b → WL P n ops rest N ((d, .bool true) :: L) w) (hf : a ≠ b → WL P n ops rest N ((d, .bool false) :: L) w) :
    WL P n ops (⟨some d, .binOp .eql tx x y tb, ty, pos, af, none⟩ :: rest) N L w := by
  by_cases hc : a = b
  · exact WL.val rfl rfl hn (fun a ha => by simp [execOp, eqGuard, binOp, Op.intCmp, ha.ev hx, ha.ev hy, hc]) (ht hc)
  · exact WL.val rfl rfl hn (fun a ha => by simp [execOp, eqGuard, binOp, Op.intCmp, ha.ev hx, ha.ev hy, hc]) (hf hc)
theorem WL.neq {x y : Operand} {k : IntKind} {a b : Int} {tx tb : TypeId} (hx : ev L x = some (.int k a)) (hy : ev L y = some (.int k b)) (hn : Nat.blt d n = true)
    (ht : a ≠ b → WL P n ops rest N ((d, .bool true) :: L) w) (hf : a = b → WL P n ops rest N ((d, .bool false) :: L) w) :
    WL P n ops (⟨some d, .binOp .neq tx x y tb, ty, pos, af, none⟩ :: rest) N L w := by
  by_cases hc : a = b
  · exact WL.val rfl rfl hn (fun a ha => by simp [execOp, eqGuard, binOp, Op.intCmp, ha.ev hx, ha.ev hy, hc]) (hf hc)
  · exact WL.val rfl rfl hn (fun a ha => by simp [execOp, eqGuard, binOp, Op.intCmp, ha.ev hx, ha.ev hy, hc]) (ht hc)
theorem WL.lssD {x y : Operand} {k : IntKind} {a b : Int} {tx tb : TypeId} (hx : ev L x = some (.int k a)) (hy : ev L y = some (.int k b)) (hn : Nat.blt d n = true)
    (h : WL P n ops rest N ((d, .bool (decide (a < b))) :: L) w) : WL P n ops (⟨some d, .binOp .lss tx x y tb, ty, pos, af, none⟩ :: rest) N L w := by
  by_cases hc : a < b
  · rw [decide_eq_true hc] at h; exact WL.val rfl rfl hn (fun a ha => by simp [execOp, eqGuard, binOp, Op.intCmp, ha.ev hx, ha.ev hy, hc]) h
  · rw [decide_eq_false hc] at h; exact WL.val rfl rfl hn (fun a ha => by simp [execOp, eqGuard, binOp, Op.intCmp, ha.ev hx, ha.ev hy] <;> first | exact hc | omega) h
theorem WL.leqD {x y : Operand} {k : IntKind} {a b : Int} {tx tb : TypeId} (hx : ev L x = some (.int k a)) (hy : ev L y = some (.int k b)) (hn : Nat.blt d n = true)
    (h : WL P n ops rest N ((d, .bool (decide (a ≤ b))) :: L) w) : WL P n ops (⟨some d, .binOp .leq tx x y tb, ty, pos, af, none⟩ :: rest) N L w := by
  by_cases hc : a ≤ b
  · rw [decide_eq_true hc] at h; exact WL.val rfl rfl hn (fun a ha => by simp [execOp, eqGuard, binOp, Op.intCmp, ha.ev hx, ha.ev hy, hc]) h
  · rw [decide_eq_false hc] at h; exact WL.val rfl rfl hn (fun a ha => by simp [execOp, eqGuard, binOp, Op.intCmp, ha.ev hx, ha.ev hy] <;> first | exact hc | omega) h
theorem WL.gtrD {x y : Operand} {k : IntKind} {a b : Int} {tx tb : TypeId} (hx : ev L x = some (.int k a)) (hy : ev L y = some (.int k b)) (hn : Nat.blt d n = true)
    (h : WL P n ops rest N ((d, .bool (decide (b < a))) :: L) w) : WL P n ops (⟨some d, .binOp .gtr tx x y tb, ty, pos, af, none⟩ :: rest) N L w := by
  by_cases hc : b < a
  · rw [decide_eq_true hc] at h; exact WL.val rfl rfl hn (fun a ha => by simp [execOp, eqGuard, binOp, Op.intCmp, ha.ev hx, ha.ev hy, hc]) h
  · rw [decide_eq_false hc] at h; exact WL.val rfl rfl hn (fun a ha => by simp [execOp, eqGuard, binOp, Op.intCmp, ha.ev hx, ha.ev hy] <;> first | exact hc | omega) h
theorem WL.geqD {x y : Operand} {k : IntKind} {a b : Int} {tx tb : TypeId} (hx : ev L x = some (.int k a)) (hy : ev L y = some (.int k b)) (hn : Nat.blt d n = true)
    (h : WL P n ops rest N ((d, .bool (decide (b ≤ a))) :: L) w) : WL P n ops (⟨some d, .binOp .geq tx x y tb, ty, pos, af, none⟩ :: rest) N L w := by
  by_cases hc : b ≤ a
  · rw [decide_eq_true hc] at h; exact WL.val rfl rfl hn (fun a ha => by simp [execOp, eqGuard, binOp, Op.intCmp, ha.ev hx, ha.ev hy, hc]) h
  · rw [decide_eq_false hc] at h; exact WL.val rfl rfl hn (fun a ha => by simp [execOp, eqGuard, binOp, Op.intCmp, ha.ev hx, ha.ev hy] <;> first | exact hc | omega) h
theorem WL.eqlD {x y : Operand} {k : IntKind} {a b : Int} {tx tb : TypeId} (hx : ev L x = some (.int k a)) (hy : ev L y = some (.int k b)) (hn : Nat.blt d n = true)
    (h : WL P n ops rest N ((d, .bool (decide (a = b))) :: L) w) : WL P n ops (⟨some d, .binOp .eql tx x y tb, ty, pos, af, none⟩ :: rest) N L w := by
  by_cases hc : a = b
  · rw [decide_eq_true hc] at h; exact WL.val rfl rfl hn (fun a ha => by simp [execOp, eqGuard, binOp, Op.intCmp, ha.ev hx, ha.ev hy, hc]) h
  · rw [decide_eq_false hc] at h; exact WL.val rfl rfl hn (fun a ha => by simp [execOp, eqGuard, binOp, Op.intCmp, ha.ev hx, ha.ev hy] <;> first | exact hc | omega) h
theorem WL.neqD {x y : Operand} {k : IntKind} {a b : Int} {tx tb : TypeId} (hx : ev L x = some (.int k a)) (hy : ev L y = some (.int k b)) (hn : Nat.blt d n = true)
    (h : WL P n ops rest N ((d, .bool (decide (a ≠ b))) :: L) w) : WL P n ops (⟨some d, .binOp .neq tx x y tb, ty, pos, af, none⟩ :: rest) N L w := by
  by_cases hc : a ≠ b
  · rw [decide_eq_true hc] at h; exact WL.val rfl rfl hn (fun a ha => by simp [execOp, eqGuard, binOp, Op.intCmp, ha.ev hx, ha.ev hy, hc]) h
  · rw [decide_eq_false hc] at h; exact WL.val rfl rfl hn (fun a ha => by simp [execOp, eqGuard, binOp, Op.intCmp, ha.ev hx, ha.ev hy] <;> first | exact hc | omega) h
theorem WL.max2 {x y : Operand} {k : IntKind} {a b r : Int} {ts : Array TypeId} (hx : ev L x = some (.int k a)) (hy : ev L y = some (.int k b)) (hr : max a b = r) (hn : Nat.blt d n = true) (h : WL P n ops rest N ((d, .int k r) :: L) w) :
    WL P n ops (⟨some d, .call ⟨.builtin .max, #[x, y], ts⟩, ty, pos, af, none⟩ :: rest) N L w :=
  WL.val rfl rfl hn (fun a' ha => by
    have e : (if b > a then b else a) = r := by rw [← hr]; split <;> omega
    simp [execOp, resolve, invoke, builtin, Builtin.max_, Builtin.max2, ha.ev hx, ha.ev hy, ← e]) h
theorem WL.min2 {x y : Operand} {k : IntKind} {a b r : Int} {ts : Array TypeId} (hx : ev L x = some (.int k a)) (hy : ev L y = some (.int k b)) (hr : min a b = r) (hn : Nat.blt d n = true) (h : WL P n ops rest N ((d, .int k r) :: L) w) :
    WL P n ops (⟨some d, .call ⟨.builtin .min, #[x, y], ts⟩, ty, pos, af, none⟩ :: rest) N L w :=
  WL.val rfl rfl hn (fun a' ha => by
    have e : (if b < a then b else a) = r := by rw [← hr]; split <;> omega
    simp [execOp, resolve, invoke, builtin, Builtin.min_, Builtin.min2, ha.ev hx, ha.ev hy, ← e]) h
theorem WL.not {x : Operand} {b : Bool} {tx : TypeId} (hx : ev L x = some (.bool b)) (hn : Nat.blt d n = true) (h : WL P n ops rest N ((d, .bool !b) :: L) w) :
    WL P n ops (⟨some d, .unOp .not tx x, ty, pos, af, none⟩ :: rest) N L w :=
  WL.val rfl rfl hn (fun a ha => by simp [execOp, Op.unary, ha.ev hx]) h
theorem WL.neg {x : Operand} {k : IntKind} {a r : Int} {tx : TypeId} (hx : ev L x = some (.int k a)) (hr : k.wrap (0 - a) = r) (hn : Nat.blt d n = true) (h : WL P n ops rest N ((d, .int k r) :: L) w) :
    WL P n ops (⟨some d, .unOp .neg tx x, ty, pos, af, none⟩ :: rest) N L w :=
  WL.val rfl rfl hn (fun a ha => by simp [execOp, Op.unary, Op.intArith, ha.ev hx, ← hr]) h
theorem run_equalIn_bool {P : Program} {w : World} {t : TypeId} (ht : P.underlying t = some .bool) (k : Nat) (a b : Bool) : (Op.equalIn (k + 1) t (.bool a) (.bool b)).run P w = .ok (a == b) w := by
  rw [Op.equalIn]
  simp [run_underlying ht]
theorem run_equal_bool {P : Program} {w : World} {t : TypeId} (ht : P.underlying t = some .bool) (a b : Bool) : (Op.equal t (.bool a) (.bool b)).run P w = .ok (a == b) w := run_equalIn_bool ht 9999 a b
theorem WL.eqB {x y : Operand} {a b r : Bool} {tx tb : TypeId} (hx : ev L x = some (.bool a)) (hy : ev L y = some (.bool b)) (ht : P.underlying tx = some .bool) (hr : (a == b) = r) (hn : Nat.blt d n = true) (h : WL P n ops rest N ((d, .bool r) :: L) w) :
    WL P n ops (⟨some d, .binOp .eql tx x y tb, ty, pos, af, none⟩ :: rest) N L w :=
  WL.val rfl rfl hn (fun _ ha => by subst hr; cases a <;> cases b <;> simp [execOp, eqGuard, binOp, ha.ev hx, ha.ev hy, run_equal_bool ht]) h
theorem WL.neqB {x y : Operand} {a b r : Bool} {tx tb : TypeId} (hx : ev L x = some (.bool a)) (hy : ev L y = some (.bool b)) (ht : P.underlying tx = some .bool) (hr : (a != b) = r) (hn : Nat.blt d n = true) (h : WL P n ops rest N ((d, .bool r) :: L) w) :
    WL P n ops (⟨some d, .binOp .neq tx x y tb, ty, pos, af, none⟩ :: rest) N L w :=
  WL.val rfl rfl hn (fun _ ha => by subst hr; cases a <;> cases b <;> simp [execOp, eqGuard, binOp, ha.ev hx, ha.ev hy, run_equal_bool ht]) h
theorem WL.conv {x : Operand} {k k' : IntKind} {a r : Int} {src dst : TypeId} {ds : TypeDesc} (hs : P.underlying src = some ds) (hd : P.underlying dst = some (.int k')) (hx : ev L x = some (.int k a)) (hr : k'.wrap a = r) (hn : Nat.blt d n = true) (h : WL P n ops rest N ((d, .int k' r) :: L) w) :
    WL P n ops (⟨some d, .convert src dst x, ty, pos, af, none⟩ :: rest) N L w :=
  WL.val rfl rfl hn (fun a ha => by simp [execOp, convert, ha.ev hx, run_underlying hs, run_underlying hd, Conv.intToInt, hr]) h
theorem WL.len {x : Operand} {A : Option Addr} {m c : Nat} {t e : TypeId} (ht : P.underlying t = some (.slice e)) (hx : ev L x = some (.slice A m c)) (hn : Nat.blt d n = true) (h : WL P n ops rest N ((d, .int .i64 m) :: L) w) :
    WL P n ops (⟨some d, .call ⟨.builtin .len, #[x], #[t]⟩, ty, pos, af, none⟩ :: rest) N L w :=
  WL.val rfl rfl hn (fun a ha => by simp [execOp, resolve, invoke, builtin, Builtin.len_, ha.ev hx, run_underlying ht, goInt]) h
theorem WL.call {f : FuncId} {fn : Func} {c : Code} {xs : List Operand} {ts : Array TypeId} {vs : List Value} {R : Value → World → Prop} (hf : P.funcs[f]? = some fn) (hb : fn.body = some c) (hnm : (fn.name == "runtime.NumGoroutine") = false)
    (hx : evs L xs = some vs) (hn : Nat.blt d n = true)
    (hc : Calls P f vs.toArray w fun e w' => ∃ v, e = .returned v ∧ R v w') (h : ∀ v w', R v w' → WL P n ops rest N ((d, v) :: L) w') :
    WL P n ops (⟨some d, .call ⟨.value (.func f), xs.toArray, ts⟩, ty, pos, af, none⟩ :: rest) N L w := by
  refine WL.enter rfl rfl hn (fun a ha => ?_) hc h
  have hm := ha.evs hx
  have hnm' : ¬ fn.name = "runtime.NumGoroutine" := by simpa using hnm
  simp only [execOp, resolve, Sem.run_bind]
  simp [Deferred.ofValue, Act.eval, invoke, callFunc, hm, program, Sem.run, hf, hb, hnm']
end
end Go.Proofs.Ythfpcebcfjlkmab
