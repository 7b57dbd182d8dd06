/- Contracts of functions of the program, and what they lean on: Fl, N8. -/
import Derived.Test.YtcmfjjbbcfddpaaWordAddsG5
set_option linter.unusedSimpArgs false
set_option linter.unusedVariables false
namespace Go.Proofs.Ytcmfjjbbcfddpaa
open Go.ChangeShapes Go.WideShapes Go.ChangeAt Go.RowKit
structure TyLi (P : Program) (t f s u : TypeId) : Prop where
  ex : ∃ f0 f1 f2 f3, P.underlying t = some (.struct #[f0, f1, f2, f3]) ∧ f0.offset = 0 ∧ f1.offset = 3 ∧ f2.offset = 4 ∧ f3.offset = 5 ∧ f0.type = f ∧ f1.type = s ∧ f2.type = s ∧ f3.type = s
  six : P.cellsOf t = 6
  three : P.cellsOf f = 3
  one : P.cellsOf s = 1
  sl : P.underlying s = some (.slice u)
def LenD {H : Type} (d : DataW H) (m : Nat) : Prop := (d = .nil ∧ m = 0) ∨ ∃ es ss, d = .slice es ss ∧ es.length = m
section
variable {H : Type} {enc : TypeId × Value → H} {P : Program} {W : World} {base : Nat} {spare : Nat → Bool} {held : Bool}
theorem ints_cell_d {t e : TypeId} {v : Value} {y : DataW H × List MemPlace} {n : Nat} (ht : P.underlying t = some (.slice e)) (he : P.underlying e = some (.int .i64)) (hc : P.cellsOf e = 1) (h : DataW.trod enc P W base spare held n t [v] = some y) :
  ∃ A m c xs, v = .slice A m c ∧ Rd W.heap.size W 1 A m c (is xs) ∧ LenD y.1 m := by
 obtain ⟨A, m, c, xs, rfl, _⟩ := ints_cell ht he hc h; obtain ⟨d, p⟩ := y; obtain ⟨xs, R, hd⟩ := ints_arg_d (d := d) (p := p) ht he hc ⟨n, h⟩; exact ⟨A, m, c, xs, rfl, R, hd⟩
theorem lists_arg {t f s u : TypeId} (hT : TyLi P t f s u) (hF : Ty2S P f u) {cs : Array Value} {d : DataW H} {p : List MemPlace} (h : DataW.Trod enc P W base spare held t (.agg cs) d p) :
  ∃ a b A m c xs A1 m1 c1 x1 A2 m2 c2 x2 A3 m3 c3 x3, cs = #[.int .i64 a, .int .i64 b, .slice A m c, .slice A1 m1 c1, .slice A2 m2 c2, .slice A3 m3 c3] ∧ Rd W.heap.size W 1 A m c (is xs) ∧ Rd W.heap.size W 1 A1 m1 c1 (is x1) ∧ Rd W.heap.size W 1 A2 m2 c2 (is x2) ∧ Rd W.heap.size W 1 A3 m3 c3 (is x3) ∧
   ∃ d0 d1 d2 d3, d = .agg [d0, d1, d2, d3] ∧ LenD d1 m1 ∧ LenD d2 m2 ∧ LenD d3 m3 := by
 obtain ⟨fuel, hf⟩ := h; obtain ⟨f0, f1, f2, f3, ht, o0, o1, o2, o3, t0, t1, t2, t3⟩ := hT.ex; obtain ⟨xs, n, _, hx, hl, hlen, hel⟩ := DataW.trod_struct ht hf; have e2 : (Value.agg cs).cells.toList = cs.toList := rfl; rw [e2] at hl hel; rw [hT.six] at hl; generalize hcs : cs.toList = l at *
 match l, hl with
 | [v0, v1, v2, v3, v4, v5], _ =>
  match xs, hlen with
  | [y0, y1, y2, y3], _ =>
   have h0 := hel 0 f0 rfl; have h1 := hel 1 f1 rfl; have h2 := hel 2 f2 rfl; have h3 := hel 3 f3 rfl; simp only [o0, o1, o2, o3, t0, t1, t2, t3, hT.three, hT.one, List.drop_zero, List.drop_succ_cons, List.take_succ_cons, List.take_zero, List.getElem?_cons_zero, List.getElem?_cons_succ] at h0 h1 h2 h3; obtain ⟨a, b, A, m, c, x, hcv, R⟩ := fst_arg (cs := #[v0, v1, v2]) (d := y0.1) (p := y0.2) hF ⟨n, h0⟩; obtain ⟨A1, m1, c1, x1, rfl, R1, D1⟩ := ints_cell_d hT.sl hF.int hF.one h1; obtain ⟨A2, m2, c2, x2, rfl, R2, D2⟩ := ints_cell_d hT.sl hF.int hF.one h2; obtain ⟨A3, m3, c3, x3, rfl, R3, D3⟩ := ints_cell_d hT.sl hF.int hF.one h3; simp only [Array.mk.injEq, List.cons.injEq, and_true] at hcv; obtain ⟨rfl, rfl, rfl⟩ := hcv; refine ⟨a, b, A, m, c, x, A1, m1, c1, x1, A2, m2, c2, x2, A3, m3, c3, x3, ?_, R, R1, R2, R3, y0.1, y1.1, y2.1, y3.1, ?_, D1, D2, D3⟩
   ·rw [← Array.toArray_toList (xs := cs), hcs]
   ·exact congrArg Prod.fst hx
theorem sized_part {ts : List TypeId} {ds : List (DataW H)} (h : (DataW.weightsEach P ts ds).all (· ≤ reachBytes) = true) {j : Nat} {t f s u : TypeId} (hT : TyLi P t f s u) (hu : P.bytesOf u = 8) {d0 d1 d2 d3 : DataW H} (ht : ts[j]? = some t) (hd : ds[j]? = some (.agg [d0, d1, d2, d3])) {d : DataW H} (hm : d = d1 ∨ d = d2 ∨ d = d3) {m : Nat} (hl : LenD d m) :
    m ≤ 17592186044416 := by
  rcases hl with ⟨_, rfl⟩ | ⟨es, ss, rfl, rfl⟩
  · omega
  obtain ⟨f0, f1, f2, f3, hst, o0, o1, o2, o3, t0, t1, t2, t3⟩ := hT.ex
  have key : (es.length + ss.length) * 8 ∈ DataW.weights P s (.slice es ss) := by simp [DataW.weights, hT.sl, hu]
  have := List.all_eq_true.1 h _ (DataW.weights_mem_each ht hd ((es.length + ss.length) * 8) (by
    simp only [DataW.weights, hst]
    rcases hm with e | e | e
    · exact DataW.weights_mem_each (j := 1) (t := s) (by simp [t1]) (congrArg some e.symm) _ key
    · exact DataW.weights_mem_each (j := 2) (t := s) (by simp [t2]) (congrArg some e.symm) _ key
    · exact DataW.weights_mem_each (j := 3) (t := s) (by simp [t3]) (congrArg some e.symm) _ key))
  have h2 : (es.length + ss.length) * 8 ≤ reachBytes := by simpa using this
  simp only [reachBytes] at h2
  omega
end
end Go.Proofs.Ytcmfjjbbcfddpaa
set_option linter.unusedVariables false
set_option linter.unusedSimpArgs false
namespace Go.Proofs.Ytcmfjjbbcfddpaa
section
variable {P M : Int} {mf : List Int}
end
end Go.Proofs.Ytcmfjjbbcfddpaa
