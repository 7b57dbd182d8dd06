/- Contracts of functions of the program, and what they lean on: Args2. -/
import Derived.Test.YthfpcebcfjlkmabRationalPowersG8
import Derived.Deep.Strs
import Derived.Deep.SlicePairs
import Derived.SizedLaws
set_option linter.unusedSimpArgs false
set_option linter.unusedVariables false
namespace Go.Proofs.Ythfpcebcfjlkmab
open Go.ChangeShapes Go.WideShapes Go.ChangeAt Go.RowKit
theorem i8_arg {x : Int} (h : (Lit.int .i8 x).wf = true) : -128 ≤ x ∧ x ≤ 127 := by
  simp [Lit.wf, IntKind.min, IntKind.max, IntKind.signed, IntKind.bits] at h
  exact ⟨by omega, by omega⟩
/-! ### the bound of every slice that is met -/
def Sized {H : Type} (P : Program) (t : TypeId) (d : DataW H) : Prop := ∀ n ∈ DataW.weights P t d, n ≤ reachBytes
theorem sized_arg {H : Type} {P : Program} {ts : List TypeId} {ds : List (DataW H)} (h : (DataW.weightsEach P ts ds).all (· ≤ reachBytes) = true) {j : Nat} {t : TypeId} {d : DataW H} (ht : ts[j]? = some t) (hd : ds[j]? = some d) : Sized P t d := fun n hn => by
  have := List.all_eq_true.1 h _ (DataW.weights_mem_each ht hd n hn)
  simpa using this
theorem sized_nat {H : Type} {P : Program} {t u : TypeId} {es ss : List (DataW H)} (ht : P.underlying t = some (.slice u)) (h4 : P.bytesOf u = 4) (h : Sized P t (.slice es ss)) : es.length * 4 ≤ 140737488351232 := by
  have h1 := h ((es.length + ss.length) * P.bytesOf u) (by simp [DataW.weights, ht])
  rw [h4] at h1
  simp only [reachBytes] at h1
  omega
theorem sized_three {H : Type} {P : Program} {t : TypeId} {f0 f1 f2 : Field} {a b c : DataW H} (ht : P.underlying t = some (.struct #[f0, f1, f2])) (h : Sized P t (.agg [a, b, c])) : Sized P f1.type b ∧ Sized P f2.type c := by
  constructor
  · intro n hn
    refine h n ?_
    simp only [DataW.weights, ht, List.map_cons, List.map_nil, DataW.weightsEach, List.mem_append]
    exact .inr (.inl hn)
  · intro n hn
    refine h n ?_
    simp only [DataW.weights, ht, List.map_cons, List.map_nil, DataW.weightsEach, List.mem_append]
    exact .inr (.inr (.inl hn))
/-- What the type table says of fractions. -/
structure RatTy (P : Program) (t u : TypeId) : Prop where
  ex : ∃ f0 f1 f2 : Field, P.underlying t = some (.struct #[f0, f1, f2]) ∧ f0.offset = 0 ∧ f1.offset = 1 ∧ f2.offset = 2 ∧ P.underlying f0.type = some .bool ∧ P.underlying f1.type = some (.slice u) ∧ P.underlying f2.type = some (.slice u) ∧ P.cellsOf f0.type = 1 ∧ P.cellsOf f1.type = 1 ∧ P.cellsOf f2.type = 1
  three : P.cellsOf t = 3
  int : P.underlying u = some (.int .u32)
  one : P.cellsOf u = 1
  four : P.bytesOf u = 4
section
variable {H : Type} {enc : TypeId × Value → H} {P : Program} {W : World} {base : Nat} {spare : Nat → Bool} {held : Bool}
theorem nat_cell {t u : TypeId} {v : Value} {y : DataW H × List MemPlace} {n : Nat} (ht : P.underlying t = some (.slice u)) (hu : P.underlying u = some (.int .u32)) (hc : P.cellsOf u = 1) (h4 : P.bytesOf u = 4) (h : DataW.trod enc P W base spare held n t [v] = some y) (hz : Sized P t y.1) :
    ∃ A m c x, v = .slice A m c ∧ Rd W.heap.size W 1 A m c (us x) ∧ Lim x ∧ m * 4 ≤ 140737488351232 := by
  have hv : ∃ A' m' c', v = .slice A' m' c' := by
    rcases open_ints ht hu hc h with ⟨hcs, _⟩ | ⟨x, l, c', zs, hcs, _⟩
    · exact ⟨_, _, _, by simpa using hcs⟩
    · exact ⟨_, _, _, by simpa using hcs⟩
  obtain ⟨A, m, c, rfl⟩ := hv
  obtain ⟨x, h1, h2, h3⟩ := nat_arg_d (d := y.1) (p := y.2) ht hu hc ⟨n, h⟩
  refine ⟨A, m, c, x, rfl, h1, h2, ?_⟩
  rcases h3 with ⟨_, rfl⟩ | ⟨es, ss, e, rfl⟩
  · omega
  · rw [e] at hz; exact sized_nat ht h4 hz
theorem rat_cells {t u : TypeId} (hT : RatTy P t u) {fuel : Nat} {cs : List Value} {y : DataW H × List MemPlace} (h : DataW.trod enc P W base spare held fuel t cs = some y) (hz : Sized P t y.1) :
    ∃ n A m c A' m' c' x x', cs = [.bool n, .slice A m c, .slice A' m' c'] ∧ Rd W.heap.size W 1 A m c (us x) ∧ Lim x ∧ m * 4 ≤ 140737488351232 ∧ Rd W.heap.size W 1 A' m' c' (us x') ∧ Lim x' ∧ m' * 4 ≤ 140737488351232 := by
  obtain ⟨f0, f1, f2, ht, o0, o1, o2, u0, u1, u2, c0, c1, c2⟩ := hT.ex
  obtain ⟨y0, y1, y2, n, rfl, hl, h0, h1, h2⟩ := Go.Deep.trod_struct3 ht h
  obtain ⟨s1, s2⟩ := sized_three ht hz
  rw [hT.three] at hl
  match cs, hl with
  | [v0, v1, v2], _ =>
    simp only [o0, o1, o2, c0, c1, c2, List.drop_zero, List.drop_succ_cons, List.take_succ_cons, List.take_zero] at h0 h1 h2
    obtain ⟨b, e0, _⟩ := DataW.trod_bool u0 h0
    obtain ⟨A, m, c, x, rfl, r1, l1, z1⟩ := nat_cell u1 hT.int hT.one hT.four h1 s1
    obtain ⟨A', m', c', x', rfl, r2, l2, z2⟩ := nat_cell u2 hT.int hT.one hT.four h2 s2
    have e0' : v0 = .bool b := by simpa using e0
    subst e0'
    exact ⟨b, A, m, c, A', m', c', x, x', rfl, r1, l1, z1, r2, l2, z2⟩
/-- A fraction that came in. -/
theorem rat_arg {t u : TypeId} (hT : RatTy P t u) {cs : Array Value} {d : DataW H} {p : List MemPlace} (h : DataW.Trod enc P W base spare held t (.agg cs) d p) (hz : Sized P t d) :
    ∃ n A m c A' m' c' x x', cs = #[.bool n, .slice A m c, .slice A' m' c'] ∧ Rd W.heap.size W 1 A m c (us x) ∧ Lim x ∧ m * 4 ≤ 140737488351232 ∧ Rd W.heap.size W 1 A' m' c' (us x') ∧ Lim x' ∧ m' * 4 ≤ 140737488351232 := by
  obtain ⟨fuel, hf⟩ := h
  obtain ⟨n, A, m, c, A', m', c', x, x', e, h1⟩ := rat_cells hT (y := (d, p)) hf hz
  refine ⟨n, A, m, c, A', m', c', x, x', ?_, h1⟩
  have e2 : cs.toList = [.bool n, .slice A m c, .slice A' m' c'] := e
  rw [← Array.toArray_toList (xs := cs), e2]
end
end Go.Proofs.Ythfpcebcfjlkmab
