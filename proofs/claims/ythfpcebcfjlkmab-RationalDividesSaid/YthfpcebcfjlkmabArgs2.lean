/- Contracts of functions of the program, and what they lean on. -/
import Derived.Test.YthfpcebcfjlkmabArgs
import Derived.Test.YthfpcebcfjlkmabRr
import Derived.Deep.Strs
import Derived.Deep.SlicePairs
import Derived.SizedLaws
set_option linter.unusedSimpArgs false
set_option linter.unusedVariables false
namespace Go.Proofs.Ythfpcebcfjlkmab
open Go.ChangeShapes Go.WideShapes Go.ChangeAt Go.RowKit
theorem i8_arg {x : Int} (h : (Lit.int .i8 x).wf = true) : -128 ≤ x ∧ x ≤ 127 := by
  simp [Lit.wf, IntKind.min, IntKind.max, IntKind.signed, IntKind.bits] at h
  exact ⟨by omega, by omega⟩
/-! ### the bound of every slice that is met -/
def Sized {H : Type} (P : Program) (t : TypeId) (d : DataW H) : Prop := ∀ n ∈ DataW.weights P t d, n ≤ reachBytes
theorem sized_arg {H : Type} {P : Program} {ts : List TypeId} {ds : List (DataW H)} (h : (DataW.weightsEach P ts ds).all (· ≤ reachBytes) = true) {j : Nat} {t : TypeId} {d : DataW H} (ht : ts[j]? = some t) (hd : ds[j]? = some d) : Sized P t d := fun n hn => by
  have := List.all_eq_true.1 h _ (DataW.weights_mem_each ht hd n hn)
  simpa using this
theorem sized_nat {H : Type} {P : Program} {t u : TypeId} {es ss : List (DataW H)} (ht : P.underlying t = some (.slice u)) (h4 : P.bytesOf u = 4) (h : Sized P t (.slice es ss)) : es.length * 4 ≤ 140737488351232 := by
  have h1 := h ((es.length + ss.length) * P.bytesOf u) (by simp [DataW.weights, ht])
  rw [h4] at h1
  simp only [reachBytes] at h1
  omega
theorem sized_row {H : Type} {P : Program} {t u : TypeId} {k : Nat} {es ss : List (DataW H)} (ht : P.underlying t = some (.slice u)) (h4 : P.bytesOf u = k) (h : Sized P t (.slice es ss)) : es.length * k ≤ 140737488351232 := by
  have h1 := h ((es.length + ss.length) * P.bytesOf u) (by simp [DataW.weights, ht])
  rw [h4] at h1
  have h2 : es.length * k ≤ (es.length + ss.length) * k := Nat.mul_le_mul_right _ (Nat.le_add_right _ _)
  simp only [reachBytes] at h1
  omega
theorem sized_elem {H : Type} {P : Program} {t u : TypeId} {es ss : List (DataW H)} (ht : P.underlying t = some (.slice u)) (h : Sized P t (.slice es ss)) {d : DataW H} (hd : d ∈ es) : Sized P u d := fun n hn => by
  refine h n ?_
  simp only [DataW.weights, ht, List.mem_cons, List.mem_append]
  refine .inr (.inl ?_)
  clear h
  induction es with
  | nil => cases hd
  | cons a l ih =>
    simp only [DataW.weightsAll, List.mem_append]
    rcases List.mem_cons.1 hd with rfl | h
    · exact .inl hn
    · exact .inr (ih h)
theorem sized_three {H : Type} {P : Program} {t : TypeId} {f0 f1 f2 : Field} {a b c : DataW H} (ht : P.underlying t = some (.struct #[f0, f1, f2])) (h : Sized P t (.agg [a, b, c])) : Sized P f1.type b ∧ Sized P f2.type c := by
  constructor
  · intro n hn
    refine h n ?_
    simp only [DataW.weights, ht, List.map_cons, List.map_nil, DataW.weightsEach, List.mem_append]
    exact .inr (.inl hn)
  · intro n hn
    refine h n ?_
    simp only [DataW.weights, ht, List.map_cons, List.map_nil, DataW.weightsEach, List.mem_append]
    exact .inr (.inr (.inl hn))
/-- What the type table says of fractions. -/
structure RatTy (P : Program) (t u : TypeId) : Prop where
  ex : ∃ f0 f1 f2 : Field, P.underlying t = some (.struct #[f0, f1, f2]) ∧ f0.offset = 0 ∧ f1.offset = 1 ∧ f2.offset = 2 ∧ P.underlying f0.type = some .bool ∧ P.underlying f1.type = some (.slice u) ∧ P.underlying f2.type = some (.slice u) ∧ P.cellsOf f0.type = 1 ∧ P.cellsOf f1.type = 1 ∧ P.cellsOf f2.type = 1
  three : P.cellsOf t = 3
  int : P.underlying u = some (.int .u32)
  one : P.cellsOf u = 1
  four : P.bytesOf u = 4
section
variable {H : Type} {enc : TypeId × Value → H} {P : Program} {W : World} {base : Nat} {spare : Nat → Bool} {held : Bool}
theorem nat_cell {t u : TypeId} {v : Value} {y : DataW H × List MemPlace} {n : Nat} (ht : P.underlying t = some (.slice u)) (hu : P.underlying u = some (.int .u32)) (hc : P.cellsOf u = 1) (h4 : P.bytesOf u = 4) (h : DataW.trod enc P W base spare held n t [v] = some y) (hz : Sized P t y.1) :
    ∃ A m c x, v = .slice A m c ∧ Rd W.heap.size W 1 A m c (us x) ∧ Lim x ∧ m * 4 ≤ 140737488351232 := by
  have hv : ∃ A' m' c', v = .slice A' m' c' := by
    rcases open_ints ht hu hc h with ⟨hcs, _⟩ | ⟨x, l, c', zs, hcs, _⟩
    · exact ⟨_, _, _, by simpa using hcs⟩
    · exact ⟨_, _, _, by simpa using hcs⟩
  obtain ⟨A, m, c, rfl⟩ := hv
  obtain ⟨x, h1, h2, h3⟩ := nat_arg_d (d := y.1) (p := y.2) ht hu hc ⟨n, h⟩
  refine ⟨A, m, c, x, rfl, h1, h2, ?_⟩
  rcases h3 with ⟨_, rfl⟩ | ⟨es, ss, e, rfl⟩
  · omega
  · rw [e] at hz; exact sized_nat ht h4 hz
theorem rat_cells {t u : TypeId} (hT : RatTy P t u) {fuel : Nat} {cs : List Value} {y : DataW H × List MemPlace} (h : DataW.trod enc P W base spare held fuel t cs = some y) (hz : Sized P t y.1) :
    ∃ n A m c A' m' c' x x', cs = [.bool n, .slice A m c, .slice A' m' c'] ∧ Rd W.heap.size W 1 A m c (us x) ∧ Lim x ∧ m * 4 ≤ 140737488351232 ∧ Rd W.heap.size W 1 A' m' c' (us x') ∧ Lim x' ∧ m' * 4 ≤ 140737488351232 := by
  obtain ⟨f0, f1, f2, ht, o0, o1, o2, u0, u1, u2, c0, c1, c2⟩ := hT.ex
  obtain ⟨y0, y1, y2, n, rfl, hl, h0, h1, h2⟩ := Go.Deep.trod_struct3 ht h
  obtain ⟨s1, s2⟩ := sized_three ht hz
  rw [hT.three] at hl
  match cs, hl with
  | [v0, v1, v2], _ =>
    simp only [o0, o1, o2, c0, c1, c2, List.drop_zero, List.drop_succ_cons, List.take_succ_cons, List.take_zero] at h0 h1 h2
    obtain ⟨b, e0, _⟩ := DataW.trod_bool u0 h0
    obtain ⟨A, m, c, x, rfl, r1, l1, z1⟩ := nat_cell u1 hT.int hT.one hT.four h1 s1
    obtain ⟨A', m', c', x', rfl, r2, l2, z2⟩ := nat_cell u2 hT.int hT.one hT.four h2 s2
    have e0' : v0 = .bool b := by simpa using e0
    subst e0'
    exact ⟨b, A, m, c, A', m', c', x, x', rfl, r1, l1, z1, r2, l2, z2⟩
/-- A fraction that came in. -/
theorem rat_arg {t u : TypeId} (hT : RatTy P t u) {cs : Array Value} {d : DataW H} {p : List MemPlace} (h : DataW.Trod enc P W base spare held t (.agg cs) d p) (hz : Sized P t d) :
    ∃ n A m c A' m' c' x x', cs = #[.bool n, .slice A m c, .slice A' m' c'] ∧ Rd W.heap.size W 1 A m c (us x) ∧ Lim x ∧ m * 4 ≤ 140737488351232 ∧ Rd W.heap.size W 1 A' m' c' (us x') ∧ Lim x' ∧ m' * 4 ≤ 140737488351232 := by
  obtain ⟨fuel, hf⟩ := h
  obtain ⟨n, A, m, c, A', m', c', x, x', e, h1⟩ := rat_cells hT (y := (d, p)) hf hz
  refine ⟨n, A, m, c, A', m', c', x, x', ?_, h1⟩
  have e2 : cs.toList = [.bool n, .slice A m c, .slice A' m' c'] := e
  rw [← Array.toArray_toList (xs := cs), e2]
/-- A row of fractions that came in. -/
theorem rats_arg {t e u : TypeId} (ht : P.underlying t = some (.slice e)) (hT : RatTy P e u) {k : Nat} (hk : P.bytesOf e = k) {A : Option Addr} {m c : Nat} {d : DataW H} {p : List MemPlace} (h : DataW.Trod enc P W base spare held t (.slice A m c) d p) (hz : Sized P t d) :
    ∃ cells rs, Rd W.heap.size W 3 A m c cells ∧ RatsR W.heap.size W cells rs ∧ RLim rs ∧ (∀ j, j < rs.length → (rs.getD j fr0).2.1.length * 4 ≤ 140737488351232 ∧ (rs.getD j fr0).2.2.length * 4 ≤ 140737488351232) ∧ m * k ≤ 140737488351232 := by
  obtain ⟨fuel, hf⟩ := h
  rcases Go.Deep.open_slice ht hf with ⟨hcs, hx⟩ | ⟨a, len, cap, mm, n, D, Pl, hcs, hb, hl, hm, hmm, hx, hcell⟩
  · simp [Value.cells] at hcs
    obtain ⟨rfl, rfl, rfl⟩ := hcs
    exact ⟨[], [], Rd.nil (by simp [maxLen]), RatsR.nil _ _, (fun i h => by cases h), (fun i h => by cases h), by omega⟩
  · simp [Value.cells] at hcs
    obtain ⟨rfl, rfl, rfl⟩ := hcs
    have hmk : m ≤ mm := by rw [hmm]; split <;> omega
    simp only [Prod.mk.injEq] at hx
    obtain ⟨rfl, -⟩ := hx
    have key : ∀ i, i < m → ∃ q : Value × Value × Value × Fr3, W.cell? (a.add (i * 3)) = some q.1 ∧ W.cell? (a.add (i * 3 + 1)) = some q.2.1 ∧ W.cell? (a.add (i * 3 + 2)) = some q.2.2.1 ∧ q.1 = .bool q.2.2.2.1 ∧
        natAt W.heap.size W [q.2.1] 0 q.2.2.2.2.1 ∧ natAt W.heap.size W [q.2.2.1] 0 q.2.2.2.2.2 ∧ Lim q.2.2.2.2.1 ∧ Lim q.2.2.2.2.2 ∧ q.2.2.2.2.1.length * 4 ≤ 140737488351232 ∧ q.2.2.2.2.2.length * 4 ≤ 140737488351232 := by
      intro i hi
      obtain ⟨cs', h1, h2⟩ := hcell i (by omega)
      rw [hT.three] at h1
      obtain ⟨_, hlen, hce⟩ := World.cells?_some h1
      obtain ⟨b, A, m', c', A', m2, c2, x, x', rfl, r1, l1, z1, r2, l2, z2⟩ := rat_cells hT h2 (sized_elem ht hz (by simp; exact ⟨i, hi, rfl⟩))
      have e0 := hce 0 (by omega)
      have e1 := hce 1 (by omega)
      have e2 := hce 2 (by omega)
      rw [add_add] at e0 e1 e2
      have k1 := r1.ulen
      have k2 := r2.ulen
      exact ⟨(.bool b, .slice A m' c', .slice A' m2 c2, b, x, x'), by simpa using e0, by simpa using e1, by simpa using e2, rfl, ⟨rfl, r1⟩, ⟨rfl, r2⟩, l1, l2, by simp only; omega, by simp only; omega⟩
    obtain ⟨X, hX⟩ := Go.Deep.choose_lt key
    let V : Nat → Value := fun k => if k % 3 = 0 then (X (k / 3)).1 else if k % 3 = 1 then (X (k / 3)).2.1 else (X (k / 3)).2.2.1
    have g (k : Nat) (hk : k < m * 3) : ((List.range (m * 3)).map V).getD k undef = V k := by simp [List.getD_eq_getElem?_getD, hk]
    have g2 (j : Nat) (hj : j < m) : ((List.range m).map fun j => (X j).2.2.2).getD j fr0 = (X j).2.2.2 := by simp [List.getD_eq_getElem?_getD, hj]
    have v0 (j : Nat) : V (j * 3) = (X j).1 := by simp only [V]; rw [if_pos (by omega), show j * 3 / 3 = j by omega]
    have v1 (j : Nat) : V (j * 3 + 1) = (X j).2.1 := by simp only [V]; rw [if_neg (by omega), if_pos (by omega), show (j * 3 + 1) / 3 = j by omega]
    have v2 (j : Nat) : V (j * 3 + 2) = (X j).2.2.1 := by simp only [V]; rw [if_neg (by omega), if_neg (by omega), show (j * 3 + 2) / 3 = j by omega]
    refine ⟨(List.range (m * 3)).map V, (List.range m).map fun j => (X j).2.2.2, Rd.norm (B := a.block + 1) ⟨by simp, hl, hm, fun _ => ⟨a, rfl, Nat.lt_succ_self _, fun j u hu => ?_⟩⟩, ⟨by simp, fun j hj => ?_⟩, fun j hj => ?_, fun j hj => ?_, ?_⟩
    · rw [List.getElem?_map] at hu
      have hj : j < m * 3 := by
        rcases Nat.lt_or_ge j (m * 3) with h | h
        · exact h
        · rw [List.getElem?_eq_none (by simpa using h)] at hu; cases hu
      rw [List.getElem?_range hj] at hu
      simp only [Option.map_some, Option.some.injEq] at hu
      rw [← hu]
      obtain ⟨k0, k1, k2, _⟩ := hX (j / 3) (by omega)
      have h3 : j = j / 3 * 3 ∨ j = j / 3 * 3 + 1 ∨ j = j / 3 * 3 + 2 := by omega
      rcases h3 with h3 | h3 | h3
      · have := v0 (j / 3); rw [← h3] at this; rw [this]; rw [← h3] at k0; exact k0
      · have := v1 (j / 3); rw [← h3] at this; rw [this]; rw [← h3] at k1; exact k1
      · have := v2 (j / 3); rw [← h3] at this; rw [this]; rw [← h3] at k2; exact k2
    · have hj : j < m := by simpa using hj
      obtain ⟨_, _, _, e, n1, n2, _⟩ := hX j hj
      rw [g2 j hj, g _ (by omega), v0]
      refine ⟨e, n1.of ?_, n2.of ?_⟩
      · rw [g _ (by omega), v1]; rfl
      · rw [g _ (by omega), v2]; rfl
    · have hj : j < m := by simpa using hj
      obtain ⟨_, _, _, _, _, _, l1, l2, _⟩ := hX j hj
      rw [g2 j hj]; exact ⟨l1, l2⟩
    · have hj : j < m := by simpa using hj
      obtain ⟨_, _, _, _, _, _, _, _, z⟩ := hX j hj
      rw [g2 j hj]; exact z
    · have := sized_row ht hk hz
      simpa using this
end
end Go.Proofs.Ythfpcebcfjlkmab
