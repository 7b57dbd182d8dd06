/- What is known of slices and the rules of reading and writing them. -/
import Derived.Test.YthfpcebcfjlkmabOps
import Derived.Maps.AppendAt
namespace Go.Proofs.Ythfpcebcfjlkmab
open Go.RowKit

/-- An element type's row of the table. -/
structure Elem (P : Program) (e : TypeId) (z by_ : Nat) (zero : Value) : Prop where
  ex : ∃ i, P.info? e = some i ∧ i.zero = some zero ∧ i.size = z ∧ i.bytes = by_
  zs : zero.cells.size = z
  pos : 0 < z
theorem Elem.mk' {P : Program} {e : TypeId} {z by_ : Nat} {zero : Value} (h : (P.info? e).map (fun i => (i.zero, i.size, i.bytes)) = some (some zero, z, by_)) (hz : zero.cells.size = z) (hp : 0 < z) : Elem P e z by_ zero :=
  ⟨info_parts h, hz, hp⟩

def adOf (A : Option Addr) : Addr := A.getD ⟨0, 0, none⟩
def bl (A : Option Addr) : Option Nat := A.map (·.block)
/-- A slice that reads as the cells cs, below block B. -/
structure Rd (B : Nat) (w : World) (z : Nat) (A : Option Addr) (m c : Nat) (cs : List Value) : Prop where
  len : cs.length = m * z
  cap : m ≤ c
  max : c ≤ maxLen
  cells : 0 < m → ∃ ad, A = some ad ∧ ad.block < B ∧ ∀ j u, cs[j]? = some u → w.cell? (ad.add j) = some u
/-- A slice of the call's own. -/
abbrev Own (b : Nat) (w : World) (e z : Nat) (A : Option Addr) (m c : Nat) (cs : List Value) : Prop := w.ownsRow b e z (.slice A m c) m cs

theorem block_add (a : Addr) (n : Nat) : (a.add n).block = a.block := by unfold Addr.add; split <;> rfl
theorem add_add (a : Addr) (i j : Nat) : (a.add i).add j = a.add (i + j) := by
  unfold Addr.add
  by_cases hi : i = 0 <;> by_cases hj : j = 0 <;> simp [hi, hj, Nat.add_assoc]
theorem cell_grown {w w' : World} {row : Option Nat} (hg : w.grownBy w' row) {p : Addr} {u : Value} (h : w.cell? p = some u) (hr : some p.block ≠ row) : w'.cell? p = some u := hg.cell h hr

section
variable {B b : Nat} {w w' : World} {z e : Nat} {A : Option Addr} {m c : Nat} {cs : List Value}
theorem Rd.nil (h : c ≤ maxLen) : Rd B w z A 0 c [] := ⟨by simp, Nat.zero_le _, h, fun h => absurd h (by omega)⟩
theorem Rd.grown (h : Rd B w z A m c cs) {row : Option Nat} (hg : w.grownBy w' row) (hr : ∀ g, row = some g → B ≤ g) : Rd B w' z A m c cs :=
  ⟨h.len, h.cap, h.max, fun hm => by
    obtain ⟨ad, e1, e2, e3⟩ := h.cells hm
    exact ⟨ad, e1, e2, fun j u hu => hg.cell (e3 j u hu) (fun e => by have := hr _ e.symm; rw [block_add] at this; omega)⟩⟩
theorem Rd.ext (h : Rd B w z A m c cs) (hg : w.grownBy w' none) : Rd B w' z A m c cs := h.grown hg (fun _ e => by cases e)
theorem Rd.more {B' : Nat} (h : Rd B w z A m c cs) (hB : B ≤ B') : Rd B' w z A m c cs :=
  ⟨h.len, h.cap, h.max, fun hm => by obtain ⟨ad, e1, e2, e3⟩ := h.cells hm; exact ⟨ad, e1, by omega, e3⟩⟩
theorem Rd.below (h : Rd B w z A m c cs) (hb : Below B w w') : Rd B w' z A m c cs :=
  ⟨h.len, h.cap, h.max, fun hm => by
    obtain ⟨ad, e1, e2, e3⟩ := h.cells hm
    exact ⟨ad, e1, e2, fun j u hu => (hb.cell (by rw [block_add]; exact e2)).trans (e3 j u hu)⟩⟩
theorem Rd.at_ (h : Rd B w z A m c cs) {j : Nat} {u : Value} (hu : cs[j]? = some u) : w.cell? ((adOf A).add j) = some u := by
  have hj : j < cs.length := (List.getElem?_eq_some_iff.1 hu).1
  have hm : 0 < m := by
    rcases Nat.eq_zero_or_pos m with h0 | h0
    · subst h0; have := h.len; omega
    · exact h0
  obtain ⟨ad, e1, _, e3⟩ := h.cells hm
  subst e1
  exact e3 j u hu
theorem Rd.take (h : Rd B w z A m c cs) {k : Nat} (hk : k ≤ m) : Rd B w z A k c (cs.take (k * z)) :=
  ⟨by rw [List.length_take, h.len]; exact Nat.min_eq_left (Nat.mul_le_mul_right _ hk), by have := h.cap; omega, h.max, fun hm => by
    obtain ⟨ad, e1, e2, e3⟩ := h.cells (by omega)
    exact ⟨ad, e1, e2, fun j u hu => e3 j u (by rw [List.getElem?_take] at hu; split at hu; exact hu; cases hu)⟩⟩
theorem Rd.drop (h : Rd B w z A m c cs) {k : Nat} (hk : k ≤ m) : Rd B w z (if c = k then A else A.map (·.add (k * z))) (m - k) (c - k) (cs.drop (k * z)) :=
  ⟨by rw [List.length_drop, h.len, Nat.sub_mul], by have := h.cap; omega, by have := h.max; omega, fun hm => by
    obtain ⟨ad, e1, e2, e3⟩ := h.cells (by omega)
    have := h.cap
    rw [if_neg (by omega)]
    subst e1
    exact ⟨ad.add (k * z), rfl, by rw [block_add]; exact e2, fun j u hu => by rw [add_add]; exact e3 _ u (by rw [← hu, List.getElem?_drop])⟩⟩
theorem Own.len (h : Own b w e z A m c cs) : cs.length = m * z := h.1
theorem Own.form (h : Own b w e z A m c cs) : (A = none ∧ m = 0 ∧ c = 0) ∨ ∃ g, A = some ⟨g, 0, none⟩ ∧ b ≤ g ∧ g < w.heap.size := by
  rcases h.2 with ⟨h1, _⟩ | ⟨g, cap, cur, h1, h2, h3, _⟩
  · cases h1; exact .inl ⟨rfl, rfl, rfl⟩
  · cases h1
    refine .inr ⟨g, rfl, h2, ?_⟩
    rcases Nat.lt_or_ge g w.heap.size with h | h
    · exact h
    · rw [Array.getElem?_eq_none h] at h3; cases h3
theorem Own.rd (h : Own b w e z A m c cs) : Rd w.heap.size w z A m c cs := by
  rcases h.2 with ⟨h1, h2⟩ | ⟨g, cap, cur, h1, h2, h3, h4, h5, h6, h7⟩
  · cases h1; have := h.1; exact ⟨h.1, Nat.le_refl _, by simp [maxLen], fun hm => by omega⟩
  · cases h1
    refine ⟨h.1, h4, h5, fun hm => ⟨⟨g, 0, none⟩, rfl, ?_, h.cells rfl⟩⟩
    rcases Nat.lt_or_ge g w.heap.size with h | h
    · exact h
    · rw [Array.getElem?_eq_none h] at h3; cases h3
theorem Own.grown (h : Own b w e z A m c cs) {row : Option Nat} (hg : w.grownBy w' row) (hr : ∀ g, row = some g → bl A ≠ some g) : Own b w' e z A m c cs :=
  World.ownsRow.kept h hg (by
    cases A with
    | none => exact .inl rfl
    | some a => exact .inr fun e => hr a.block e.symm rfl)
theorem Own.ext (h : Own b w e z A m c cs) (hg : w.grownBy w' none) : Own b w' e z A m c cs := h.grown hg (fun _ e => by cases e)
theorem Own.bl_ge (h : Own b w e z A m c cs) : ∀ g, bl A = some g → b ≤ g ∧ g < w.heap.size := by
  intro g hg
  rcases h.form with ⟨rfl, _⟩ | ⟨g', rfl, h1, h2⟩
  · cases hg
  · cases hg; exact ⟨h1, h2⟩
theorem Own.low {b' : Nat} (h : Own b w e z A m c cs) (hb : b' ≤ b) : Own b' w e z A m c cs := by
  refine ⟨h.1, h.2.imp id ?_⟩
  rintro ⟨g, cap, cur, h1, h2, h3⟩
  exact ⟨g, cap, cur, h1, by omega, h3⟩
theorem below_grown {B : Nat} {w0 w w' : World} {row : Option Nat} (h : Below B w0 w) (hg : w.grownBy w' row) (hB : B ≤ w0.heap.size) (hr : ∀ g, row = some g → B ≤ g) : Below B w0 w' :=
  h.grown hg (Nat.le_trans hB h.size) hr
theorem ext_below {w w' : World} (h : Below w.heap.size w w') : w.grownBy w' none := ⟨h.os, h.tape, h.output, h.size, fun k hk _ => h.block k hk⟩
theorem ext_refl (w : World) : w.grownBy w none := World.grownBy.refl w none
theorem ext_trans {a b c : World} (h : a.grownBy b none) (k : b.grownBy c none) : a.grownBy c none := World.grownBy.trans h k
end

section
variable {P : Program} {n : Nat} {N : Post} {L : Fr} {w : World} {ops : Array Oper} {rest : List Oper}
variable {d : Nat} {ty : TypeId} {pos : String} {af : Array Edge}
/-- The address of an element. -/
theorem WL.index {x i : Operand} {t e : TypeId} {z by_ : Nat} {zero : Value} {A : Option Addr} {m c B : Nat} {cs : List Value} {k : IntKind} {J : Int} {wR : World} (j : Nat)
    (ht : P.underlying t = some (.slice e)) (he : Elem P e z by_ zero) (hx : ev L x = some (.slice A m c)) (hi : ev L i = some (.int k J)) (hJ : J = j) (hj : j < m) (hR : Rd B wR z A m c cs) (hn : Nat.blt d n = true)
    (h : WL P n ops rest N ((d, .pointer (some ((adOf A).add (j * z)))) :: L) w) : WL P n ops (⟨some d, .indexAddr t x i, ty, pos, af, none⟩ :: rest) N L w := by
  obtain ⟨inf, h1, h2, h3, h4⟩ := he.ex
  obtain ⟨ad, e1, _, _⟩ := hR.cells (by omega)
  subst e1; subst hJ
  refine WL.val rfl rfl hn (fun a ha => ?_) h
  have hc : (0 : Int) ≤ (j : Int) ∧ (j : Int) < (m : Int) := by omega
  simp [execOp, ha.ev hx, ha.ev hi, Instr.indexAt, asIntOf, run_underlying ht, sizeOf, typeInfo, h1, h3, hj, adOf]
theorem WL.load {x : Operand} {t : TypeId} {D : TypeDesc} {p : Addr} {v : Value} (hu : P.underlying t = some D) (hD : (match D with | .struct _ | .array _ _ => true | _ => false) = false) (hx : ev L x = some (.pointer (some p))) (hc : w.cell? p = some v) (hn : Nat.blt d n = true)
    (h : WL P n ops rest N ((d, v) :: L) w) : WL P n ops (⟨some d, .load t x, ty, pos, af, none⟩ :: rest) N L w := by
  refine WL.val rfl rfl hn (fun a ha => ?_) h
  have hag : (isAgg t).run P w = .ok false w := by
    simp only [isAgg, Sem.run_bind, run_underlying hu, Result.andThen_ok]
    cases D <;> simp_all
  simp [execOp, ha.ev hx, Instr.loadAt, Instr.sureAddr, loadVar, hag, Go.load, Sem.run, hc]
/-- A store into an element of one cell of a row of the call's own. -/
theorem WL.store {x y : Operand} {t e : TypeId} {by_ : Nat} {zero : Value} {A : Option Addr} {m c b j : Nat} {cs : List Value} {v : Value}
    (he : Elem P t 1 by_ zero) (hx : ev L x = some (.pointer (some ((adOf A).add j)))) (hy : ev L y = some v) (h1 : v.oneCell' = true) (hj : j < m) (hO : Own b w e 1 A m c cs) 
    (h : ∀ w', Own b w' e 1 A m c (cs.set j v) → w.grownBy w' (bl A) → WL P n ops rest N L w') : WL P n ops (⟨none, .store t x y, ty, pos, af, none⟩ :: rest) N L w := by
  obtain ⟨inf, i1, i2, i3, i4⟩ := he.ex
  rcases hO.form with ⟨_, h0, _⟩ | ⟨g, rfl, hg1, hg2⟩
  · omega
  · have hs := World.ownsRow.stored hO j v
    refine WL.act rfl rfl (fun a ha => ?_) (h _ hs.1 hs.2)
    have hfr := World.ownsRow.frozenAt hO j
    have hce := World.ownsRow.cellAt hO j (by omega)
    have hl : j < cs.length := by have := hO.1; omega
    rw [List.getElem?_eq_getElem hl] at hce
    have hadd : (adOf (some ⟨g, 0, none⟩)).add j = ⟨g, j, none⟩ := by
      unfold adOf Addr.add; simp; intro h; exact h.symm
    have hcs : v.cells = #[v] := by cases v <;> simp_all [Value.cells, Value.oneCell']
    rw [hadd] at hx
    have hz : (⟨g, j, none⟩ : Addr).add 0 = ⟨g, j, none⟩ := rfl
    simp [execOp, ha.ev hx, ha.ev hy, Instr.storeAt, Instr.sureAddr, storeVar, sizeOf, typeInfo, i1, i3, hcs, storeCells, run_store _ _ _ _ _ h1, hce, hfr, hz]
theorem WL.make {x y : Operand} {t e : TypeId} {z by_ : Nat} {zero : Value} {k k' : IntKind} {J : Int} (b m : Nat) (ht : P.underlying t = some (.slice e)) (he : Elem P e z by_ zero)
    (hx : ev L x = some (.int k J)) (hy : ev L y = some (.int k' J)) (hJ : J = m) (hby : by_ * m ≤ 281474976710656) (hm : m ≤ maxLen) (hb : b ≤ w.heap.size) (hn : Nat.blt d n = true)
    (h : ∀ A w', A = some ⟨w.heap.size, 0, none⟩ → Own b w' e z A m m (madeCells zero.cells (m * z)).toList → w.grownBy w' none → WL P n ops rest N ((d, .slice A m m) :: L) w') :
    WL P n ops (⟨some d, .makeSlice t x y, ty, pos, af, none⟩ :: rest) N L w := by
  obtain ⟨inf, i1, i2, i3, i4⟩ := he.ex
  subst hJ
  obtain ⟨w', hr, h1, h2⟩ := run_make_full (P := P) w b t e inf zero z ht i1 i2 i3 k k' m (by rw [i4]; exact hby) hm hb
  exact WL.val rfl rfl hn (fun a ha => by simp [execOp, ha.ev hx, ha.ev hy, hr]) (h _ w' rfl h1 h2)
/-- append, onto a row of the call's own. -/
theorem WL.append {x y : Operand} {t e : TypeId} {z by_ : Nat} {zero : Value} {A A' : Option Addr} {m c m' c' B b : Nat} {cs cs' : List Value} (mm : Nat) (ls : List Value) (ht : P.underlying t = some (.slice e)) (he : Elem P e z by_ zero)
    (hx : ev L x = some (.slice A m c)) (hy : ev L y = some (.slice A' m' c')) (hO : Own b w e z A m c cs) (hR : Rd B w z A' m' c' cs') (h1 : ∀ u ∈ cs', u.oneCell' = true)
    (hmax : m + m' ≤ maxLen) (hby : (m + m') * by_ ≤ 140737488355328) (hb : b ≤ w.heap.size) (hmm : m + m' = mm) (hls : cs ++ cs' = ls) (hn : Nat.blt d n = true)
    (h : ∀ A2 c2 w', Own b w' e z A2 mm c2 ls → w.grownBy w' (bl A) → (bl A2 = bl A ∨ bl A2 = some w.heap.size) → WL P n ops rest N ((d, .slice A2 mm c2) :: L) w') :
    WL P n ops (⟨some d, .call ⟨.builtin .append, #[x, y], #[t, t]⟩, ty, pos, af, none⟩ :: rest) N L w := by
  subst hmm; subst hls
  obtain ⟨inf, i1, i2, i3, i4⟩ := he.ex
  have hob : (Value.slice A m c).ownBlock = bl A := by cases A <;> rfl
  rcases Nat.eq_zero_or_pos m' with h0 | h0
  · subst h0
    have hnil : cs' = [] := List.eq_nil_of_length_eq_zero (by simpa using hR.len)
    subst hnil
    have hr : (Builtin.append_ #[t, t] ty #[.slice A m c, .slice A' 0 c']).run P w = .ok (.slice A m c) w := by
      rcases hO.2 with ⟨h2, h3⟩ | ⟨g, cap, cur, h2, h3, h4, h5, h6, h7, h8⟩
      · cases h2
        cases A' <;> simp [Builtin.append_, run_underlying ht, sizeOf, typeInfo, i1, Builtin.lenOf, Builtin.firstCells, loadCells, loadCellsFrom]
      · cases h2
        cases A' <;> simp [Builtin.append_, run_underlying ht, sizeOf, typeInfo, i1, Builtin.lenOf, Builtin.firstCells, loadCells, loadCellsFrom, h5, storeCells]
    exact WL.val rfl rfl hn (fun a ha => by simp [execOp, resolve, invoke, builtin, ha.ev hx, ha.ev hy, hr]) (h A c w (by simpa using hO) (World.grownBy.refl w _) (.inl rfl))
  · obtain ⟨ad, rfl, _, hcell⟩ := hR.cells h0
    obtain ⟨v', w', hr, o1, o2, _, o4⟩ := run_append_own_at (P := P) w b t ty e inf zero z by_ ht i1 i2 i3 i4 he.zs he.pos (.slice A m c) m cs hO ad m' c' cs' hR.len hcell h1 hmax hby hb
    have hv : ∃ A2 c2, v' = .slice A2 (m + m') c2 := by
      rcases o1.2 with ⟨rfl, h3⟩ | ⟨g, cap, cur, rfl, _⟩
      · omega
      · exact ⟨_, _, rfl⟩
    obtain ⟨A2, c2, rfl⟩ := hv
    have hob2 : (Value.slice A2 (m + m') c2).ownBlock = bl A2 := by cases A2 <;> rfl
    rw [hob] at o2 o4
    rw [hob2] at o4
    exact WL.val rfl rfl hn (fun a ha => by simp [execOp, resolve, invoke, builtin, ha.ev hx, ha.ev hy, hr]) (h A2 c2 w' o1 o2 o4)
/-- A literal of a slice. -/
theorem WL.lit {t e : TypeId} {z by_ : Nat} {zero : Value} {k b : Nat} {parts : List (Nat × Operand)} {cells : List Value} (ht : P.underlying t = some (.slice e)) (he : Elem P e z by_ zero)
    (hk : k * z ≤ 16777216) (hp : ∃ vs, evs L (parts.map (·.2)) = some vs ∧ Instr.fill (fun i => some (i * z, z)) ((Array.range (k * z)).map (zero.cells[· % zero.cells.size]!)) ((parts.map (·.1)).zip vs) = some cells.toArray)
    (hl : cells.length = k * z) (hb : b ≤ w.heap.size) (hn : Nat.blt d n = true)
    (h : ∀ A w', A = some ⟨w.heap.size, 0, none⟩ → Own b w' e z A k k cells → w.grownBy w' none → WL P n ops rest N ((d, .slice A k k) :: L) w') :
    WL P n ops (⟨some d, .buildSlice t k parts.toArray, ty, pos, af, none⟩ :: rest) N L w := by
  obtain ⟨inf, i1, i2, i3, i4⟩ := he.ex
  obtain ⟨vs, hv, hf⟩ := hp
  have hkm : k ≤ maxLen := by
    have : k * 1 ≤ k * z := Nat.mul_le_mul_left _ he.pos
    simp [maxLen]; omega
  have hown := World.ownsRow_lit (e := e) (size := z) w cells.toArray k hb hkm (by simpa using hl)
  refine WL.val rfl rfl hn (fun a ha => ?_) (h _ _ rfl hown (World.grownBy_alloc w _ none))
  have hm := ha.evs hv
  have hz : (parts.map fun x => (x.1, a.eval x.2)) = (parts.map (·.1)).zip vs := by
    rw [← hm]
    clear hm hf hv hl hown
    induction parts with
    | nil => rfl
    | cons p l ih => simp [ih]
  have hgt : ¬ 16777216 < k * z := by omega
  by_cases h0 : k * z = 0
  · have he0 : cells = [] := List.eq_nil_of_length_eq_zero (by rw [hl, h0])
    subst he0
    have hr0 : (Array.range (k * z)).map (fun x => zero.cells[x % zero.cells.size]!) = #[] := Array.eq_empty_of_size_eq_zero (by simp [h0])
    rw [hr0] at hf
    have hr1 : (Array.range 0).map (fun _ => (default : Value)) = #[] := Array.eq_empty_of_size_eq_zero (by simp)
    simp [execOp, Instr.buildSlice, run_underlying ht, sizeOf, typeInfo, i1, i3, h0, newRow, hz, hr1, hf]
  · simp [execOp, Instr.buildSlice, run_underlying ht, sizeOf, typeInfo, zeroValue, i1, i2, i3, h0, hgt, newRow, hz, hf]
/-- 'a[:j]'. -/
theorem WL.slTo {x y : Operand} {t e : TypeId} {z by_ : Nat} {zero : Value} {A : Option Addr} {m c : Nat} {k : IntKind} {J : Int} (j : Nat) (ht : P.underlying t = some (.slice e)) (he : Elem P e z by_ zero)
    (hx : ev L x = some (.slice A m c)) (hy : ev L y = some (.int k J)) (hJ : J = j) (hj : j ≤ c) (hn : Nat.blt d n = true)
    (h : WL P n ops rest N ((d, .slice A j c) :: L) w) : WL P n ops (⟨some d, .slice t x none (some y) none, ty, pos, af, none⟩ :: rest) N L w := by
  obtain ⟨inf, i1, i2, i3, i4⟩ := he.ex
  subst hJ
  refine WL.val rfl rfl hn (fun a ha => ?_) h
  have : (A.map (·.add 0)) = A := by cases A <;> rfl
  by_cases hc : c = 0
  · simp [execOp, ha.ev hx, ha.ev hy, Instr.sliceAt, Instr.slice, Instr.sliceBounds, Instr.sliceBound, asIntOf, run_underlying ht, sizeOf, typeInfo, i1, hc]
    omega
  · simp [execOp, ha.ev hx, ha.ev hy, Instr.sliceAt, Instr.slice, Instr.sliceBounds, Instr.sliceBound, asIntOf, run_underlying ht, sizeOf, typeInfo, i1, hj, hc, this]
/-- 'a[j:]'. -/
theorem WL.slFrom {x y : Operand} {t e : TypeId} {z by_ : Nat} {zero : Value} {A : Option Addr} {m c : Nat} {k : IntKind} {J : Int} (j : Nat) (ht : P.underlying t = some (.slice e)) (he : Elem P e z by_ zero)
    (hx : ev L x = some (.slice A m c)) (hy : ev L y = some (.int k J)) (hJ : J = j) (hj : j ≤ m) (hn : Nat.blt d n = true)
    (h : WL P n ops rest N ((d, .slice (if c = j then A else A.map (·.add (j * z))) (m - j) (c - j)) :: L) w) : WL P n ops (⟨some d, .slice t x (some y) none none, ty, pos, af, none⟩ :: rest) N L w := by
  obtain ⟨inf, i1, i2, i3, i4⟩ := he.ex
  subst hJ
  refine WL.val rfl rfl hn (fun a ha => ?_) h
  simp [execOp, ha.ev hx, ha.ev hy, Instr.sliceAt, Instr.slice, Instr.sliceBounds, Instr.sliceBound, asIntOf, run_underlying ht, sizeOf, typeInfo, i1, i3, hj]
end
end Go.Proofs.Ythfpcebcfjlkmab
