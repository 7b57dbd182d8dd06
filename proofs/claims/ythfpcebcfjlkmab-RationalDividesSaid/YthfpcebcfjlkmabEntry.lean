/- Calls, and the arithmetic of fixed widths. -/
import Derived.Test.YthfpcebcfjlkmabDraw
namespace Go.Proofs.Ythfpcebcfjlkmab
open Go.RowKit
def args0 : Nat → List Value → Fr
  | _, [] => []
  | i, v :: vs => (i, v) :: args0 (i + 1) vs
def lks (L : Fr) : List Nat → Option (List Value)
  | [] => some []
  | t :: ts => match lk L t with
    | none => none
    | some v => match lks L ts with
      | none => none
      | some vs => some (v :: vs)
def resv (L : Fr) : List Nat → Option Value
  | [t] => lk L t
  | ts => match lks L ts with
    | none => none
    | some vs => some (.tuple vs.toArray)
def endN (res : List Nat) (R : Value → World → Prop) : Post := fun L w => ∃ v, resv L res = some v ∧ R v w
def endB (res : List Nat) (R : Value → World → Prop) : BPost
  | .ret, L, w => ∃ v, resv L res = some v ∧ R v w
  | _, _, _ => False
theorem args0_at (vs : List Value) (i t : Nat) (v : Value) (h : lk (args0 i vs) t = some v) : i ≤ t ∧ vs[t - i]? = some v := by
  induction vs generalizing i with
  | nil => cases h
  | cons u vs ih =>
    by_cases e : i = t
    · subst e; rw [args0, lk_self] at h; cases h; simp
    · rw [args0, lk_ne e] at h
      obtain ⟨h1, h2⟩ := ih (i + 1) h
      refine ⟨by omega, ?_⟩
      rw [show t - i = (t - (i + 1)) + 1 by omega]
      simpa using h2
theorem lks_at {L : Fr} {a : Act} {n : Nat} (ha : Has n a L) : ∀ (ts : List Nat) (vs : List Value), lks L ts = some vs → ts.map (fun t => a.tmps.getD t undef) = vs
  | [], vs, h => by simp [lks] at h; simp [h]
  | t :: ts, vs, h => by
    unfold lks at h
    split at h
    · cases h
    · rename_i v hv
      split at h
      · cases h
      · rename_i us hus
        cases h
        rw [List.map_cons, lks_at ha ts us hus]
        simp [Array.getD_eq_getD_getElem?, ha.at_ t v hv]
theorem run_mapM {P : Program} {a : Act} {w : World} (g : ResultVar → Sem Value) (hg : ∀ t, g (.tmp t) = pure (a.tmps.getD t undef)) (res : List Nat) :
    (List.mapM g (res.map ResultVar.tmp)).run P w = .ok (res.map fun t => a.tmps.getD t undef) w := by
  induction res with
  | nil => rfl
  | cons t ts ih =>
    rw [List.map_cons, List.mapM_cons, Sem.run_bind, hg, Sem.run_pure, Result.andThen_ok, Sem.run_bind, ih]
    rfl
theorem run_results {P : Program} {fn : Func} {res : List Nat} {a : Act} {n : Nat} {L : Fr} {v : Value} {w : World} (hres : fn.results = (res.map ResultVar.tmp).toArray) (ha : Has n a L) (hv : resv L res = some v) :
    (results fn a.tmps).run P w = .ok v w := by
  unfold results
  rw [Sem.run_bind, hres, List.mapM_toArray, Sem.run_map, run_mapM _ (fun t => rfl)]
  simp only [Result.andThen_ok]
  unfold resv at hv
  split at hv
  · rename_i t
    simp [Array.getD_eq_getD_getElem?, ha.at_ t v hv]
  · rename_i hne
    split at hv
    · cases hv
    · rename_i vs hvs
      cases hv
      rw [lks_at ha _ _ hvs]
      have hl : vs.length ≠ 1 := by
        rw [← lks_at ha _ _ hvs, List.length_map]
        intro h1
        obtain ⟨t, rfl⟩ := List.length_eq_one_iff.1 h1
        exact hne t rfl
      simp [hl]
theorem calls_of_W {P : Program} {f : FuncId} {fn : Func} {c : Code} {n : Nat} {vs : List Value} {R : Value → World → Prop} {w : World} (res : List Nat) (hf : P.funcs[f]? = some fn) (hb : fn.body = some c) (hn : fn.ntmps = n)
    (hres : fn.results = (res.map ResultVar.tmp).toArray) (hle : Nat.ble vs.length n = true) (h : W P n c (endN res R) (endB res R) (args0 0 vs) w) : Calls P f vs.toArray w fun e w' => ∃ v, e = .returned v ∧ R v w' := by
  have hle' : vs.length ≤ n := by simpa [Nat.ble_eq] using hle
  refine calls_of_wp hf hb (wp_mono (h.out _ ⟨rfl, by simp [hn]; omega, fun t v hv => ?_⟩) fun e a w' q => ?_)
  · obtain ⟨_, h2⟩ := args0_at vs 0 t v hv
    have ht : t < vs.length := (List.getElem?_eq_some_iff.1 h2).1
    rw [Array.getElem?_append_left (by simpa using ht)]
    simpa using h2
  · cases e with
    | normal =>
      obtain ⟨L, hL, v, hv, hR⟩ := q
      exact ⟨hL.nd, v, run_results hres hL hv, v, rfl, hR⟩
    | ret =>
      obtain ⟨L, hL, v, hv, hR⟩ := q
      exact ⟨hL.nd, v, run_results hres hL hv, v, rfl, hR⟩
    | _ => obtain ⟨L, _, h⟩ := q; exact h.elim
theorem W.condT {P : Program} {n : Nat} {N : Post} {B : BPost} {L : Fr} {w : World} {c : Operand} {x y : Code} (hc : ev L c = some (.bool true)) (h : W P n x N B L w) : W P n (.cond c x y) N B L w := W.cond hc h
theorem W.condF {P : Program} {n : Nat} {N : Post} {B : BPost} {L : Fr} {w : World} {c : Operand} {x y : Code} (hc : ev L c = some (.bool false)) (h : W P n y N B L w) : W P n (.cond c x y) N B L w := W.cond hc h
/-! ### numbers -/
theorem wi64 {n r : Int} (lo : -9223372036854775808 ≤ n) (hi : n ≤ 9223372036854775807) (h : n = r) : IntKind.i64.wrap n = r := by rw [IntKind.wrap_i64]; omega
theorem wu64 {n r : Int} (lo : 0 ≤ n) (hi : n < 18446744073709551616) (h : n = r) : IntKind.u64.wrap n = r := by
  simp [IntKind.wrap, IntKind.bits, IntKind.signed]; omega
theorem wu64m {n r : Int} (h : n % 18446744073709551616 = r) : IntKind.u64.wrap n = r := by
  simp [IntKind.wrap, IntKind.bits, IntKind.signed]; omega
theorem wu32 {n r : Int} (lo : 0 ≤ n) (hi : n < 4294967296) (h : n = r) : IntKind.u32.wrap n = r := by
  simp [IntKind.wrap, IntKind.bits, IntKind.signed]; omega
theorem wu32m {n r : Int} (h : n % 4294967296 = r) : IntKind.u32.wrap n = r := by
  simp [IntKind.wrap, IntKind.bits, IntKind.signed]; omega
theorem wu8 {n r : Int} (lo : 0 ≤ n) (hi : n < 256) (h : n = r) : IntKind.u8.wrap n = r := by
  simp [IntKind.wrap, IntKind.bits, IntKind.signed]; omega
theorem tdiv_nat {x y : Int} {a b : Nat} (hx : x = a) (hy : y = b) : x.tdiv y = ((a / b : Nat) : Int) := by
  subst hx; subst hy; rw [Int.tdiv_eq_ediv_of_nonneg (by omega)]; rfl
theorem tmod_nat {x y : Int} {a b : Nat} (hx : x = a) (hy : y = b) : x.tmod y = ((a % b : Nat) : Int) := by
  subst hx; subst hy; rw [Int.tmod_eq_emod_of_nonneg (by omega)]; rfl
theorem qi64 {x y : Int} {a b : Nat} (hx : x = a) (hy : y = b) (ha : a < 9223372036854775808) : IntKind.i64.wrap (x.tdiv y) = ((a / b : Nat) : Int) := by
  rw [tdiv_nat hx hy]; have := Nat.div_le_self a b; generalize a / b = q at *; exact wi64 (by omega) (by omega) rfl
theorem qu64 {x y : Int} {a b : Nat} (hx : x = a) (hy : y = b) (ha : a < 18446744073709551616) : IntKind.u64.wrap (x.tdiv y) = ((a / b : Nat) : Int) := by
  rw [tdiv_nat hx hy]; have := Nat.div_le_self a b; generalize a / b = q at *; exact wu64 (by omega) (by omega) rfl
theorem qu32 {x y : Int} {a b : Nat} (hx : x = a) (hy : y = b) (ha : a < 4294967296) : IntKind.u32.wrap (x.tdiv y) = ((a / b : Nat) : Int) := by
  rw [tdiv_nat hx hy]; have := Nat.div_le_self a b; generalize a / b = q at *; exact wu32 (by omega) (by omega) rfl
/-- A shift to the right is a division, one to the left a multiplication. -/
theorem shr_nat {x y : Int} {a s : Nat} (hx : x = a) (hy : y = s) (m : Nat) (hs : s ≤ m) : x.fdiv (2 ^ min y.toNat m) = ((a / 2 ^ s : Nat) : Int) := by
  subst hx; subst hy
  rw [Int.toNat_natCast, Nat.min_eq_left hs, Int.fdiv_eq_ediv_of_nonneg _ (Int.pow_nonneg (by decide))]
  simp
theorem shl_nat {x y : Int} {a s : Nat} (hx : x = a) (hy : y = s) (m : Nat) (hs : s ≤ m) : x * 2 ^ min y.toNat m = ((a * 2 ^ s : Nat) : Int) := by
  subst hx; subst hy
  rw [Int.toNat_natCast, Nat.min_eq_left hs]
  simp
theorem iv {k : IntKind} {a b : Int} (h : a = b) : some (Value.int k a) = some (Value.int k b) := by rw [h]
/-! ### lists of limbs -/
def us (l : List Nat) : List Value := l.map fun x : Nat => .int .u32 (x : Int)
theorem us_len (l : List Nat) : (us l).length = l.length := by simp [us]
theorem us_at {l : List Nat} {j : Nat} (h : j < l.length) : (us l)[j]? = some (.int .u32 (l.getD j 0 : Nat)) := by
  simp [us, h]
theorem us_one (l : List Nat) : ∀ u ∈ us l, u.oneCell' = true := by
  intro u hu; simp only [us, List.mem_map] at hu; obtain ⟨x, _, rfl⟩ := hu; rfl
theorem us_set (l : List Nat) (j x : Nat) : (us l).set j (.int .u32 (x : Int)) = us (l.set j x) := by simp [us, List.map_set]
theorem us_append (a b : List Nat) : us a ++ us b = us (a ++ b) := by simp [us]
theorem us_app {a b c : List Nat} (h : a ++ b = c) : us a ++ us b = us c := by rw [us_append, h]
theorem us_take (l : List Nat) (k : Nat) : (us l).take (k * 1) = us (l.take k) := by simp [us, List.map_take]
theorem us_drop (l : List Nat) (k : Nat) : (us l).drop (k * 1) = us (l.drop k) := by simp [us, List.map_drop]
theorem Rd.ulen {B : Nat} {w : World} {A : Option Addr} {m c : Nat} {l : List Nat} (h : Rd B w 1 A m c (us l)) : l.length = m := by have := h.len; rw [us_len] at this; omega
section
variable {P : Program} {n : Nat} {N : Post} {L : Fr} {w : World} {ops : Array Oper} {rest : List Oper}
variable {d : Nat} {ty : TypeId} {pos : String} {af : Array Edge}
theorem WL.index1 {x i : Operand} {t e : TypeId} {by_ : Nat} {zero : Value} {A : Option Addr} {m c B : Nat} {cs : List Value} {k : IntKind} {J : Int} {wR : World} (j : Nat)
    (ht : P.underlying t = some (.slice e)) (he : Elem P e 1 by_ zero) (hx : ev L x = some (.slice A m c)) (hi : ev L i = some (.int k J)) (hJ : J = j) (hj : j < m) (hR : Rd B wR 1 A m c cs) (hn : Nat.blt d n = true)
    (h : WL P n ops rest N ((d, .pointer (some ((adOf A).add j))) :: L) w) : WL P n ops (⟨some d, .indexAddr t x i, ty, pos, af, none⟩ :: rest) N L w :=
  WL.index j ht he hx hi hJ hj hR hn (by rw [Nat.mul_one]; exact h)
end
theorem fill_seq (vs : List Value) : ∀ (c : List Value) (i : Nat), (∀ v ∈ vs, v.oneCell' = true) → i + vs.length ≤ c.length →
    Instr.fill (fun i => some (i * 1, 1)) c.toArray ((List.range' i vs.length).zip vs) = some (c.take i ++ vs ++ c.drop (i + vs.length)).toArray := by
  induction vs with
  | nil => intro c i _ _; simp [Instr.fill]
  | cons v vs ih =>
    intro c i h1 hl
    have hv : v.cells = #[v] := by have := h1 v (List.mem_cons_self ..); cases v <;> simp_all [Value.cells, Value.oneCell']
    simp only [List.length_cons] at hl
    have hlt : i < c.length := by omega
    simp only [List.length_cons, List.range'_succ, List.zip_cons_cons, Instr.fill, hv, Nat.mul_one]
    rw [if_neg (by simp; omega)]
    have := ih (c.set i v) (i + 1) (fun u hu => h1 u (List.mem_cons_of_mem _ hu)) (by simp; omega)
    have hz : (#[v] : Array Value).zipIdx = #[(v, 0)] := by simp [Array.zipIdx]
    have hf : Array.foldl (fun (cs : Array Value) (x : Value × Nat) => cs.setIfInBounds (i + x.2) x.1) c.toArray #[(v, 0)] = (c.set i v).toArray := by simp
    rw [hz]
    refine Eq.trans (congrArg (fun q => Instr.fill _ q _) hf) ?_
    simp only [Nat.mul_one] at this
    rw [this]
    congr 2
    rw [List.take_succ_eq_append_getElem (by simpa using hlt)]
    simp only [List.getElem_set_self, List.take_set_of_le (Nat.le_refl i), List.append_assoc, List.singleton_append]
    congr 2
    rw [show i + (vs.length + 1) = i + 1 + vs.length by omega, List.drop_set_of_lt (by omega)]
section
variable {P : Program} {n : Nat} {N : Post} {L : Fr} {w : World} {ops : Array Oper} {rest : List Oper}
variable {d : Nat} {ty : TypeId} {pos : String} {af : Array Edge}
/-- A literal of a slice whose elements are one cell each, all given, in order. -/
theorem WL.lit1 {t e : TypeId} {by_ : Nat} {zero : Value} {k b : Nat} {parts : List (Nat × Operand)} {vs : List Value} (ht : P.underlying t = some (.slice e)) (he : Elem P e 1 by_ zero)
    (hk : Nat.ble k 1000 = true) (hv : evs L (parts.map (·.2)) = some vs) (hp : parts.map (·.1) = List.range' 0 k) (hl : vs.length = k) (h1 : ∀ v ∈ vs, v.oneCell' = true) (hb : b ≤ w.heap.size) (hn : Nat.blt d n = true)
    (h : ∀ A w', A = some ⟨w.heap.size, 0, none⟩ → Own b w' e 1 A k k vs → w.grownBy w' none → WL P n ops rest N ((d, .slice A k k) :: L) w') :
    WL P n ops (⟨some d, .buildSlice t k parts.toArray, ty, pos, af, none⟩ :: rest) N L w := by
  have hk' : k ≤ 1000 := by simpa [Nat.ble_eq] using hk
  refine WL.lit (cells := vs) ht he (by omega) ⟨vs, hv, ?_⟩ (by omega) hb hn h
  rw [hp, ← hl]
  have := fill_seq vs ((Array.range (vs.length * 1)).map (zero.cells[· % zero.cells.size]!)).toList 0 h1 (by simp)
  rw [Array.toArray_toList, List.drop_of_length_le (by simp), List.append_nil, List.take_zero, List.nil_append] at this
  exact this
end
theorem Vs_mono {len s : Nat} (Vs : List (Value → World → Prop)) (h : ∀ V ∈ Vs, ∀ v w1 w2, V v w1 → (w1.grownBy w2 none ∨ s < len) → V v w2) :
    ∀ j v w1 w2, (Vs.getD j (fun _ _ => True)) v w1 → (w1.grownBy w2 none ∨ s < len) → (Vs.getD j (fun _ _ => True)) v w2 := by
  intro j v w1 w2 h1 h2
  rw [List.getD_eq_getElem?_getD] at h1 ⊢
  cases hj : Vs[j]? with
  | none => trivial
  | some V => rw [hj] at h1; exact h V (List.mem_of_getElem? hj) v w1 w2 h1 h2
theorem ext_own {w0 w w' : World} {A : Option Addr} (h : w0.grownBy w none) (hg : w.grownBy w' (bl A)) (hb : ∀ g, bl A = some g → w0.heap.size ≤ g) : w0.grownBy w' none :=
  ⟨hg.os.trans h.os, hg.tape.trans h.tape, hg.output.trans h.output, Nat.le_trans h.size hg.size, fun k hk _ => (hg.block k (Nat.lt_of_lt_of_le hk h.size) (fun e => by have := hb k e.symm; omega)).trans (h.block k hk (by simp))⟩
theorem Rd.norm {B : Nat} {w : World} {z : Nat} {A : Option Addr} {m c : Nat} {cs : List Value} (h : Rd B w z A m c cs) (hz : 0 < z := by decide) : Rd w.heap.size w z A m c cs :=
  ⟨h.len, h.cap, h.max, fun hm => by
    obtain ⟨ad, e1, _, e3⟩ := h.cells hm
    have hl : 0 < cs.length := by rw [h.len]; exact Nat.mul_pos hm hz
    exact ⟨ad, e1, by have := World.block_lt_of_cell? w _ (e3 0 _ (List.getElem?_eq_getElem hl)); rwa [block_add] at this, e3⟩⟩
theorem ext_bel {w0 w w' : World} (h : w0.grownBy w none) (hg : Below w0.heap.size w w') : w0.grownBy w' none :=
  ⟨hg.os.trans h.os, hg.tape.trans h.tape, hg.output.trans h.output, Nat.le_trans h.size hg.size, fun k hk _ => (hg.block k hk).trans (h.block k hk (by simp))⟩
theorem bel_of {w w' : World} (h : w.grownBy w' none) : Below w.heap.size w w' := ⟨h.os, h.tape, h.output, h.size, fun k hk => h.block k hk (by simp)⟩
theorem made_us (k : Nat) : (madeCells (Value.int .u32 0).cells (k * 1)).toList = us (List.replicate k 0) := by
  rw [Nat.mul_one]
  show (madeCells #[Value.int .u32 0] k).toList = _
  rw [toList_madeCells_one]
  simp [us]
end Go.Proofs.Ythfpcebcfjlkmab
