/- Contracts of functions of the program, and what they lean on. -/
import Derived.Test.YthfpcebcfjlkmabPL3
import Derived.ProofKit
import Derived.OpenShut
import Derived.ShutString
import Derived.ChangeOld
import Derived.Deep.Slices
import Derived.Test.YthfpcebcfjlkmabPL4
namespace Go.Proofs.Ythfpcebcfjlkmab
open Go.ChangeShapes Go.WideShapes Go.ChangeAt Go.RowKit
theorem u64_arg {x : Int} (h : (Lit.int .u64 x).wf = true) : ∃ n : Nat, x = n ∧ n < 18446744073709551616 := by
  simp [Lit.wf, IntKind.min, IntKind.max, IntKind.signed, IntKind.bits] at h
  exact ⟨x.toNat, by omega, by omega⟩
theorem u8_arg {x : Int} (h : (Lit.int .u8 x).wf = true) : ∃ n : Nat, x = n ∧ n < 256 := by
  simp [Lit.wf, IntKind.min, IntKind.max, IntKind.signed, IntKind.bits] at h
  exact ⟨x.toNat, by omega, by omega⟩
theorem u32_arg {x : Int} (h : (Lit.int .u32 x).wf = true) : 0 ≤ x ∧ x < 4294967296 := by
  simp [Lit.wf, IntKind.min, IntKind.max, IntKind.signed, IntKind.bits] at h
  exact ⟨by omega, by omega⟩
theorem int_arg {x : Int} (h : (Lit.int .i64 x).wf = true) : -9223372036854775808 ≤ x ∧ x ≤ 9223372036854775807 := by
  simp [Lit.wf, IntKind.min, IntKind.max, IntKind.signed, IntKind.bits] at h
  exact ⟨by omega, by omega⟩
/-- A slice of limbs that came in. -/
theorem nat_arg_d {H : Type} {enc : TypeId × Value → H} {P : Program} {W : World} {base : Nat} {spare : Nat → Bool} {held : Bool} {t e : TypeId} {A : Option Addr} {m c : Nat} {d : DataW H} {p : List MemPlace}
    (ht : P.underlying t = some (.slice e)) (he : P.underlying e = some (.int .u32)) (hc : P.cellsOf e = 1) (h : DataW.Trod enc P W base spare held t (.slice A m c) d p) : ∃ xs : List Nat, Rd W.heap.size W 1 A m c (us xs) ∧ Lim xs ∧ ((d = .nil ∧ m = 0) ∨ ∃ es ss, d = .slice es ss ∧ es.length = m) := by
  obtain ⟨fuel, hf⟩ := h
  rcases open_ints ht he hc hf with ⟨hcs, hx⟩ | ⟨x, l, c', zs, hcs, _, hl, hm, hz, hx, hcell, hwz⟩
  · simp [Value.cells] at hcs
    obtain ⟨rfl, rfl, rfl⟩ := hcs
    cases hx
    exact ⟨[], Rd.nil (by simp [maxLen]), Lim.nil, .inl ⟨rfl, rfl⟩⟩
  · simp [Value.cells] at hcs
    obtain ⟨rfl, rfl, rfl⟩ := hcs
    have hzl : m ≤ zs.length := by rw [hz]; split <;> omega
    have hw : ∀ n ∈ zs, 0 ≤ n ∧ n < 4294967296 := fun n hn => u32_arg (hwz n hn)
    have hr : Rd W.heap.size W 1 (some x) m c (us ((zs.take m).map Int.toNat)) := by
      refine Rd.norm (B := x.block + 1) ⟨?_, hl, hm, fun hm0 => ⟨x, rfl, Nat.lt_succ_self _, fun j u hu => ?_⟩⟩
      · simp only [us_len, List.length_map, List.length_take]; omega
      · simp only [us, List.getElem?_map, Option.map_eq_some_iff] at hu
        obtain ⟨n, ⟨z, hz1, rfl⟩, rfl⟩ := hu
        rw [List.getElem?_take] at hz1
        split at hz1
        · rename_i hj
          have hjl : j < zs.length := by omega
          have h1 := hcell j hjl
          have h2 := hw z (List.mem_of_getElem? hz1)
          rw [h1, List.getD_eq_getElem?_getD, hz1]
          simp only [Option.getD_some]
          congr 2
          omega
        · cases hz1
    refine ⟨_, hr, fun n hn => ?_, .inr ?_⟩
    · obtain ⟨z, hz1, rfl⟩ := List.mem_map.1 hn
      have := hw z (List.mem_of_mem_take hz1)
      omega
    · cases hx
      exact ⟨_, _, rfl, by simp [lits]; omega⟩
theorem nat_arg {H : Type} {enc : TypeId × Value → H} {P : Program} {W : World} {base : Nat} {spare : Nat → Bool} {held : Bool} {t e : TypeId} {A : Option Addr} {m c : Nat} {d : DataW H} {p : List MemPlace}
    (ht : P.underlying t = some (.slice e)) (he : P.underlying e = some (.int .u32)) (hc : P.cellsOf e = 1) (h : DataW.Trod enc P W base spare held t (.slice A m c) d p) : ∃ xs : List Nat, Rd W.heap.size W 1 A m c (us xs) ∧ Lim xs := by
  obtain ⟨xs, h1, h2, _⟩ := nat_arg_d ht he hc h
  exact ⟨xs, h1, h2⟩
/-- A slice of numbers that came in. -/
theorem nats_arg {H : Type} {enc : TypeId × Value → H} {P : Program} {W : World} {base : Nat} {spare : Nat → Bool} {held : Bool} {t e u : TypeId} {A : Option Addr} {m c : Nat} {d : DataW H} {p : List MemPlace}
    (ht : P.underlying t = some (.slice e)) (he : P.underlying e = some (.slice u)) (hu : P.underlying u = some (.int .u32)) (hc : P.cellsOf e = 1) (hcu : P.cellsOf u = 1) (h : DataW.Trod enc P W base spare held t (.slice A m c) d p) :
    ∃ cells xss, Rd W.heap.size W 1 A m c cells ∧ NatsR W.heap.size W cells xss ∧ LimAll xss ∧ ((d = .nil ∧ m = 0) ∨ ∃ es ss, d = .slice es ss ∧ es.length = m) := by
  obtain ⟨fuel, hf⟩ := h
  rcases Go.Deep.open_slice1 ht hc hf with ⟨hcs, hx⟩ | ⟨a, len, cap, k, n, V, D, Pl, hcs, _, hl, hm, hk, hx, hcell⟩
  · simp [Value.cells] at hcs
    obtain ⟨rfl, rfl, rfl⟩ := hcs
    cases hx
    exact ⟨[], [], Rd.nil (by simp [maxLen]), NatsR.nil _ _, (fun i h => by cases h), .inl ⟨rfl, rfl⟩⟩
  · simp [Value.cells] at hcs
    obtain ⟨rfl, rfl, rfl⟩ := hcs
    have hmk : m ≤ k := by rw [hk]; split <;> omega
    have key : ∀ i, i < m → ∃ xs, V i = .slice (sA (V i)) (sM (V i)) (sC (V i)) ∧ Rd W.heap.size W 1 (sA (V i)) (sM (V i)) (sC (V i)) (us xs) ∧ Lim xs := fun i hi => by
      obtain ⟨_, h2⟩ := hcell i (by omega)
      have hv : ∃ A' m' c', V i = .slice A' m' c' := by
        rcases open_ints he hu hcu h2 with ⟨hcs, _⟩ | ⟨x, l, c', zs, hcs, _⟩
        · exact ⟨_, _, _, by simpa using hcs⟩
        · exact ⟨_, _, _, by simpa using hcs⟩
      obtain ⟨A', m', c', hv⟩ := hv
      obtain ⟨xs, hr, hL⟩ := nat_arg (A := A') (m := m') (c := c') he hu hcu ⟨n, by rw [hv] at h2; exact h2⟩
      rw [hv]
      exact ⟨xs, rfl, hr, hL⟩
    obtain ⟨X, hX⟩ := Go.Deep.choose_lt key
    refine ⟨(List.range m).map V, (List.range m).map X, Rd.norm (B := a.block + 1) ⟨by simp, hl, hm, fun _ => ⟨a, rfl, Nat.lt_succ_self _, fun j u hu => ?_⟩⟩, ⟨by simp, fun j hj => ?_⟩, fun j hj => ?_, .inr ?_⟩
    · rw [List.getElem?_map] at hu
      have hj : j < m := by
        rcases Nat.lt_or_ge j m with h | h
        · exact h
        · rw [List.getElem?_eq_none (by simpa using h)] at hu; cases hu
      rw [List.getElem?_range hj] at hu
      simp only [Option.map_some, Option.some.injEq] at hu
      rw [← hu]
      exact (hcell j (by omega)).1
    · have hj : j < m := by simpa using hj
      have e1 : ((List.range m).map V).getD j undef = V j := by simp [List.getD_eq_getElem?_getD, hj]
      have e2 : ((List.range m).map X).getD j [] = X j := by simp [List.getD_eq_getElem?_getD, hj]
      rw [e1, e2]
      exact ⟨(hX j hj).1, (hX j hj).2.1⟩
    · have hj : j < m := by simpa using hj
      have e2 : ((List.range m).map X).getD j [] = X j := by simp [List.getD_eq_getElem?_getD, hj]
      rw [e2]
      exact (hX j hj).2.2
    · cases hx
      exact ⟨_, _, rfl, by simp⟩
end Go.Proofs.Ythfpcebcfjlkmab
