/- Contracts of functions of the program, and what they lean on: Args3, Args4. -/
import Derived.Test.YtdmgbahognfhbaaG7
set_option linter.unusedSimpArgs false
set_option linter.unusedVariables false
namespace Go.Proofs.Ytdmgbahognfhbaa
open Go.ChangeShapes Go.WideShapes Go.ChangeAt Go.RowKit
/-- A slice of ints that came in. -/
theorem ints_arg {H : Type} {enc : TypeId × Value → H} {P : Program} {W : World} {base : Nat} {spare : Nat → Bool} {held : Bool} {t e : TypeId} {A : Option Addr} {m c : Nat} {d : DataW H} {p : List MemPlace}
    (ht : P.underlying t = some (.slice e)) (he : P.underlying e = some (.int .i64)) (hc : P.cellsOf e = 1) (h : DataW.Trod enc P W base spare held t (.slice A m c) d p) : ∃ xs : List Int, Rd W.heap.size W 1 A m c (is xs) ∧ ILim xs ∧ ((d = .nil ∧ m = 0) ∨ ∃ es ss, d = .slice es ss ∧ es.length = m) := by
  obtain ⟨fuel, hf⟩ := h
  rcases open_ints ht he hc hf with ⟨hcs, hx⟩ | ⟨x, l, c', zs, hcs, _, hl, hm, hz, hx, hcell, hwz⟩
  · simp [Value.cells] at hcs
    obtain ⟨rfl, rfl, rfl⟩ := hcs
    cases hx
    exact ⟨[], Rd.nil (by simp [maxLen]), ILim.nil, .inl ⟨rfl, rfl⟩⟩
  · simp [Value.cells] at hcs
    obtain ⟨rfl, rfl, rfl⟩ := hcs
    have hzl : m ≤ zs.length := by rw [hz]; split <;> omega
    have hw : ∀ n ∈ zs, -9223372036854775808 ≤ n ∧ n ≤ 9223372036854775807 := fun n hn => int_arg (hwz n hn)
    have hr : Rd W.heap.size W 1 (some x) m c (is (zs.take m)) := by
      refine Rd.norm (B := x.block + 1) ⟨?_, hl, hm, fun hm0 => ⟨x, rfl, Nat.lt_succ_self _, fun j u hu => ?_⟩⟩
      · simp only [is_len, List.length_take]; omega
      · simp only [is, List.getElem?_map, Option.map_eq_some_iff] at hu
        obtain ⟨z, hz1, rfl⟩ := hu
        rw [List.getElem?_take] at hz1
        split at hz1
        · rename_i hj
          have hjl : j < zs.length := by omega
          have h1 := hcell j hjl
          rw [h1, List.getD_eq_getElem?_getD, hz1]
          rfl
        · cases hz1
    refine ⟨_, hr, fun n hn => hw n (List.mem_of_mem_take hn), .inr ?_⟩
    cases hx
    exact ⟨_, _, rfl, by simp [lits]; omega⟩
end Go.Proofs.Ytdmgbahognfhbaa
namespace Go.Proofs.Ytdmgbahognfhbaa
theorem u32n_arg {x : Int} (h : (Lit.int .u32 x).wf = true) : ∃ n : Nat, x = n ∧ n < 4294967296 := by
  have := u32_arg h; exact ⟨x.toNat, by omega, by omega⟩
theorem u16_arg {x : Int} (h : (Lit.int .u16 x).wf = true) : ∃ n : Nat, x = n ∧ n < 65536 := by
  simp [Lit.wf, IntKind.min, IntKind.max, IntKind.signed, IntKind.bits] at h
  exact ⟨x.toNat, by omega, by omega⟩
theorem i32_arg {x : Int} (h : (Lit.int .i32 x).wf = true) : -2147483648 ≤ x ∧ x ≤ 2147483647 := by
  simp [Lit.wf, IntKind.min, IntKind.max, IntKind.signed, IntKind.bits] at h
  omega
end Go.Proofs.Ytdmgbahognfhbaa
