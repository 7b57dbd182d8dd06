/- Contracts of functions of the program, and what they lean on. -/
import Derived.Test.YthfpcebcfjlkmacW25
set_option linter.unusedSimpArgs false
set_option linter.unusedVariables false
namespace Go.Proofs.Ythfpcebcfjlkmac
open Go.RowKit
theorem qAdd0_c {w : World} : Calls Try.prog 14 #[.slice none 0 0] w fun e w2 => ∃ v, e = .returned v ∧ (fun v w2 => ∃ A2 m2 c2 A3 m3 c3, v = .agg #[.bool (qneg (0)), .slice A2 m2 c2, .slice A3 m3 c3] ∧ w.grownBy w2 none ∧ Own w.heap.size w2 48 1 A2 m2 c2 (us (digs (qnum (0)))) ∧ Own w.heap.size w2 48 1 A3 m3 c3 (us (digs (Rat.den (0)))) ∧ m2 ≤ fb 4 0 ∧ m3 ≤ fb 4 0) v w2 :=
  qAdd_c (Rd.nil (B := w.heap.size) (by simp [maxLen])) (RatsR.nil w.heap.size w) RLim.nil 4 (RLen.nil _) (by decide)

theorem qMul0_c {w : World} : Calls Try.prog 20 #[.slice none 0 0] w fun e w2 => ∃ v, e = .returned v ∧ (fun v w2 => ∃ A2 m2 c2 A3 m3 c3, v = .agg #[.bool (qneg (1)), .slice A2 m2 c2, .slice A3 m3 c3] ∧ w.grownBy w2 none ∧ Own w.heap.size w2 48 1 A2 m2 c2 (us (digs (qnum (1)))) ∧ Own w.heap.size w2 48 1 A3 m3 c3 (us (digs (Rat.den (1)))) ∧ m2 ≤ fb 4 0 ∧ m3 ≤ fb 4 0) v w2 :=
  qMul_c (Rd.nil (B := w.heap.size) (by simp [maxLen])) (RatsR.nil w.heap.size w) RLim.nil 4 (RLen.nil _) (by decide)

theorem rlen_of {K : Nat} {rs : List Fr3} (h : ∀ j, j < rs.length → (rs.getD j fr0).2.1.length + (rs.getD j fr0).2.2.length ≤ K) : RLen K rs := fun j hj => by have := h j hj; omega
theorem rlen_sz {rs : List Fr3} (h : ∀ j, j < rs.length → (rs.getD j fr0).2.1.length * 4 ≤ 140737488351232 ∧ (rs.getD j fr0).2.2.length * 4 ≤ 140737488351232) : RLen 140737488355328 rs := fun j hj => by have := h j hj; omega
theorem fb16 {n : Nat} (h : n ≤ 16) : fb 4 n ≤ 91 := Nat.le_trans (fb_mono h) (by decide)
end Go.Proofs.Ythfpcebcfjlkmac
