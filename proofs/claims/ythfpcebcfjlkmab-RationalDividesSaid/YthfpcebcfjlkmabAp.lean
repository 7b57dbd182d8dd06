/- Contracts of functions of the program, and what they lean on. -/
import Derived.Test.YthfpcebcfjlkmabVr
namespace Go.Proofs.Ythfpcebcfjlkmab
open Go.RowKit
/-- Rows of two types are apart. -/
theorem ap_type {b b' : Nat} {w : World} {e e' z z' m c m' c' g : Nat} {A : Option Addr} {cs cs' : List Value} (h : Own b w e z A m c cs) (hV : Own b' w e' z' (some ⟨g, 0, none⟩) m' c' cs') (hne : e ≠ e') : ∀ k, bl A = some k → k ≠ g := by
  intro k hk hkg
  subst hkg
  rcases h.2 with ⟨h1, _⟩ | ⟨g1, cap, cur, h1, h2, h3, _⟩
  · cases h1; cases hk
  · cases h1
    rcases hV.2 with ⟨k1, _⟩ | ⟨g2, cap2, cur2, k1, k2, k3, _⟩
    · cases k1
    · cases k1
      cases hk
      rw [h3] at k3
      cases k3
      exact hne rfl
end Go.Proofs.Ythfpcebcfjlkmab
