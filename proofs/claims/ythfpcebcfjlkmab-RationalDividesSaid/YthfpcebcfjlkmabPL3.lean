/- Contracts of functions of the program, and what they lean on. -/
import Derived.Test.YthfpcebcfjlkmabPL2
import Derived.Test.YthfpcebcfjlkmabEntry
import Derived.Test.YthfpcebcfjlkmabPL2
namespace Go.Proofs.Ythfpcebcfjlkmab
open Go.RowKit
theorem Rd.sig {B : Nat} {w : World} {A : Option Addr} {m c : Nat} {l : List Nat} (h : Rd B w 1 A m c (us l)) : Rd B w 1 A (sigL l) c (us (trimL l)) := by
  have := h.take (k := sigL l) (by rw [← h.ulen]; exact sigL_le l)
  rwa [us_take, ← trimL_take] at this
theorem Own.sig {b : Nat} {w : World} {e : Nat} {A : Option Addr} {m c : Nat} {l : List Nat} (h : Own b w e 1 A m c (us l)) : Own b w e 1 A (sigL l) c (us (trimL l)) := by
  have hl : l.length = m := h.rd.ulen
  refine ⟨by rw [us_len]; simp [sigL], ?_⟩
  rcases h.2 with ⟨h1, h2⟩ | ⟨g, cap, cur, h1, h2, h3, h4, h5, h6, h7⟩
  · cases h1
    have : l = [] := List.eq_nil_of_length_eq_zero hl
    subst this
    exact .inl ⟨rfl, rfl⟩
  · cases h1
    have hs := sigL_le l
    refine .inr ⟨g, _, cur, rfl, h2, h3, by omega, h5, h6, ?_⟩
    rw [trimL_take, ← us_take, ← h7, List.take_take, Nat.min_eq_left (by omega)]
def sA : Value → Option Addr | .slice A _ _ => A | _ => none
def sM : Value → Nat | .slice _ m _ => m | _ => 0
def sC : Value → Nat | .slice _ _ c => c | _ => 0
/-- Cells that are slices of limbs. -/
structure NatsR (B : Nat) (w : World) (cells : List Value) (xss : List (List Nat)) : Prop where
  len : cells.length = xss.length
  all : ∀ j, j < xss.length → cells.getD j undef = .slice (sA (cells.getD j undef)) (sM (cells.getD j undef)) (sC (cells.getD j undef)) ∧ Rd B w 1 (sA (cells.getD j undef)) (sM (cells.getD j undef)) (sC (cells.getD j undef)) (us (xss.getD j []))
theorem NatsR.at_ {B : Nat} {w : World} {cells : List Value} {xss : List (List Nat)} (h : NatsR B w cells xss) (j : Nat) (hj : j < xss.length) : cells.getD j undef = .slice (sA (cells.getD j undef)) (sM (cells.getD j undef)) (sC (cells.getD j undef)) ∧ Rd B w 1 (sA (cells.getD j undef)) (sM (cells.getD j undef)) (sC (cells.getD j undef)) (us (xss.getD j [])) := h.all j hj
theorem NatsR.cell {B : Nat} {w : World} {cells : List Value} {xss : List (List Nat)} (h : NatsR B w cells xss) (j : Nat) (hj : j < xss.length) : cells[j]? = some (.slice (sA (cells.getD j undef)) (sM (cells.getD j undef)) (sC (cells.getD j undef))) := by
  rw [← (h.at_ j hj).1]
  have : j < cells.length := by rw [h.len]; exact hj
  simp [List.getD_eq_getElem?_getD, this]
theorem NatsR.nil (B : Nat) (w : World) : NatsR B w [] [] := ⟨rfl, fun j h => by cases h⟩
theorem NatsR.cons {B : Nat} {w : World} {A : Option Addr} {m c : Nat} {l : List Nat} {cells : List Value} {xss : List (List Nat)} (h : Rd B w 1 A m c (us l)) (hs : NatsR B w cells xss) : NatsR B w (.slice A m c :: cells) (l :: xss) :=
  ⟨by simp [hs.len], fun j hj => by
    cases j with
    | zero => exact ⟨rfl, h⟩
    | succ j => simpa using hs.all j (by simpa using hj)⟩
theorem NatsR.ext {B : Nat} {w w' : World} {cells : List Value} {xss : List (List Nat)} (h : NatsR B w cells xss) (hg : w.grownBy w' none) : NatsR B w' cells xss := ⟨h.len, fun j hj => ⟨(h.all j hj).1, (h.all j hj).2.ext hg⟩⟩
theorem NatsR.below {B : Nat} {w w' : World} {cells : List Value} {xss : List (List Nat)} (h : NatsR B w cells xss) (hg : Below B w w') : NatsR B w' cells xss := ⟨h.len, fun j hj => ⟨(h.all j hj).1, (h.all j hj).2.below hg⟩⟩
theorem NatsR.norm {B : Nat} {w : World} {cells : List Value} {xss : List (List Nat)} (h : NatsR B w cells xss) : NatsR w.heap.size w cells xss := ⟨h.len, fun j hj => ⟨(h.all j hj).1, (h.all j hj).2.norm⟩⟩
theorem NatsR.take {B : Nat} {w : World} {cells : List Value} {xss : List (List Nat)} (h : NatsR B w cells xss) (k : Nat) : NatsR B w (cells.take k) (xss.take k) := by
  refine ⟨by simp [h.len], fun j hj => ?_⟩
  have hj' : j < xss.length ∧ j < k := by simp at hj; omega
  have e1 : (cells.take k).getD j undef = cells.getD j undef := by simp [List.getD_eq_getElem?_getD, hj'.2]
  have e2 : (xss.take k).getD j [] = xss.getD j [] := by simp [List.getD_eq_getElem?_getD, hj'.2]
  rw [e1, e2]; exact h.all j hj'.1
theorem NatsR.drop {B : Nat} {w : World} {cells : List Value} {xss : List (List Nat)} (h : NatsR B w cells xss) (k : Nat) : NatsR B w (cells.drop k) (xss.drop k) := by
  refine ⟨by simp [h.len], fun j hj => ?_⟩
  have hj' : k + j < xss.length := by simp at hj; omega
  have e1 : (cells.drop k).getD j undef = cells.getD (k + j) undef := by simp [List.getD_eq_getElem?_getD]
  have e2 : (xss.drop k).getD j [] = xss.getD (k + j) [] := by simp [List.getD_eq_getElem?_getD]
  rw [e1, e2]; exact h.all _ hj'
end Go.Proofs.Ythfpcebcfjlkmab
