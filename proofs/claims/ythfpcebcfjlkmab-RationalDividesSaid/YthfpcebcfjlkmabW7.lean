/- Contracts of functions of the program, and what they lean on. -/
import Derived.Test.YthfpcebcfjlkmabW6
set_option linter.unusedSimpArgs false
set_option linter.unusedVariables false
namespace Go.Proofs.Ythfpcebcfjlkmab
open Go.RowKit
theorem digs_lit {n k : Nat} (h : n = k) (h0 : 0 < k) (hk : k < 4294967296) : digs n = [k] := by
  subst h
  have h1 : trimL [n] = [n] := canon_of_ge (Lim.one hk) (fun _ => by simp; omega)
  have h2 := trimL_digs [n] (Lim.one hk)
  rw [h1, nv_one] at h2
  exact h2.symm
theorem digs_congr {a b : Nat} (h : a = b) : digs a = digs b := by rw [h]
theorem same_f {w : World} {Ba : Nat} {Aa : Option Addr} {ma ca : Nat} {xa : List Nat} (ha : Rd Ba w 1 Aa ma ca (us xa)) {Bb : Nat} {Ab : Option Addr} {mb cb : Nat} {xb : List Nat} (hb : Rd Bb w 1 Ab mb cb (us xb)) (heq : xa ≠ xb) : Calls Try.prog 16 #[.slice Aa ma ca, .slice Ab mb cb] w fun e w2 => ∃ v, e = .returned v ∧ (fun v w2 => v = .bool false ∧ w.grownBy w2 none) v w2 :=
  (same_c ha hb).mono fun e w2 ⟨v, he, hv, hw⟩ => ⟨v, he, by rw [hv, decide_eq_false heq], hw⟩
theorem cmpI_cases (a b : Nat) : (a < b ∧ cmpI a b = -1) ∨ (a = b ∧ cmpI a b = 0) ∨ (b < a ∧ cmpI a b = 1) := by
  rcases Nat.lt_trichotomy a b with h | h | h
  · exact .inl ⟨h, cmpI_lt h⟩
  · exact .inr (.inl ⟨h, cmpI_eq h⟩)
  · exact .inr (.inr ⟨h, cmpI_gt h⟩)
theorem trimL_inj {a b : List Nat} (ha : Lim a) (hb : Lim b) : trimL a = trimL b ↔ nv a = nv b := by
  constructor
  · intro h; have := congrArg nv h; simpa using this
  · intro h; rw [trimL_digs _ ha, trimL_digs _ hb, h]

theorem Rd.nilU {w : World} : Rd 0 w 1 none 0 0 (us []) := Rd.nil (by simp [maxLen])
theorem NatsR.one {B : Nat} {w : World} {cells : List Value} {xss : List (List Nat)} (h : NatsR B w cells xss) : ∀ u ∈ cells, u.oneCell' = true := fun u hu => by
  obtain ⟨j, hj, rfl⟩ := List.getElem_of_mem hu
  have h1 := (h.all j (by rw [← h.len]; exact hj)).1
  have h2 : cells.getD j undef = cells[j] := by simp [List.getD_eq_getElem?_getD, hj]
  rw [h2] at h1
  rw [h1]; rfl
theorem NatsR.append {B : Nat} {w : World} {c1 c2 : List Value} {x1 x2 : List (List Nat)} (h : NatsR B w c1 x1) (h' : NatsR B w c2 x2) : NatsR B w (c1 ++ c2) (x1 ++ x2) := by
  have hl := h.len
  refine ⟨by simp [h.len, h'.len], fun j hj => ?_⟩
  rcases Nat.lt_or_ge j x1.length with hc | hc
  · have e1 : (c1 ++ c2).getD j undef = c1.getD j undef := by simp only [List.getD_eq_getElem?_getD]; rw [List.getElem?_append_left (by omega)]
    have e2 : (x1 ++ x2).getD j [] = x1.getD j [] := by simp only [List.getD_eq_getElem?_getD]; rw [List.getElem?_append_left hc]
    rw [e1, e2]; exact h.all j hc
  · have e1 : (c1 ++ c2).getD j undef = c2.getD (j - x1.length) undef := by simp only [List.getD_eq_getElem?_getD]; rw [List.getElem?_append_right (by omega), hl]
    have e2 : (x1 ++ x2).getD j [] = x2.getD (j - x1.length) [] := by simp only [List.getD_eq_getElem?_getD]; rw [List.getElem?_append_right hc]
    rw [e1, e2]; exact h'.all _ (by simp at hj; omega)
theorem getD_app_all {p : List Nat → Prop} {a b : List (List Nat)} (ha : ∀ i, i < a.length → p (a.getD i [])) (hb : ∀ i, i < b.length → p (b.getD i [])) (i : Nat) (hi : i < (a ++ b).length) : p ((a ++ b).getD i []) := by
  rcases Nat.lt_or_ge i a.length with hc | hc
  · have e : (a ++ b).getD i [] = a.getD i [] := by simp only [List.getD_eq_getElem?_getD]; rw [List.getElem?_append_left hc]
    rw [e]; exact ha i hc
  · have e : (a ++ b).getD i [] = b.getD (i - a.length) [] := by simp only [List.getD_eq_getElem?_getD]; rw [List.getElem?_append_right hc]
    rw [e]; exact hb _ (by simp at hi; omega)
theorem LimAll.append {a b : List (List Nat)} (ha : LimAll a) (hb : LimAll b) : LimAll (a ++ b) := getD_app_all ha hb
theorem LenAll.append {K : Nat} {a b : List (List Nat)} (ha : LenAll K a) (hb : LenAll K b) : LenAll K (a ++ b) := getD_app_all (p := fun x => x.length ≤ K) ha hb
theorem sumN_append (a b : List (List Nat)) : sumN (a ++ b) = sumN a + sumN b := by simp [sumN]
theorem prodN_append (a b : List (List Nat)) : prodN (a ++ b) = prodN a * prodN b := by
  induction a with
  | nil => simp
  | cons x l ih => simp [ih, Nat.mul_assoc]
end Go.Proofs.Ythfpcebcfjlkmab
