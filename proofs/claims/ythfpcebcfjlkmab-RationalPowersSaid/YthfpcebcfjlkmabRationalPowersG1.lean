/- Contracts of functions of the program, and what they lean on: Pure, PL, PL2, Core, Ops, Mem, Draw, Entry, PL3, PL4, Args, St, Vr, Facts. -/
import Derived.WalkKit
import Derived.Maps.AppendAt
import Derived.Orders
import Derived.Still
import Derived.ProofKit
import Derived.OpenShut
import Derived.ShutString
import Derived.ChangeOld
import Derived.Deep.Slices
import Derived.Laws.Tables
import Derived.Test.YthfpcebcfjlkmabProg
namespace Go.Proofs.Ythfpcebcfjlkmab
/-- The value of a list of limbs. -/
def nv : List Nat → Nat
  | [] => 0
  | x :: l => x + 4294967296 * nv l
def Lim (l : List Nat) : Prop := ∀ x ∈ l, x < 4294967296
/-- Canonical limbs of a number, with fuel. -/
def digsF : Nat → Nat → List Nat
  | 0, _ => []
  | f + 1, n => if n = 0 then [] else n % 4294967296 :: digsF f (n / 4294967296)
def digs (n : Nat) : List Nat := digsF n n
/-- The list without zeros at its end. -/
def trimL : List Nat → List Nat
  | [] => []
  | x :: l => match trimL l with
    | [] => if x = 0 then [] else [x]
    | y :: r => x :: y :: r
theorem Lim.nil : Lim [] := fun _ h => by cases h
theorem Lim.cons {x : Nat} {l : List Nat} (hx : x < 4294967296) (h : Lim l) : Lim (x :: l) := fun y hy => by
  rcases List.mem_cons.1 hy with rfl | hy
  · exact hx
  · exact h _ hy
theorem Lim.tail {x : Nat} {l : List Nat} (h : Lim (x :: l)) : Lim l := fun y hy => h y (List.mem_cons_of_mem _ hy)
theorem Lim.head {x : Nat} {l : List Nat} (h : Lim (x :: l)) : x < 4294967296 := h x (List.mem_cons_self ..)
theorem nv_append (a b : List Nat) : nv (a ++ b) = nv a + 4294967296 ^ a.length * nv b := by
  induction a with
  | nil => simp [nv]
  | cons x l ih => simp only [List.cons_append, nv, ih, List.length_cons, Nat.pow_succ, Nat.mul_add]; rw [Nat.add_assoc]; congr 2; rw [← Nat.mul_assoc, Nat.mul_comm 4294967296]
theorem nv_lt {l : List Nat} (h : Lim l) : nv l < 4294967296 ^ l.length := by
  induction l with
  | nil => simp [nv]
  | cons x l ih => 
    have h1 := ih h.tail
    have h2 := h.head
    simp only [nv, List.length_cons, Nat.pow_succ]
    omega
theorem nv_zeros (n : Nat) : nv (List.replicate n 0) = 0 := by
  induction n with
  | zero => rfl
  | succ n ih => simp [List.replicate_succ, nv, ih]
theorem digsF_eq (f n : Nat) (h : n ≤ f) : nv (digsF f n) = n := by
  induction f generalizing n with
  | zero => simp [digsF, nv]; omega
  | succ f ih =>
    unfold digsF
    split
    · rename_i h0; subst h0; rfl
    · simp only [nv]; rw [ih _ (by omega)]; omega
theorem nv_digs (n : Nat) : nv (digs n) = n := digsF_eq n n (Nat.le_refl _)
theorem digsF_more (f g n : Nat) (hf : n ≤ f) (hg : n ≤ g) : digsF f n = digsF g n := by
  induction f generalizing g n with
  | zero => have : n = 0 := by omega
            subst this; cases g <;> simp [digsF]
  | succ f ih => 
    cases g with
    | zero => have : n = 0 := by omega
              subst this; simp [digsF]
    | succ g => 
      unfold digsF
      split
      · rfl
      · rw [ih g (n / 4294967296) (by omega) (by omega)]
theorem digs_zero : digs 0 = [] := rfl
theorem digs_pos (n : Nat) (h : 0 < n) : digs n = n % 4294967296 :: digs (n / 4294967296) := by
  unfold digs
  cases n with
  | zero => omega
  | succ n => rw [digsF, if_neg (by omega), digsF_more n _ _ (by omega) (Nat.le_refl _)]
theorem digs_lim (n : Nat) : Lim (digs n) := by
  induction n using Nat.strongRecOn with
  | _ n ih =>
    rcases Nat.eq_zero_or_pos n with rfl | h
    · exact Lim.nil
    · rw [digs_pos n h]; exact Lim.cons (Nat.mod_lt _ (by decide)) (ih _ (by omega))
theorem nv_trimL (l : List Nat) : nv (trimL l) = nv l := by
  induction l with
  | nil => rfl
  | cons x l ih =>
    unfold trimL
    split
    · rename_i h; rw [h] at ih; split
      · rename_i h0; subst h0; simp [nv, ← ih]
      · simp [nv, ← ih]
    · rename_i h; rw [h] at ih; rw [nv, ih]; rfl
theorem trimL_digs (l : List Nat) (h : Lim l) : trimL l = digs (nv l) := by
  induction l with
  | nil => rfl
  | cons x l ih =>
    have ih := ih h.tail
    have hx := h.head
    unfold trimL
    simp only [nv]
    split
    · rename_i h0
      rw [h0] at ih
      have hz : nv l = 0 := by rw [← nv_trimL, h0]; rfl
      rw [hz]
      split
      · rename_i h1; subst h1; rfl
      · rw [digs_pos _ (by omega), show (x + 4294967296 * 0) / 4294967296 = 0 by omega, digs_zero]; congr 1; omega
    · rename_i y r h0
      have hz : nv l ≠ 0 := by
        intro hz; rw [ih, hz] at h0; cases h0
      rw [digs_pos _ (by omega), show (x + 4294967296 * nv l) / 4294967296 = nv l by omega, ← ih, h0]; congr 1; omega
theorem trimL_len (l : List Nat) : (trimL l).length ≤ l.length := by
  induction l with
  | nil => simp [trimL]
  | cons x l ih => unfold trimL; split
                   · split <;> simp
                   · rename_i h; rw [h] at ih; simpa using ih
end Go.Proofs.Ythfpcebcfjlkmab
namespace Go.Proofs.Ythfpcebcfjlkmab
/-- The number of limbs without the zeros at the end. -/
def sigL (l : List Nat) : Nat := (trimL l).length
theorem sigL_le (l : List Nat) : sigL l ≤ l.length := trimL_len l
theorem trimL_take (l : List Nat) : trimL l = l.take (sigL l) := by
  unfold sigL
  induction l with
  | nil => rfl
  | cons x l ih =>
    unfold trimL
    split
    · split <;> simp
    · rename_i y r h; rw [h] at ih; simp only [List.length_cons, List.take_succ_cons] at ih ⊢; rw [← ih]
theorem trimL_zeros (l : List Nat) (k : Nat) (h : ∀ j, k ≤ j → l.getD j 0 = 0) : trimL l = trimL (l.take k) := by
  induction l generalizing k with
  | nil => simp
  | cons x l ih =>
    cases k with
    | zero =>
      have h0 := h 0 (Nat.le_refl _)
      have := ih 0 (fun j _ => by have := h (j + 1) (by omega); simpa using this)
      simp at h0
      subst h0
      simp only [List.take_zero] at this ⊢
      unfold trimL; rw [this]; rfl
    | succ k =>
      have := ih k (fun j hj => by have := h (j + 1) (by omega); simpa using this)
      simp only [List.take_succ_cons]
      unfold trimL; rw [this]
theorem sigL_zero {l : List Nat} {j : Nat} (h : sigL l ≤ j) : l.getD j 0 = 0 := by
  unfold sigL at h
  induction l generalizing j with
  | nil => simp
  | cons x l ih =>
    unfold trimL at h
    split at h
    · rename_i h0
      cases j with
      | zero => split at h
                · rename_i h1; subst h1; rfl
                · simp at h
      | succ j => rw [h0] at ih; simpa using ih (by simp : ([] : List Nat).length ≤ j)
    · rename_i y r h0
      cases j with
      | zero => simp at h
      | succ j => rw [h0] at ih; simpa using ih (by simpa using h)
theorem sigL_last {l : List Nat} (h : 0 < sigL l) : l.getD (sigL l - 1) 0 ≠ 0 := by
  unfold sigL at *
  induction l with
  | nil => simp [trimL] at h
  | cons x l ih =>
    unfold trimL at h ⊢
    split
    · rename_i h0; rw [h0] at h
      split
      · rename_i h1; simp [h1] at h
      · simpa
    · rename_i y r h0
      rw [h0] at ih
      have := ih (by simp)
      simpa using this
theorem sigL_step {l : List Nat} {k : Nat} (h : sigL l ≤ k) (hk : 0 < k) (h0 : l.getD (k - 1) 0 = 0) : sigL l ≤ k - 1 := by
  rcases Nat.lt_or_ge (k - 1) (sigL l) with h1 | h1
  · have e : k = sigL l := by omega
    subst e
    exact absurd h0 (sigL_last hk)
  · exact h1
theorem sigL_stop {l : List Nat} {k : Nat} (h : sigL l ≤ k) (hk : 0 < k) (h0 : l.getD (k - 1) 0 ≠ 0) : k = sigL l := by
  rcases Nat.lt_or_ge (sigL l) k with h1 | h1
  · exact absurd (sigL_zero (by omega)) h0
  · omega
theorem take_succ' {l : List Nat} {k : Nat} (h : k < l.length) : l.take (k + 1) = l.take k ++ [l.getD k 0] := by
  rw [List.take_succ_eq_append_getElem h]; simp [h]
theorem take_step {a b : List Nat} {k : Nat} (h : a.take k = b.take k) (ha : k < a.length) (hb : k < b.length) (he : a.getD k 0 = b.getD k 0) : a.take (k + 1) = b.take (k + 1) := by
  rw [take_succ' ha, take_succ' hb, h, he]
theorem take_all {a b : List Nat} {k : Nat} (h : a.take k = b.take k) (ha : a.length ≤ k) (hb : b.length ≤ k) : a = b := by
  rwa [List.take_of_length_le ha, List.take_of_length_le hb] at h
theorem getD_out {l : List Nat} {i : Nat} (h : l.length ≤ i) : l.getD i 0 = 0 := by simp [List.getD_eq_getElem?_getD, List.getElem?_eq_none h]
end Go.Proofs.Ythfpcebcfjlkmab
namespace Go.Proofs.Ythfpcebcfjlkmab
theorem nv_take_succ (l : List Nat) (i : Nat) : nv (l.take (i + 1)) = nv (l.take i) + 4294967296 ^ i * l.getD i 0 := by
  rcases Nat.lt_or_ge i l.length with h | h
  · rw [take_succ' h, nv_append, List.length_take, Nat.min_eq_left (by omega)]; simp [nv]
  · rw [List.take_of_length_le (by omega), List.take_of_length_le (by omega), getD_out h]; simp
theorem nv_take_all {l : List Nat} {i : Nat} (h : l.length ≤ i) : nv (l.take i) = nv l := by rw [List.take_of_length_le h]
theorem Lim.getD {l : List Nat} (h : Lim l) (i : Nat) : l.getD i 0 < 4294967296 := by
  rcases Nat.lt_or_ge i l.length with h1 | h1
  · simp only [List.getD_eq_getElem?_getD, List.getElem?_eq_getElem h1, Option.getD_some]; exact h _ (List.getElem_mem h1)
  · rw [getD_out h1]; decide
theorem Lim.append {a b : List Nat} (ha : Lim a) (hb : Lim b) : Lim (a ++ b) := fun x hx => by
  rcases List.mem_append.1 hx with h | h
  · exact ha x h
  · exact hb x h
theorem Lim.one {x : Nat} (h : x < 4294967296) : Lim [x] := Lim.cons h Lim.nil
theorem Lim.take {l : List Nat} (h : Lim l) (k : Nat) : Lim (l.take k) := fun x hx => h x (List.mem_of_mem_take hx)
theorem Lim.drop {l : List Nat} (h : Lim l) (k : Nat) : Lim (l.drop k) := fun x hx => h x (List.mem_of_mem_drop hx)
theorem Lim.set {l : List Nat} (h : Lim l) (k : Nat) {x : Nat} (hx : x < 4294967296) : Lim (l.set k x) := fun y hy => by
  rcases List.mem_or_eq_of_mem_set hy with h1 | h1
  · exact h y h1
  · subst h1; exact hx
theorem Lim.zeros (n : Nat) : Lim (List.replicate n 0) := fun x hx => by rw [(List.mem_replicate.1 hx).2]; decide
theorem Lim.trim {l : List Nat} (h : Lim l) : Lim (trimL l) := by rw [trimL_take]; exact h.take _
theorem add_step {P c x y u v s : Nat} {ys : List Nat} (hl : 4294967296 ^ ys.length = P) (h : nv ys + P * c = u + v) (hs : s = x + y + c) :
    nv (ys ++ [s % 4294967296]) + P * 4294967296 * (s / 4294967296) = (u + P * x) + (v + P * y) := by
  rw [nv_append, hl]
  simp only [nv, Nat.mul_zero, Nat.add_zero]
  have h1 : P * (s % 4294967296) + P * 4294967296 * (s / 4294967296) = P * s := by
    rw [Nat.mul_assoc, ← Nat.mul_add, Nat.mod_add_div]
  have h2 : P * s = P * x + P * y + P * c := by rw [hs, Nat.mul_add, Nat.mul_add]
  omega
theorem sub_step {P c x y u v s : Nat} {ys : List Nat} (hl : 4294967296 ^ ys.length = P) (h : nv ys + v = u + P * c) (hc : c ≤ 1) (hy : y < 4294967296) (hs : s = x + 4294967296 - y - c) (hx : x < 4294967296) :
    nv (ys ++ [s % 4294967296]) + (v + P * y) = (u + P * x) + P * 4294967296 * (1 - s / 4294967296) ∧ 1 - s / 4294967296 ≤ 1 := by
  refine ⟨?_, by omega⟩
  rw [nv_append, hl]
  simp only [nv, Nat.mul_zero, Nat.add_zero]
  have h1 : s % 4294967296 + y + c = x + 4294967296 * (1 - s / 4294967296) := by omega
  have h2 : P * (s % 4294967296) + P * y + P * c = P * x + P * 4294967296 * (1 - s / 4294967296) := by
    rw [Nat.mul_assoc, ← Nat.mul_add, ← Nat.mul_add, ← Nat.mul_add, h1]
  omega
/-- The comparison of two numbers, as Go gives it. -/
def cmpI (a b : Nat) : Int := if a < b then -1 else if b < a then 1 else 0
theorem cmpI_lt {a b : Nat} (h : a < b) : cmpI a b = -1 := by simp [cmpI, h]
theorem cmpI_gt {a b : Nat} (h : b < a) : cmpI a b = 1 := by simp [cmpI, h, show ¬ a < b by omega]
theorem cmpI_eq {a b : Nat} (h : a = b) : cmpI a b = 0 := by simp [cmpI, h]
theorem nv_split (l : List Nat) (i : Nat) : nv l = nv (l.take i) + 4294967296 ^ i * nv (l.drop i) := by
  rcases Nat.le_total i l.length with h | h
  · have := nv_append (l.take i) (l.drop i)
    rw [List.take_append_drop, List.length_take, Nat.min_eq_left h] at this; exact this
  · rw [List.take_of_length_le h, List.drop_of_length_le h]; simp [nv]
theorem nv_drop (l : List Nat) (i : Nat) : nv (l.drop i) = l.getD i 0 + 4294967296 * nv (l.drop (i + 1)) := by
  rcases Nat.lt_or_ge i l.length with h | h
  · rw [List.drop_eq_getElem_cons h]; simp [nv, h]
  · rw [List.drop_of_length_le h, List.drop_of_length_le (by omega), getD_out h]; rfl
/-- The limbs from i on agree. -/
theorem nv_lt_at {a b : List Nat} {i : Nat} (ha : Lim a) (hd : nv (a.drop (i + 1)) = nv (b.drop (i + 1))) (h : a.getD i 0 < b.getD i 0) : nv a < nv b := by
  rw [nv_split a i, nv_split b i, nv_drop a i, nv_drop b i, hd]
  have h1 := nv_lt (ha.take i)
  have h2 : 4294967296 ^ (a.take i).length ≤ 4294967296 ^ i := Nat.pow_le_pow_right (by decide) (List.length_take_le ..)
  have h3 : 4294967296 ^ i * (a.getD i 0 + 4294967296 * nv (b.drop (i + 1))) + 4294967296 ^ i ≤ 4294967296 ^ i * (b.getD i 0 + 4294967296 * nv (b.drop (i + 1))) := by
    rw [← Nat.mul_succ]; exact Nat.mul_le_mul_left _ (by omega)
  omega
theorem drop_step {a b : List Nat} {i : Nat} (hd : nv (a.drop (i + 1)) = nv (b.drop (i + 1))) (h : a.getD i 0 = b.getD i 0) : nv (a.drop i) = nv (b.drop i) := by
  rw [nv_drop a i, nv_drop b i, hd, h]
theorem sigL_lt {a b : List Nat} (ha : Lim a) (h : sigL a < sigL b) : nv a < nv b := by
  have h0 := nv_lt ha.trim
  rw [nv_trimL] at h0
  have h1 : 4294967296 ^ (trimL a).length ≤ 4294967296 ^ (sigL b - 1) := Nat.pow_le_pow_right (by decide) (by unfold sigL at *; omega)
  have h2 := nv_split b (sigL b - 1)
  have h3 := nv_drop b (sigL b - 1)
  have h4 := sigL_last (l := b) (by omega)
  have h5 : 4294967296 ^ (sigL b - 1) * 1 ≤ 4294967296 ^ (sigL b - 1) * nv (b.drop (sigL b - 1)) := Nat.mul_le_mul_left _ (by omega)
  omega
theorem nv_drop_sig (l : List Nat) {i : Nat} (h : sigL l ≤ i) : nv (l.drop i) = 0 := by
  induction hn : l.length - i generalizing i with
  | zero => rw [List.drop_of_length_le (by omega)]; rfl
  | succ n ih => rw [nv_drop, sigL_zero h, ih (by omega) (by omega)]
theorem digs_trim {l : List Nat} (h : Lim l) : trimL l = digs (nv l) := trimL_digs l h
end Go.Proofs.Ythfpcebcfjlkmab
namespace Go.Proofs.Ythfpcebcfjlkmab
open Go.RowKit

abbrev Fr := List (Nat × Value)
/-- What a frame is known to hold at a slot. -/
def lk : Fr → Nat → Option Value
  | [], _ => none
  | (k, v) :: l, t => bif Nat.beq k t then some v else lk l t
structure Has (n : Nat) (a : Act) (L : Fr) : Prop where
  nd : a.defers = []
  sz : a.tmps.size = n
  at_ : ∀ t v, lk L t = some v → a.tmps[t]? = some v
theorem beq_ne {k t : Nat} (h : k ≠ t) : Nat.beq k t = false := by
  cases hb : Nat.beq k t
  · rfl
  · exact absurd (Nat.eq_of_beq_eq_true hb) h
theorem beq_self (k : Nat) : Nat.beq k k = true := Nat.beq_refl k
theorem lk_self (k : Nat) (v : Value) (L : Fr) : lk ((k, v) :: L) k = some v := by simp [lk]
theorem lk_ne {k t : Nat} (h : k ≠ t) (v : Value) (L : Fr) : lk ((k, v) :: L) t = lk L t := by
  simp [lk, beq_ne h]
theorem Has.put {n : Nat} {a : Act} {L : Fr} (h : Has n a L) {d : Nat} (hd : d < n) (v : Value) : Has n (a.put (some d) v) ((d, v) :: L) := by
  refine ⟨h.nd, by simp [Act.put, h.sz], fun t u hu => ?_⟩
  by_cases e : d = t
  · subst e
    rw [lk_self] at hu
    have hs : d < a.tmps.size := by rw [h.sz]; exact hd
    simpa [Act.put, hs] using hu
  · rw [lk_ne e] at hu
    simp [Act.put, e, h.at_ _ _ hu]
def ev (L : Fr) : Operand → Option Value
  | .tmp t => lk L t
  | .const v => some v
  | .global g => some (.pointer (some ⟨g, 0, none⟩))
  | .func f => some (.func (.func f) #[] #[])
theorem Has.ev {n : Nat} {a : Act} {L : Fr} (h : Has n a L) {x : Operand} {v : Value} (hx : ev L x = some v) : a.eval x = v := by
  cases x with
  | tmp t => have := h.at_ t v hx; simp [Act.eval, Array.getD_eq_getD_getElem?, this]
  | const c => simpa [Go.Proofs.Ythfpcebcfjlkmab.ev, Act.eval] using hx
  | global g => simpa [Go.Proofs.Ythfpcebcfjlkmab.ev, Act.eval] using hx
  | func f => simpa [Go.Proofs.Ythfpcebcfjlkmab.ev, Act.eval] using hx
def evs (L : Fr) : List Operand → Option (List Value)
  | [] => some []
  | x :: l => match ev L x with
    | none => none
    | some v => match evs L l with
      | none => none
      | some vs => some (v :: vs)
theorem Has.evs {n : Nat} {a : Act} {L : Fr} (h : Has n a L) {xs : List Operand} {vs : List Value} (hx : evs L xs = some vs) : xs.map a.eval = vs := by
  induction xs generalizing vs with
  | nil => simp [Go.Proofs.Ythfpcebcfjlkmab.evs] at hx; simp [hx]
  | cons x l ih =>
    unfold Go.Proofs.Ythfpcebcfjlkmab.evs at hx
    split at hx
    · cases hx
    · rename_i v hv
      split at hx
      · cases hx
      · rename_i us hus
        cases hx
        simp [h.ev hv, ih hus]
/-- Every known slot of M is known in L, and the same. -/
def sub : Fr → Fr → Prop
  | [], _ => True
  | (k, v) :: M, L => lk L k = some v ∧ sub M L
theorem Has.sub {n : Nat} {a : Act} {L M : Fr} (h : Has n a L) (hs : sub M L) : Has n a M := by
  refine ⟨h.nd, h.sz, ?_⟩
  induction M with
  | nil => intro t v hv; cases hv
  | cons p M ih =>
    obtain ⟨k, u⟩ := p
    intro t v hv
    by_cases e : k = t
    · subst e; rw [lk_self] at hv; cases hv; exact h.at_ _ _ hs.1
    · rw [lk_ne e] at hv; exact ih hs.2 t v hv

abbrev Post := Fr → World → Prop
abbrev BPost := Exit → Fr → World → Prop
def fin (n : Nat) (N : Post) (B : BPost) : Exit → Act → World → Prop
  | .normal, a, w => ∃ L, Has n a L ∧ N L w
  | e, a, w => ∃ L, Has n a L ∧ B e L w
structure W (P : Program) (n : Nat) (c : Code) (N : Post) (B : BPost) (L : Fr) (w : World) : Prop where
  out : ∀ a, Has n a L → c.wp P (fin n N B) a w
/-- The operations of a region that are left. -/
structure WL (P : Program) (n : Nat) (ops : Array Oper) (l : List Oper) (N : Post) (L : Fr) (w : World) : Prop where
  out : ∀ a, Has n a L → ∀ B, wpList P ops (fin n N B) l a w

section code
variable {P : Program} {n : Nat} {N : Post} {B : BPost} {L : Fr} {w : World}
theorem W.skip (h : N L w) : W P n .skip N B L w := ⟨fun _ ha => wp_skip ⟨_, ha, h⟩⟩
theorem W.ret (h : B .ret L w) : W P n .ret N B L w := ⟨fun _ ha => wp_ret ⟨_, ha, h⟩⟩
theorem W.exit {id : Nat} (h : B (.exit id) L w) : W P n (.exit id) N B L w := ⟨fun _ ha => wp_exit ⟨_, ha, h⟩⟩
theorem W.seq {x y : Code} (h : W P n x (fun L w => W P n y N B L w) B L w) : W P n (.seq x y) N B L w :=
  ⟨fun a ha => wp_seq (wp_mono (h.out a ha) fun e a' w' q => by
    cases e with
    | normal => obtain ⟨L', h1, h2⟩ := q; exact h2.out _ h1
    | _ => exact q)⟩
theorem W.cond {c : Operand} {x y : Code} {b : Bool} (hc : ev L c = some (.bool b)) (h : W P n (bif b then x else y) N B L w) : W P n (.cond c x y) N B L w :=
  ⟨fun a ha => wp_cond (t := b) (ha.ev hc) (by cases b <;> exact h.out a ha)⟩
theorem W.cond2 {c : Operand} {x y : Code} {b : Bool} (hc : ev L c = some (.bool b)) (ht : b = true → W P n x N B L w) (hf : b = false → W P n y N B L w) : W P n (.cond c x y) N B L w :=
  ⟨fun a ha => wp_cond_split (ha.ev hc) (fun e => (ht e).out a ha) (fun e => (hf e).out a ha)⟩
def blk (id : Nat) (N : Post) (B : BPost) : BPost
  | .exit i, L, w => bif Nat.beq i id then N L w else B (.exit i) L w
  | e, L, w => B e L w
theorem W.block {id : Nat} {c : Code} (h : W P n c N (blk id N B) L w) : W P n (.block id c) N B L w :=
  ⟨fun a ha => wp_block (wp_mono (h.out a ha) fun e a' w' q => by
    cases e with
    | exit i =>
      obtain ⟨L', h1, h2⟩ := q
      by_cases e : i = id
      · subst e
        simp only [blk, beq_self, cond_true] at h2
        simp only [Exit.inBlock, if_true]
        exact ⟨L', h1, h2⟩
      · have hb := beq_ne e
        simp only [blk, hb, cond_false] at h2
        simp only [Exit.inBlock, if_neg e]
        exact ⟨L', h1, h2⟩
    | _ => exact q)⟩
/-- A loop: what holds at the head of a round, of a state s; what the frame then holds; a measure. -/
theorem W.loop {σ : Type} {c : Code} (I : σ → World → Prop) (fr : σ → Fr) (μ : σ → Nat) (s0 : σ) (h0 : I s0 w) (hf : sub (fr s0) L)
    (round : ∀ s w, I s w → W P n c (fun L' w' => ∃ s', sub (fr s') L' ∧ μ s' < μ s ∧ I s' w') B (fr s) w) : W P n (.loop c) N B L w := by
  refine ⟨fun a ha => ?_⟩
  have key : ∀ k s w a, μ s = k → I s w → Has n a (fr s) → (Code.loop c).wp P (fin n N B) a w := by
    intro k
    induction k using Nat.strongRecOn with
    | _ k ih =>
      intro s w a hk hI hF
      refine wp_loop (I := fun a' w' => ∃ s', μ s' < k + 1 ∧ I s' w' ∧ Has n a' (fr s')) (μ := fun a' w' => Classical.epsilon fun m => ∃ s', μ s' = m ∧ I s' w' ∧ Has n a' (fr s') ∧ ∀ s'', I s'' w' → Has n a' (fr s'') → m ≤ μ s'') ⟨s, by omega, hI, hF⟩ ?_
      intro a1 w1 ⟨s1, hlt, hI1, hF1⟩
      -- the least measure of a state that fits
      have hex : ∃ m, ∃ s', μ s' = m ∧ I s' w1 ∧ Has n a1 (fr s') ∧ ∀ s'', I s'' w1 → Has n a1 (fr s'') → m ≤ μ s'' := by
        have : ∀ b s', μ s' ≤ b → I s' w1 → Has n a1 (fr s') → ∃ m, ∃ s', μ s' = m ∧ I s' w1 ∧ Has n a1 (fr s') ∧ ∀ s'', I s'' w1 → Has n a1 (fr s'') → m ≤ μ s'' := by
          intro b
          induction b with
          | zero => intro s' hb hi hh; exact ⟨μ s', s', rfl, hi, hh, fun _ _ _ => by omega⟩
          | succ b ihb =>
            intro s' hb hi hh
            by_cases hc : ∃ s'', μ s'' ≤ b ∧ I s'' w1 ∧ Has n a1 (fr s'')
            · obtain ⟨s'', h1, h2, h3⟩ := hc; exact ihb s'' h1 h2 h3
            · exact ⟨μ s', s', rfl, hi, hh, fun s'' h2 h3 => by
                by_cases h4 : μ s'' ≤ b
                · exact absurd ⟨s'', h4, h2, h3⟩ hc
                · omega⟩
        exact this _ s1 (Nat.le_refl _) hI1 hF1
      have hsp := Classical.epsilon_spec hex
      obtain ⟨s2, hm2, hI2, hF2, hmin2⟩ := hsp
      refine wp_mono ((round s2 w1 hI2).out a1 hF2) fun e a' w' q => ?_
      cases e with
      | normal =>
        obtain ⟨L', h1, s', hs, hl, hi⟩ := q
        have hF' := h1.sub hs
        have hex' : ∃ m, ∃ s', μ s' = m ∧ I s' w' ∧ Has n a' (fr s') ∧ ∀ s'', I s'' w' → Has n a' (fr s'') → m ≤ μ s'' := by
          have : ∀ b s', μ s' ≤ b → I s' w' → Has n a' (fr s') → ∃ m, ∃ s', μ s' = m ∧ I s' w' ∧ Has n a' (fr s') ∧ ∀ s'', I s'' w' → Has n a' (fr s'') → m ≤ μ s'' := by
            intro b
            induction b with
            | zero => intro s' hb hi hh; exact ⟨μ s', s', rfl, hi, hh, fun _ _ _ => by omega⟩
            | succ b ihb =>
              intro s' hb hi hh
              by_cases hc : ∃ s'', μ s'' ≤ b ∧ I s'' w' ∧ Has n a' (fr s'')
              · obtain ⟨s'', h1, h2, h3⟩ := hc; exact ihb s'' h1 h2 h3
              · exact ⟨μ s', s', rfl, hi, hh, fun s'' h2 h3 => by
                  by_cases h4 : μ s'' ≤ b
                  · exact absurd ⟨s'', h4, h2, h3⟩ hc
                  · omega⟩
          exact this _ s' (Nat.le_refl _) hi hF'
        obtain ⟨s3, hm3, hI3, hF3, hmin3⟩ := Classical.epsilon_spec hex'
        have hle := hmin3 s' hi hF'
        have := hmin2 s1 hI1 hF1
        refine ⟨⟨s', by omega, hi, hF'⟩, ?_⟩
        show Classical.epsilon _ < Classical.epsilon _
        rw [← hm2]
        omega
      | _ => exact q
  exact key _ s0 w a rfl h0 (ha.sub hf)
/-- The ways meet again. -/
theorem W.cut {σ : Type} {x y : Code} (I : σ → World → Prop) (fr : σ → Fr) (h : W P n x (fun L' w' => ∃ s, sub (fr s) L' ∧ I s w') B L w)
    (k : ∀ s w, I s w → W P n y N B (fr s) w) : W P n (.seq x y) N B L w :=
  W.seq ⟨fun a ha => wp_mono (h.out a ha) fun e a' w' q => by
    cases e with
    | normal => obtain ⟨L', h1, s, hs, hi⟩ := q; exact ⟨fr s, h1.sub hs, k s w' hi⟩
    | _ => exact q⟩
theorem W.region {id : Nat} {l : List Oper} (h : WL P n l.toArray l N L w) : W P n (.region id l.toArray false) N B L w :=
  ⟨fun a ha => wp_region_lit (h.out a ha B)⟩
theorem W.mono {c : Code} {N' : Post} (h : W P n c N' B L w) (hn : ∀ L w, N' L w → N L w) : W P n c N B L w :=
  ⟨fun a ha => wp_mono (h.out a ha) fun e a' w' q => by
    cases e with
    | normal => obtain ⟨L', h1, h2⟩ := q; exact ⟨L', h1, hn _ _ h2⟩
    | _ => exact q⟩
end code
end Go.Proofs.Ythfpcebcfjlkmab
namespace Go.Proofs.Ythfpcebcfjlkmab
open Go.RowKit

section
variable {P : Program} {n : Nat} {N : Post} {L : Fr} {w : World} {ops : Array Oper} {rest : List Oper}
variable {d : Nat} {ty : TypeId} {pos : String} {af : Array Edge}

theorem WL.done (h : N L w) : WL P n ops [] N L w := ⟨fun _ ha _ => ⟨_, ha, h⟩⟩

/-- An operation that yields a value, in whatever frame of which L is known. -/
theorem WL.val {o : Oper} {v : Value} {w' : World} (hg : o.guard = none) (hd : o.dst = some d) (hn : Nat.blt d n = true)
    (hr : ∀ a, Has n a L → (execOp a.eval o).run P w = .ok (.value v) w') (h : WL P n ops rest N ((d, v) :: L) w') : WL P n ops (o :: rest) N L w := by
  refine ⟨fun a ha B => wpList_plain hg fun K hK => ?_⟩
  unfold Oper.wp
  rw [hr a ha, Oper.upon_value, hd]
  exact hK _ _ (h.out _ (ha.put (by simpa [Nat.blt_eq] using hn) v) B)
/-- An operation that yields no value. -/
theorem WL.act {o : Oper} {w' : World} (hg : o.guard = none) (hd : o.dst = none)
    (hr : ∀ a, Has n a L → (execOp a.eval o).run P w = .ok .skip w') (h : WL P n ops rest N L w') : WL P n ops (o :: rest) N L w := by
  refine ⟨fun a ha B => wpList_plain hg fun K hK => ?_⟩
  unfold Oper.wp
  rw [hr a ha, Oper.upon_skip, hd]
  exact hK _ _ (h.out _ ha B)
/-- The call of a Go function. -/
theorem WL.enter {o : Oper} {f : FuncId} {args : Array Value} {R : Value → World → Prop} (hg : o.guard = none) (hd : o.dst = some d) (hn : Nat.blt d n = true)
    (hr : ∀ a, Has n a L → (execOp a.eval o).run P w = .ok (.enter f args) w)
    (hc : Calls P f args w fun e w' => ∃ v, e = .returned v ∧ R v w') (h : ∀ v w', R v w' → WL P n ops rest N ((d, v) :: L) w') : WL P n ops (o :: rest) N L w := by
  refine ⟨fun a ha B => wpList_plain hg fun K hK => ?_⟩
  unfold Oper.wp
  rw [hr a ha, Oper.upon_enter]
  refine hc.mono fun e w' ⟨v, he, hv⟩ => ?_
  subst he
  show K (a.put o.dst v) w'
  rw [hd]
  exact hK _ _ ((h v w' hv).out _ (ha.put (by simpa [Nat.blt_eq] using hn) v) B)

/-- A guard that says no. -/
theorem WL.pass {op : Op} {j : Nat} {want b : Bool} (hb : ((ops[j]?).bind (·.dst)).bind (lk L) = some (.bool b)) (hne : (b == want) = false) (hn : Nat.blt d n = true)
    (h : WL P n ops rest N ((d, undef) :: L) w) : WL P n ops (⟨some d, op, ty, pos, af, some (j, want)⟩ :: rest) N L w := by
  refine ⟨fun a ha B => ?_⟩
  have hy : yielded ops a.tmps j = some b := by
    unfold yielded
    cases hj : (ops[j]?).bind (·.dst) with
    | none => rw [hj] at hb; cases hb
    | some t => rw [hj] at hb; simp only [Option.bind_some] at hb ⊢; rw [ha.at_ t _ hb]
  refine wpList_skip ?_ (h.out _ (ha.put (by simpa [Nat.blt_eq] using hn) _) B)
  simp only [Region.wanted, hy]
  revert hne; cases b <;> cases want <;> simp
/-- A guard on an operation that was passed over. -/
theorem WL.passU {op : Op} {j : Nat} {want : Bool} (hb : ((ops[j]?).bind (·.dst)).bind (lk L) = some undef) (hn : Nat.blt d n = true)
    (h : WL P n ops rest N ((d, undef) :: L) w) : WL P n ops (⟨some d, op, ty, pos, af, some (j, want)⟩ :: rest) N L w := by
  refine ⟨fun a ha B => ?_⟩
  have hy : yielded ops a.tmps j = none := by
    unfold yielded
    cases hj : (ops[j]?).bind (·.dst) with
    | none => rw [hj] at hb; cases hb
    | some t => rw [hj] at hb; simp only [Option.bind_some] at hb ⊢; rw [ha.at_ t _ hb]; rfl
  refine wpList_skip ?_ (h.out _ (ha.put (by simpa [Nat.blt_eq] using hn) _) B)
  simp only [Region.wanted, hy]
  rfl
/-- A guard that says yes: the operation is as if it had none. -/
theorem WL.take {op : Op} {j : Nat} {want : Bool} (hb : ((ops[j]?).bind (·.dst)).bind (lk L) = some (.bool want)) 
    (h : WL P n ops (⟨some d, op, ty, pos, af, none⟩ :: rest) N L w) : WL P n ops (⟨some d, op, ty, pos, af, some (j, want)⟩ :: rest) N L w := by
  refine ⟨fun a ha B => ?_⟩
  have hy : yielded ops a.tmps j = some want := by
    unfold yielded
    cases hj : (ops[j]?).bind (·.dst) with
    | none => rw [hj] at hb; cases hb
    | some t => rw [hj] at hb; simp only [Option.bind_some] at hb ⊢; rw [ha.at_ t _ hb]
  have h1 := h.out a ha B
  unfold wpList at h1 ⊢
  rw [if_pos (by simp [Region.wanted])] at h1
  rw [if_pos (by simp [Region.wanted, hy])]
  exact h1

theorem WL.move {x : Operand} {v : Value} (hx : ev L x = some v) (hn : Nat.blt d n = true) (h : WL P n ops rest N ((d, v) :: L) w) :
    WL P n ops (⟨some d, .move x, ty, pos, af, none⟩ :: rest) N L w :=
  WL.val rfl rfl hn (fun a ha => by simp [execOp, ha.ev hx]) h
theorem WL.assign {x : Operand} {v : Value} (hx : ev L x = some v) (hn : Nat.blt d n = true) (h : WL P n ops rest N ((d, v) :: L) w) :
    WL P n ops (⟨some d, .assign x, ty, pos, af, none⟩ :: rest) N L w :=
  WL.val rfl rfl hn (fun a ha => by simp [execOp, ha.ev hx]) h
theorem WL.pick {c x y : Operand} {b : Bool} {v : Value} (hc : ev L c = some (.bool b)) (hx : ev L (bif b then x else y) = some v) (hn : Nat.blt d n = true) (h : WL P n ops rest N ((d, v) :: L) w) :
    WL P n ops (⟨some d, .pick c x y, ty, pos, af, none⟩ :: rest) N L w :=
  WL.val rfl rfl hn (fun a ha => by have hx' := ha.ev hx; cases b <;> simp [execOp, ha.ev hc, asBool] <;> exact hx') h
theorem WL.extract {x : Operand} {vs : Array Value} {i : Nat} {v : Value} (hx : ev L x = some (.tuple vs)) (hv : vs[i]? = some v) (hn : Nat.blt d n = true) (h : WL P n ops rest N ((d, v) :: L) w) :
    WL P n ops (⟨some d, .extract x i, ty, pos, af, none⟩ :: rest) N L w :=
  WL.val rfl rfl hn (fun a ha => by simp [execOp, ha.ev hx, Instr.extract, hv]) h
theorem WL.add {x y : Operand} {k : IntKind} {a b r : Int} {tx tb : TypeId} (hx : ev L x = some (.int k a)) (hy : ev L y = some (.int k b)) (hr : k.wrap (a + b) = r) (hn : Nat.blt d n = true) (h : WL P n ops rest N ((d, .int k r) :: L) w) :
    WL P n ops (⟨some d, .binOp .add tx x y tb, ty, pos, af, none⟩ :: rest) N L w :=
  WL.val rfl rfl hn (fun a ha => by simp [execOp, eqGuard, binOp, Op.intArith, ha.ev hx, ha.ev hy, hr]) h
theorem WL.sub {x y : Operand} {k : IntKind} {a b r : Int} {tx tb : TypeId} (hx : ev L x = some (.int k a)) (hy : ev L y = some (.int k b)) (hr : k.wrap (a - b) = r) (hn : Nat.blt d n = true) (h : WL P n ops rest N ((d, .int k r) :: L) w) :
    WL P n ops (⟨some d, .binOp .sub tx x y tb, ty, pos, af, none⟩ :: rest) N L w :=
  WL.val rfl rfl hn (fun a ha => by simp [execOp, eqGuard, binOp, Op.intArith, ha.ev hx, ha.ev hy, hr]) h
theorem WL.mul {x y : Operand} {k : IntKind} {a b r : Int} {tx tb : TypeId} (hx : ev L x = some (.int k a)) (hy : ev L y = some (.int k b)) (hr : k.wrap (a * b) = r) (hn : Nat.blt d n = true) (h : WL P n ops rest N ((d, .int k r) :: L) w) :
    WL P n ops (⟨some d, .binOp .mul tx x y tb, ty, pos, af, none⟩ :: rest) N L w :=
  WL.val rfl rfl hn (fun a ha => by simp [execOp, eqGuard, binOp, Op.intArith, ha.ev hx, ha.ev hy, hr]) h
theorem WL.quo {x y : Operand} {k : IntKind} {a b r : Int} {tx tb : TypeId} (hx : ev L x = some (.int k a)) (hy : ev L y = some (.int k b)) (h0 : b ≠ 0) (hr : k.wrap (a.tdiv b) = r) (hn : Nat.blt d n = true) (h : WL P n ops rest N ((d, .int k r) :: L) w) :
    WL P n ops (⟨some d, .binOp .quo tx x y tb, ty, pos, af, none⟩ :: rest) N L w :=
  WL.val rfl rfl hn (fun a ha => by simp [execOp, eqGuard, binOp, Op.intDiv, ha.ev hx, ha.ev hy, hr, h0]) h
theorem WL.rem {x y : Operand} {k : IntKind} {a b r : Int} {tx tb : TypeId} (hx : ev L x = some (.int k a)) (hy : ev L y = some (.int k b)) (h0 : b ≠ 0) (hr : a.tmod b = r) (hn : Nat.blt d n = true) (h : WL P n ops rest N ((d, .int k r) :: L) w) :
    WL P n ops (⟨some d, .binOp .rem tx x y tb, ty, pos, af, none⟩ :: rest) N L w :=
  WL.val rfl rfl hn (fun a ha => by simp [execOp, eqGuard, binOp, Op.intDiv, ha.ev hx, ha.ev hy, hr, h0]) h
theorem WL.bits {op : BinOp} {x y : Operand} {k : IntKind} {a b r : Int} {tx tb : TypeId} (hx : ev L x = some (.int k a)) (hy : ev L y = some (.int k b)) (ho : op = .and ∨ op = .or ∨ op = .xor ∨ op = .andNot)
    (hr : (Op.intBits op k a b).run P w = .ok (.int k r) w) (hn : Nat.blt d n = true) (h : WL P n ops rest N ((d, .int k r) :: L) w) :
    WL P n ops (⟨some d, .binOp op tx x y tb, ty, pos, af, none⟩ :: rest) N L w :=
  WL.val rfl rfl hn (fun a ha => by rcases ho with rfl | rfl | rfl | rfl <;> simp [execOp, eqGuard, binOp, ha.ev hx, ha.ev hy, hr]) h
theorem WL.shl {x y : Operand} {k ky : IntKind} {a b r : Int} {tx tb : TypeId} (hx : ev L x = some (.int k a)) (hy : ev L y = some (.int ky b)) (h0 : 0 ≤ b) (hr : k.wrap (a * 2 ^ min b.toNat k.bits) = r) (hn : Nat.blt d n = true) (h : WL P n ops rest N ((d, .int k r) :: L) w) :
    WL P n ops (⟨some d, .binOp .shl tx x y tb, ty, pos, af, none⟩ :: rest) N L w :=
  WL.val rfl rfl hn (fun a ha => by simp [execOp, eqGuard, binOp, Op.shift, ha.ev hx, ha.ev hy, hr, show ¬ b < 0 by omega]) h
theorem WL.shr {x y : Operand} {k ky : IntKind} {a b r : Int} {tx tb : TypeId} (hx : ev L x = some (.int k a)) (hy : ev L y = some (.int ky b)) (h0 : 0 ≤ b) (hr : a.fdiv (2 ^ min b.toNat k.bits) = r) (hn : Nat.blt d n = true) (h : WL P n ops rest N ((d, .int k r) :: L) w) :
    WL P n ops (⟨some d, .binOp .shr tx x y tb, ty, pos, af, none⟩ :: rest) N L w :=
  WL.val rfl rfl hn (fun a ha => by simp [execOp, eqGuard, binOp, Op.shift, ha.ev hx, ha.ev hy, hr, show ¬ b < 0 by omega]) h
/-- A comparison of numbers: the walk parts. -/
theorem WL.lss {x y : Operand} {k : IntKind} {a b : Int} {tx tb : TypeId} (hx : ev L x = some (.int k a)) (hy : ev L y = some (.int k b)) (hn : Nat.blt d n = true)
    (ht : a < b → WL P n ops rest N ((d, .bool true) :: L) w) (hf : b ≤ a → WL P n ops rest N ((d, .bool false) :: L) w) :
    WL P n ops (⟨some d, .binOp .lss tx x y tb, ty, pos, af, none⟩ :: rest) N L w := by
  by_cases hc : a < b
  · exact WL.val rfl rfl hn (fun a ha => by simp [execOp, eqGuard, binOp, Op.intCmp, ha.ev hx, ha.ev hy, hc]) (ht hc)
  · exact WL.val rfl rfl hn (fun a ha => by simp [execOp, eqGuard, binOp, Op.intCmp, ha.ev hx, ha.ev hy, hc]) (hf (by omega))
theorem WL.leq {x y : Operand} {k : IntKind} {a b : Int} {tx tb : TypeId} (hx : ev L x = some (.int k a)) (hy : ev L y = some (.int k b)) (hn : Nat.blt d n = true)
    (ht : a ≤ b → WL P n ops rest N ((d, .bool true) :: L) w) (hf : b < a → WL P n ops rest N ((d, .bool false) :: L) w) :
    WL P n ops (⟨some d, .binOp .leq tx x y tb, ty, pos, af, none⟩ :: rest) N L w := by
  by_cases hc : a ≤ b
  · exact WL.val rfl rfl hn (fun a ha => by simp [execOp, eqGuard, binOp, Op.intCmp, ha.ev hx, ha.ev hy, hc]) (ht hc)
  · exact WL.val rfl rfl hn (fun a ha => by simp [execOp, eqGuard, binOp, Op.intCmp, ha.ev hx, ha.ev hy, hc]) (hf (by omega))
theorem WL.gtr {x y : Operand} {k : IntKind} {a b : Int} {tx tb : TypeId} (hx : ev L x = some (.int k a)) (hy : ev L y = some (.int k b)) (hn : Nat.blt d n = true)
    (ht : b < a → WL P n ops rest N ((d, .bool true) :: L) w) (hf : a ≤ b → WL P n ops rest N ((d, .bool false) :: L) w) :
    WL P n ops (⟨some d, .binOp .gtr tx x y tb, ty, pos, af, none⟩ :: rest) N L w := by
  by_cases hc : b < a
  · exact WL.val rfl rfl hn (fun a ha => by simp [execOp, eqGuard, binOp, Op.intCmp, ha.ev hx, ha.ev hy, hc]) (ht hc)
  · exact WL.val rfl rfl hn (fun a ha => by simp [execOp, eqGuard, binOp, Op.intCmp, ha.ev hx, ha.ev hy, hc]) (hf (by omega))
theorem WL.geq {x y : Operand} {k : IntKind} {a b : Int} {tx tb : TypeId} (hx : ev L x = some (.int k a)) (hy : ev L y = some (.int k b)) (hn : Nat.blt d n = true)
    (ht : b ≤ a → WL P n ops rest N ((d, .bool true) :: L) w) (hf : a < b → WL P n ops rest N ((d, .bool false) :: L) w) :
    WL P n ops (⟨some d, .binOp .geq tx x y tb, ty, pos, af, none⟩ :: rest) N L w := by
  by_cases hc : b ≤ a
  · exact WL.val rfl rfl hn (fun a ha => by simp [execOp, eqGuard, binOp, Op.intCmp, ha.ev hx, ha.ev hy, hc]) (ht hc)
  · exact WL.val rfl rfl hn (fun a ha => by simp [execOp, eqGuard, binOp, Op.intCmp, ha.ev hx, ha.ev hy, hc]) (hf (by omega))
theorem WL.eql {x y : Operand} {k : IntKind} {a b : Int} {tx tb : TypeId} (hx : ev L x = some (.int k a)) (hy : ev L y = some (.int k b)) (hn : Nat.blt d n = true)
    (ht : a = b → WL P n ops rest N ((d, .bool true) :: L) w) (hf : a ≠ b → WL P n ops rest N ((d, .bool false) :: L) w) :
    WL P n ops (⟨some d, .binOp .eql tx x y tb, ty, pos, af, none⟩ :: rest) N L w := by
  by_cases hc : a = b
  · exact WL.val rfl rfl hn (fun a ha => by simp [execOp, eqGuard, binOp, Op.intCmp, ha.ev hx, ha.ev hy, hc]) (ht hc)
  · exact WL.val rfl rfl hn (fun a ha => by simp [execOp, eqGuard, binOp, Op.intCmp, ha.ev hx, ha.ev hy, hc]) (hf hc)
theorem WL.neq {x y : Operand} {k : IntKind} {a b : Int} {tx tb : TypeId} (hx : ev L x = some (.int k a)) (hy : ev L y = some (.int k b)) (hn : Nat.blt d n = true)
    (ht : a ≠ b → WL P n ops rest N ((d, .bool true) :: L) w) (hf : a = b → WL P n ops rest N ((d, .bool false) :: L) w) :
    WL P n ops (⟨some d, .binOp .neq tx x y tb, ty, pos, af, none⟩ :: rest) N L w := by
  by_cases hc : a = b
  · exact WL.val rfl rfl hn (fun a ha => by simp [execOp, eqGuard, binOp, Op.intCmp, ha.ev hx, ha.ev hy, hc]) (hf hc)
  · exact WL.val rfl rfl hn (fun a ha => by simp [execOp, eqGuard, binOp, Op.intCmp, ha.ev hx, ha.ev hy, hc]) (ht hc)
theorem WL.lssD {x y : Operand} {k : IntKind} {a b : Int} {tx tb : TypeId} (hx : ev L x = some (.int k a)) (hy : ev L y = some (.int k b)) (hn : Nat.blt d n = true)
    (h : WL P n ops rest N ((d, .bool (decide (a < b))) :: L) w) : WL P n ops (⟨some d, .binOp .lss tx x y tb, ty, pos, af, none⟩ :: rest) N L w := by
  by_cases hc : a < b
  · rw [decide_eq_true hc] at h; exact WL.val rfl rfl hn (fun a ha => by simp [execOp, eqGuard, binOp, Op.intCmp, ha.ev hx, ha.ev hy, hc]) h
  · rw [decide_eq_false hc] at h; exact WL.val rfl rfl hn (fun a ha => by simp [execOp, eqGuard, binOp, Op.intCmp, ha.ev hx, ha.ev hy] <;> first | exact hc | omega) h
theorem WL.gtrD {x y : Operand} {k : IntKind} {a b : Int} {tx tb : TypeId} (hx : ev L x = some (.int k a)) (hy : ev L y = some (.int k b)) (hn : Nat.blt d n = true)
    (h : WL P n ops rest N ((d, .bool (decide (b < a))) :: L) w) : WL P n ops (⟨some d, .binOp .gtr tx x y tb, ty, pos, af, none⟩ :: rest) N L w := by
  by_cases hc : b < a
  · rw [decide_eq_true hc] at h; exact WL.val rfl rfl hn (fun a ha => by simp [execOp, eqGuard, binOp, Op.intCmp, ha.ev hx, ha.ev hy, hc]) h
  · rw [decide_eq_false hc] at h; exact WL.val rfl rfl hn (fun a ha => by simp [execOp, eqGuard, binOp, Op.intCmp, ha.ev hx, ha.ev hy] <;> first | exact hc | omega) h
theorem WL.eqlD {x y : Operand} {k : IntKind} {a b : Int} {tx tb : TypeId} (hx : ev L x = some (.int k a)) (hy : ev L y = some (.int k b)) (hn : Nat.blt d n = true)
    (h : WL P n ops rest N ((d, .bool (decide (a = b))) :: L) w) : WL P n ops (⟨some d, .binOp .eql tx x y tb, ty, pos, af, none⟩ :: rest) N L w := by
  by_cases hc : a = b
  · rw [decide_eq_true hc] at h; exact WL.val rfl rfl hn (fun a ha => by simp [execOp, eqGuard, binOp, Op.intCmp, ha.ev hx, ha.ev hy, hc]) h
  · rw [decide_eq_false hc] at h; exact WL.val rfl rfl hn (fun a ha => by simp [execOp, eqGuard, binOp, Op.intCmp, ha.ev hx, ha.ev hy] <;> first | exact hc | omega) h
theorem WL.neqD {x y : Operand} {k : IntKind} {a b : Int} {tx tb : TypeId} (hx : ev L x = some (.int k a)) (hy : ev L y = some (.int k b)) (hn : Nat.blt d n = true)
    (h : WL P n ops rest N ((d, .bool (decide (a ≠ b))) :: L) w) : WL P n ops (⟨some d, .binOp .neq tx x y tb, ty, pos, af, none⟩ :: rest) N L w := by
  by_cases hc : a ≠ b
  · rw [decide_eq_true hc] at h; exact WL.val rfl rfl hn (fun a ha => by simp [execOp, eqGuard, binOp, Op.intCmp, ha.ev hx, ha.ev hy, hc]) h
  · rw [decide_eq_false hc] at h; exact WL.val rfl rfl hn (fun a ha => by simp [execOp, eqGuard, binOp, Op.intCmp, ha.ev hx, ha.ev hy] <;> first | exact hc | omega) h
theorem WL.max2 {x y : Operand} {k : IntKind} {a b r : Int} {ts : Array TypeId} (hx : ev L x = some (.int k a)) (hy : ev L y = some (.int k b)) (hr : max a b = r) (hn : Nat.blt d n = true) (h : WL P n ops rest N ((d, .int k r) :: L) w) :
    WL P n ops (⟨some d, .call ⟨.builtin .max, #[x, y], ts⟩, ty, pos, af, none⟩ :: rest) N L w :=
  WL.val rfl rfl hn (fun a' ha => by
    have e : (if b > a then b else a) = r := by rw [← hr]; split <;> omega
    simp [execOp, resolve, invoke, builtin, Builtin.max_, Builtin.max2, ha.ev hx, ha.ev hy, ← e]) h
theorem WL.not {x : Operand} {b : Bool} {tx : TypeId} (hx : ev L x = some (.bool b)) (hn : Nat.blt d n = true) (h : WL P n ops rest N ((d, .bool !b) :: L) w) :
    WL P n ops (⟨some d, .unOp .not tx x, ty, pos, af, none⟩ :: rest) N L w :=
  WL.val rfl rfl hn (fun a ha => by simp [execOp, Op.unary, ha.ev hx]) h
theorem WL.neg {x : Operand} {k : IntKind} {a r : Int} {tx : TypeId} (hx : ev L x = some (.int k a)) (hr : k.wrap (0 - a) = r) (hn : Nat.blt d n = true) (h : WL P n ops rest N ((d, .int k r) :: L) w) :
    WL P n ops (⟨some d, .unOp .neg tx x, ty, pos, af, none⟩ :: rest) N L w :=
  WL.val rfl rfl hn (fun a ha => by simp [execOp, Op.unary, Op.intArith, ha.ev hx, ← hr]) h
theorem run_equalIn_bool {P : Program} {w : World} {t : TypeId} (ht : P.underlying t = some .bool) (k : Nat) (a b : Bool) : (Op.equalIn (k + 1) t (.bool a) (.bool b)).run P w = .ok (a == b) w := by
  rw [Op.equalIn]
  simp [run_underlying ht]
theorem run_equal_bool {P : Program} {w : World} {t : TypeId} (ht : P.underlying t = some .bool) (a b : Bool) : (Op.equal t (.bool a) (.bool b)).run P w = .ok (a == b) w := run_equalIn_bool ht 9999 a b
theorem WL.eqB {x y : Operand} {a b r : Bool} {tx tb : TypeId} (hx : ev L x = some (.bool a)) (hy : ev L y = some (.bool b)) (ht : P.underlying tx = some .bool) (hr : (a == b) = r) (hn : Nat.blt d n = true) (h : WL P n ops rest N ((d, .bool r) :: L) w) :
    WL P n ops (⟨some d, .binOp .eql tx x y tb, ty, pos, af, none⟩ :: rest) N L w :=
  WL.val rfl rfl hn (fun _ ha => by subst hr; cases a <;> cases b <;> simp [execOp, eqGuard, binOp, ha.ev hx, ha.ev hy, run_equal_bool ht]) h
theorem WL.neqB {x y : Operand} {a b r : Bool} {tx tb : TypeId} (hx : ev L x = some (.bool a)) (hy : ev L y = some (.bool b)) (ht : P.underlying tx = some .bool) (hr : (a != b) = r) (hn : Nat.blt d n = true) (h : WL P n ops rest N ((d, .bool r) :: L) w) :
    WL P n ops (⟨some d, .binOp .neq tx x y tb, ty, pos, af, none⟩ :: rest) N L w :=
  WL.val rfl rfl hn (fun _ ha => by subst hr; cases a <;> cases b <;> simp [execOp, eqGuard, binOp, ha.ev hx, ha.ev hy, run_equal_bool ht]) h
theorem WL.conv {x : Operand} {k k' : IntKind} {a r : Int} {src dst : TypeId} {ds : TypeDesc} (hs : P.underlying src = some ds) (hd : P.underlying dst = some (.int k')) (hx : ev L x = some (.int k a)) (hr : k'.wrap a = r) (hn : Nat.blt d n = true) (h : WL P n ops rest N ((d, .int k' r) :: L) w) :
    WL P n ops (⟨some d, .convert src dst x, ty, pos, af, none⟩ :: rest) N L w :=
  WL.val rfl rfl hn (fun a ha => by simp [execOp, convert, ha.ev hx, run_underlying hs, run_underlying hd, Conv.intToInt, hr]) h
theorem WL.len {x : Operand} {A : Option Addr} {m c : Nat} {t e : TypeId} (ht : P.underlying t = some (.slice e)) (hx : ev L x = some (.slice A m c)) (hn : Nat.blt d n = true) (h : WL P n ops rest N ((d, .int .i64 m) :: L) w) :
    WL P n ops (⟨some d, .call ⟨.builtin .len, #[x], #[t]⟩, ty, pos, af, none⟩ :: rest) N L w :=
  WL.val rfl rfl hn (fun a ha => by simp [execOp, resolve, invoke, builtin, Builtin.len_, ha.ev hx, run_underlying ht, goInt]) h
theorem WL.call {f : FuncId} {fn : Func} {c : Code} {xs : List Operand} {ts : Array TypeId} {vs : List Value} {R : Value → World → Prop} (hf : P.funcs[f]? = some fn) (hb : fn.body = some c) (hnm : (fn.name == "runtime.NumGoroutine") = false)
    (hx : evs L xs = some vs) (hn : Nat.blt d n = true)
    (hc : Calls P f vs.toArray w fun e w' => ∃ v, e = .returned v ∧ R v w') (h : ∀ v w', R v w' → WL P n ops rest N ((d, v) :: L) w') :
    WL P n ops (⟨some d, .call ⟨.value (.func f), xs.toArray, ts⟩, ty, pos, af, none⟩ :: rest) N L w := by
  refine WL.enter rfl rfl hn (fun a ha => ?_) hc h
  have hm := ha.evs hx
  have hnm' : ¬ fn.name = "runtime.NumGoroutine" := by simpa using hnm
  simp only [execOp, resolve, Sem.run_bind]
  simp [Deferred.ofValue, Act.eval, invoke, callFunc, hm, program, Sem.run, hf, hb, hnm']
end
end Go.Proofs.Ythfpcebcfjlkmab
namespace Go.Proofs.Ythfpcebcfjlkmab
open Go.RowKit

/-- An element type's row of the table. -/
structure Elem (P : Program) (e : TypeId) (z by_ : Nat) (zero : Value) : Prop where
  ex : ∃ i, P.info? e = some i ∧ i.zero = some zero ∧ i.size = z ∧ i.bytes = by_
  zs : zero.cells.size = z
  pos : 0 < z
theorem Elem.mk' {P : Program} {e : TypeId} {z by_ : Nat} {zero : Value} (h : (P.info? e).map (fun i => (i.zero, i.size, i.bytes)) = some (some zero, z, by_)) (hz : zero.cells.size = z) (hp : 0 < z) : Elem P e z by_ zero :=
  ⟨info_parts h, hz, hp⟩

def adOf (A : Option Addr) : Addr := A.getD ⟨0, 0, none⟩
def bl (A : Option Addr) : Option Nat := A.map (·.block)
/-- A slice that reads as the cells cs, below block B. -/
structure Rd (B : Nat) (w : World) (z : Nat) (A : Option Addr) (m c : Nat) (cs : List Value) : Prop where
  len : cs.length = m * z
  cap : m ≤ c
  max : c ≤ maxLen
  cells : 0 < m → ∃ ad, A = some ad ∧ ad.block < B ∧ ∀ j u, cs[j]? = some u → w.cell? (ad.add j) = some u
/-- A slice of the call's own. -/
abbrev Own (b : Nat) (w : World) (e z : Nat) (A : Option Addr) (m c : Nat) (cs : List Value) : Prop := w.ownsRow b e z (.slice A m c) m cs

theorem block_add (a : Addr) (n : Nat) : (a.add n).block = a.block := by unfold Addr.add; split <;> rfl
theorem add_add (a : Addr) (i j : Nat) : (a.add i).add j = a.add (i + j) := by
  unfold Addr.add
  by_cases hi : i = 0 <;> by_cases hj : j = 0 <;> simp [hi, hj, Nat.add_assoc]
section
variable {B b : Nat} {w w' : World} {z e : Nat} {A : Option Addr} {m c : Nat} {cs : List Value}
theorem Rd.nil (h : c ≤ maxLen) : Rd B w z A 0 c [] := ⟨by simp, Nat.zero_le _, h, fun h => absurd h (by omega)⟩
theorem Rd.grown (h : Rd B w z A m c cs) {row : Option Nat} (hg : w.grownBy w' row) (hr : ∀ g, row = some g → B ≤ g) : Rd B w' z A m c cs :=
  ⟨h.len, h.cap, h.max, fun hm => by
    obtain ⟨ad, e1, e2, e3⟩ := h.cells hm
    exact ⟨ad, e1, e2, fun j u hu => hg.cell (e3 j u hu) (fun e => by have := hr _ e.symm; rw [block_add] at this; omega)⟩⟩
theorem Rd.ext (h : Rd B w z A m c cs) (hg : w.grownBy w' none) : Rd B w' z A m c cs := h.grown hg (fun _ e => by cases e)
theorem Rd.more {B' : Nat} (h : Rd B w z A m c cs) (hB : B ≤ B') : Rd B' w z A m c cs :=
  ⟨h.len, h.cap, h.max, fun hm => by obtain ⟨ad, e1, e2, e3⟩ := h.cells hm; exact ⟨ad, e1, by omega, e3⟩⟩
theorem Rd.below (h : Rd B w z A m c cs) (hb : Below B w w') : Rd B w' z A m c cs :=
  ⟨h.len, h.cap, h.max, fun hm => by
    obtain ⟨ad, e1, e2, e3⟩ := h.cells hm
    exact ⟨ad, e1, e2, fun j u hu => (hb.cell (by rw [block_add]; exact e2)).trans (e3 j u hu)⟩⟩
theorem Rd.at_ (h : Rd B w z A m c cs) {j : Nat} {u : Value} (hu : cs[j]? = some u) : w.cell? ((adOf A).add j) = some u := by
  have hj : j < cs.length := (List.getElem?_eq_some_iff.1 hu).1
  have hm : 0 < m := by
    rcases Nat.eq_zero_or_pos m with h0 | h0
    · subst h0; have := h.len; omega
    · exact h0
  obtain ⟨ad, e1, _, e3⟩ := h.cells hm
  subst e1
  exact e3 j u hu
theorem Rd.take (h : Rd B w z A m c cs) {k : Nat} (hk : k ≤ m) : Rd B w z A k c (cs.take (k * z)) :=
  ⟨by rw [List.length_take, h.len]; exact Nat.min_eq_left (Nat.mul_le_mul_right _ hk), by have := h.cap; omega, h.max, fun hm => by
    obtain ⟨ad, e1, e2, e3⟩ := h.cells (by omega)
    exact ⟨ad, e1, e2, fun j u hu => e3 j u (by rw [List.getElem?_take] at hu; split at hu; exact hu; cases hu)⟩⟩
theorem Rd.drop (h : Rd B w z A m c cs) {k : Nat} (hk : k ≤ m) : Rd B w z (if c = k then A else A.map (·.add (k * z))) (m - k) (c - k) (cs.drop (k * z)) :=
  ⟨by rw [List.length_drop, h.len, Nat.sub_mul], by have := h.cap; omega, by have := h.max; omega, fun hm => by
    obtain ⟨ad, e1, e2, e3⟩ := h.cells (by omega)
    have := h.cap
    rw [if_neg (by omega)]
    subst e1
    exact ⟨ad.add (k * z), rfl, by rw [block_add]; exact e2, fun j u hu => by rw [add_add]; exact e3 _ u (by rw [← hu, List.getElem?_drop])⟩⟩
theorem Own.len (h : Own b w e z A m c cs) : cs.length = m * z := h.1
theorem Own.form (h : Own b w e z A m c cs) : (A = none ∧ m = 0 ∧ c = 0) ∨ ∃ g, A = some ⟨g, 0, none⟩ ∧ b ≤ g ∧ g < w.heap.size := by
  rcases h.2 with ⟨h1, _⟩ | ⟨g, cap, cur, h1, h2, h3, _⟩
  · cases h1; exact .inl ⟨rfl, rfl, rfl⟩
  · cases h1
    refine .inr ⟨g, rfl, h2, ?_⟩
    rcases Nat.lt_or_ge g w.heap.size with h | h
    · exact h
    · rw [Array.getElem?_eq_none h] at h3; cases h3
theorem Own.rd (h : Own b w e z A m c cs) : Rd w.heap.size w z A m c cs := by
  rcases h.2 with ⟨h1, h2⟩ | ⟨g, cap, cur, h1, h2, h3, h4, h5, h6, h7⟩
  · cases h1; have := h.1; exact ⟨h.1, Nat.le_refl _, by simp [maxLen], fun hm => by omega⟩
  · cases h1
    refine ⟨h.1, h4, h5, fun hm => ⟨⟨g, 0, none⟩, rfl, ?_, h.cells rfl⟩⟩
    rcases Nat.lt_or_ge g w.heap.size with h | h
    · exact h
    · rw [Array.getElem?_eq_none h] at h3; cases h3
theorem Own.grown (h : Own b w e z A m c cs) {row : Option Nat} (hg : w.grownBy w' row) (hr : ∀ g, row = some g → bl A ≠ some g) : Own b w' e z A m c cs :=
  World.ownsRow.kept h hg (by
    cases A with
    | none => exact .inl rfl
    | some a => exact .inr fun e => hr a.block e.symm rfl)
theorem Own.ext (h : Own b w e z A m c cs) (hg : w.grownBy w' none) : Own b w' e z A m c cs := h.grown hg (fun _ e => by cases e)
theorem Own.bl_ge (h : Own b w e z A m c cs) : ∀ g, bl A = some g → b ≤ g ∧ g < w.heap.size := by
  intro g hg
  rcases h.form with ⟨rfl, _⟩ | ⟨g', rfl, h1, h2⟩
  · cases hg
  · cases hg; exact ⟨h1, h2⟩
theorem Own.low {b' : Nat} (h : Own b w e z A m c cs) (hb : b' ≤ b) : Own b' w e z A m c cs := by
  refine ⟨h.1, h.2.imp id ?_⟩
  rintro ⟨g, cap, cur, h1, h2, h3⟩
  exact ⟨g, cap, cur, h1, by omega, h3⟩
theorem ext_refl (w : World) : w.grownBy w none := World.grownBy.refl w none
theorem ext_trans {a b c : World} (h : a.grownBy b none) (k : b.grownBy c none) : a.grownBy c none := World.grownBy.trans h k
end

section
variable {P : Program} {n : Nat} {N : Post} {L : Fr} {w : World} {ops : Array Oper} {rest : List Oper}
variable {d : Nat} {ty : TypeId} {pos : String} {af : Array Edge}
/-- The address of an element. -/
theorem WL.index {x i : Operand} {t e : TypeId} {z by_ : Nat} {zero : Value} {A : Option Addr} {m c B : Nat} {cs : List Value} {k : IntKind} {J : Int} {wR : World} (j : Nat)
    (ht : P.underlying t = some (.slice e)) (he : Elem P e z by_ zero) (hx : ev L x = some (.slice A m c)) (hi : ev L i = some (.int k J)) (hJ : J = j) (hj : j < m) (hR : Rd B wR z A m c cs) (hn : Nat.blt d n = true)
    (h : WL P n ops rest N ((d, .pointer (some ((adOf A).add (j * z)))) :: L) w) : WL P n ops (⟨some d, .indexAddr t x i, ty, pos, af, none⟩ :: rest) N L w := by
  obtain ⟨inf, h1, h2, h3, h4⟩ := he.ex
  obtain ⟨ad, e1, _, _⟩ := hR.cells (by omega)
  subst e1; subst hJ
  refine WL.val rfl rfl hn (fun a ha => ?_) h
  have hc : (0 : Int) ≤ (j : Int) ∧ (j : Int) < (m : Int) := by omega
  simp [execOp, ha.ev hx, ha.ev hi, Instr.indexAt, asIntOf, run_underlying ht, sizeOf, typeInfo, h1, h3, hj, adOf]
theorem WL.load {x : Operand} {t : TypeId} {D : TypeDesc} {p : Addr} {v : Value} (hu : P.underlying t = some D) (hD : (match D with | .struct _ | .array _ _ => true | _ => false) = false) (hx : ev L x = some (.pointer (some p))) (hc : w.cell? p = some v) (hn : Nat.blt d n = true)
    (h : WL P n ops rest N ((d, v) :: L) w) : WL P n ops (⟨some d, .load t x, ty, pos, af, none⟩ :: rest) N L w := by
  refine WL.val rfl rfl hn (fun a ha => ?_) h
  have hag : (isAgg t).run P w = .ok false w := by
    simp only [isAgg, Sem.run_bind, run_underlying hu, Result.andThen_ok]
    cases D <;> simp_all
  simp [execOp, ha.ev hx, Instr.loadAt, Instr.sureAddr, loadVar, hag, Go.load, Sem.run, hc]
/-- A store into an element of one cell of a row of the call's own. -/
theorem WL.store {x y : Operand} {t e : TypeId} {by_ : Nat} {zero : Value} {A : Option Addr} {m c b j : Nat} {cs : List Value} {v : Value}
    (he : Elem P t 1 by_ zero) (hx : ev L x = some (.pointer (some ((adOf A).add j)))) (hy : ev L y = some v) (h1 : v.oneCell' = true) (hj : j < m) (hO : Own b w e 1 A m c cs) 
    (h : ∀ w', Own b w' e 1 A m c (cs.set j v) → w.grownBy w' (bl A) → WL P n ops rest N L w') : WL P n ops (⟨none, .store t x y, ty, pos, af, none⟩ :: rest) N L w := by
  obtain ⟨inf, i1, i2, i3, i4⟩ := he.ex
  rcases hO.form with ⟨_, h0, _⟩ | ⟨g, rfl, hg1, hg2⟩
  · omega
  · have hs := World.ownsRow.stored hO j v
    refine WL.act rfl rfl (fun a ha => ?_) (h _ hs.1 hs.2)
    have hfr := World.ownsRow.frozenAt hO j
    have hce := World.ownsRow.cellAt hO j (by omega)
    have hl : j < cs.length := by have := hO.1; omega
    rw [List.getElem?_eq_getElem hl] at hce
    have hadd : (adOf (some ⟨g, 0, none⟩)).add j = ⟨g, j, none⟩ := by
      unfold adOf Addr.add; simp; intro h; exact h.symm
    have hcs : v.cells = #[v] := by cases v <;> simp_all [Value.cells, Value.oneCell']
    rw [hadd] at hx
    have hz : (⟨g, j, none⟩ : Addr).add 0 = ⟨g, j, none⟩ := rfl
    simp [execOp, ha.ev hx, ha.ev hy, Instr.storeAt, Instr.sureAddr, storeVar, sizeOf, typeInfo, i1, i3, hcs, storeCells, run_store _ _ _ _ _ h1, hce, hfr, hz]
theorem WL.make {x y : Operand} {t e : TypeId} {z by_ : Nat} {zero : Value} {k k' : IntKind} {J : Int} (b m : Nat) (ht : P.underlying t = some (.slice e)) (he : Elem P e z by_ zero)
    (hx : ev L x = some (.int k J)) (hy : ev L y = some (.int k' J)) (hJ : J = m) (hby : by_ * m ≤ 281474976710656) (hm : m ≤ maxLen) (hb : b ≤ w.heap.size) (hn : Nat.blt d n = true)
    (h : ∀ A w', A = some ⟨w.heap.size, 0, none⟩ → Own b w' e z A m m (madeCells zero.cells (m * z)).toList → w.grownBy w' none → WL P n ops rest N ((d, .slice A m m) :: L) w') :
    WL P n ops (⟨some d, .makeSlice t x y, ty, pos, af, none⟩ :: rest) N L w := by
  obtain ⟨inf, i1, i2, i3, i4⟩ := he.ex
  subst hJ
  obtain ⟨w', hr, h1, h2⟩ := run_make_full (P := P) w b t e inf zero z ht i1 i2 i3 k k' m (by rw [i4]; exact hby) hm hb
  exact WL.val rfl rfl hn (fun a ha => by simp [execOp, ha.ev hx, ha.ev hy, hr]) (h _ w' rfl h1 h2)
/-- append, onto a row of the call's own. -/
theorem WL.append {x y : Operand} {t e : TypeId} {z by_ : Nat} {zero : Value} {A A' : Option Addr} {m c m' c' B b : Nat} {cs cs' : List Value} (mm : Nat) (ls : List Value) (ht : P.underlying t = some (.slice e)) (he : Elem P e z by_ zero)
    (hx : ev L x = some (.slice A m c)) (hy : ev L y = some (.slice A' m' c')) (hO : Own b w e z A m c cs) (hR : Rd B w z A' m' c' cs') (h1 : ∀ u ∈ cs', u.oneCell' = true)
    (hmax : m + m' ≤ maxLen) (hby : (m + m') * by_ ≤ 140737488355328) (hb : b ≤ w.heap.size) (hmm : m + m' = mm) (hls : cs ++ cs' = ls) (hn : Nat.blt d n = true)
    (h : ∀ A2 c2 w', Own b w' e z A2 mm c2 ls → w.grownBy w' (bl A) → (bl A2 = bl A ∨ bl A2 = some w.heap.size) → WL P n ops rest N ((d, .slice A2 mm c2) :: L) w') :
    WL P n ops (⟨some d, .call ⟨.builtin .append, #[x, y], #[t, t]⟩, ty, pos, af, none⟩ :: rest) N L w := by
  subst hmm; subst hls
  obtain ⟨inf, i1, i2, i3, i4⟩ := he.ex
  have hob : (Value.slice A m c).ownBlock = bl A := by cases A <;> rfl
  rcases Nat.eq_zero_or_pos m' with h0 | h0
  · subst h0
    have hnil : cs' = [] := List.eq_nil_of_length_eq_zero (by simpa using hR.len)
    subst hnil
    have hr : (Builtin.append_ #[t, t] ty #[.slice A m c, .slice A' 0 c']).run P w = .ok (.slice A m c) w := by
      rcases hO.2 with ⟨h2, h3⟩ | ⟨g, cap, cur, h2, h3, h4, h5, h6, h7, h8⟩
      · cases h2
        cases A' <;> simp [Builtin.append_, run_underlying ht, sizeOf, typeInfo, i1, Builtin.lenOf, Builtin.firstCells, loadCells, loadCellsFrom]
      · cases h2
        cases A' <;> simp [Builtin.append_, run_underlying ht, sizeOf, typeInfo, i1, Builtin.lenOf, Builtin.firstCells, loadCells, loadCellsFrom, h5, storeCells]
    exact WL.val rfl rfl hn (fun a ha => by simp [execOp, resolve, invoke, builtin, ha.ev hx, ha.ev hy, hr]) (h A c w (by simpa using hO) (World.grownBy.refl w _) (.inl rfl))
  · obtain ⟨ad, rfl, _, hcell⟩ := hR.cells h0
    obtain ⟨v', w', hr, o1, o2, _, o4⟩ := run_append_own_at (P := P) w b t ty e inf zero z by_ ht i1 i2 i3 i4 he.zs he.pos (.slice A m c) m cs hO ad m' c' cs' hR.len hcell h1 hmax hby hb
    have hv : ∃ A2 c2, v' = .slice A2 (m + m') c2 := by
      rcases o1.2 with ⟨rfl, h3⟩ | ⟨g, cap, cur, rfl, _⟩
      · omega
      · exact ⟨_, _, rfl⟩
    obtain ⟨A2, c2, rfl⟩ := hv
    have hob2 : (Value.slice A2 (m + m') c2).ownBlock = bl A2 := by cases A2 <;> rfl
    rw [hob] at o2 o4
    rw [hob2] at o4
    exact WL.val rfl rfl hn (fun a ha => by simp [execOp, resolve, invoke, builtin, ha.ev hx, ha.ev hy, hr]) (h A2 c2 w' o1 o2 o4)
/-- A literal of a slice. -/
theorem WL.lit {t e : TypeId} {z by_ : Nat} {zero : Value} {k b : Nat} {parts : List (Nat × Operand)} {cells : List Value} (ht : P.underlying t = some (.slice e)) (he : Elem P e z by_ zero)
    (hk : k * z ≤ 16777216) (hp : ∃ vs, evs L (parts.map (·.2)) = some vs ∧ Instr.fill (fun i => some (i * z, z)) ((Array.range (k * z)).map (zero.cells[· % zero.cells.size]!)) ((parts.map (·.1)).zip vs) = some cells.toArray)
    (hl : cells.length = k * z) (hb : b ≤ w.heap.size) (hn : Nat.blt d n = true)
    (h : ∀ A w', A = some ⟨w.heap.size, 0, none⟩ → Own b w' e z A k k cells → w.grownBy w' none → WL P n ops rest N ((d, .slice A k k) :: L) w') :
    WL P n ops (⟨some d, .buildSlice t k parts.toArray, ty, pos, af, none⟩ :: rest) N L w := by
  obtain ⟨inf, i1, i2, i3, i4⟩ := he.ex
  obtain ⟨vs, hv, hf⟩ := hp
  have hkm : k ≤ maxLen := by
    have : k * 1 ≤ k * z := Nat.mul_le_mul_left _ he.pos
    simp [maxLen]; omega
  have hown := World.ownsRow_lit (e := e) (size := z) w cells.toArray k hb hkm (by simpa using hl)
  refine WL.val rfl rfl hn (fun a ha => ?_) (h _ _ rfl hown (World.grownBy_alloc w _ none))
  have hm := ha.evs hv
  have hz : (parts.map fun x => (x.1, a.eval x.2)) = (parts.map (·.1)).zip vs := by
    rw [← hm]
    clear hm hf hv hl hown
    induction parts with
    | nil => rfl
    | cons p l ih => simp [ih]
  have hgt : ¬ 16777216 < k * z := by omega
  by_cases h0 : k * z = 0
  · have he0 : cells = [] := List.eq_nil_of_length_eq_zero (by rw [hl, h0])
    subst he0
    have hr0 : (Array.range (k * z)).map (fun x => zero.cells[x % zero.cells.size]!) = #[] := Array.eq_empty_of_size_eq_zero (by simp [h0])
    rw [hr0] at hf
    have hr1 : (Array.range 0).map (fun _ => (default : Value)) = #[] := Array.eq_empty_of_size_eq_zero (by simp)
    simp [execOp, Instr.buildSlice, run_underlying ht, sizeOf, typeInfo, i1, i3, h0, newRow, hz, hr1, hf]
  · simp [execOp, Instr.buildSlice, run_underlying ht, sizeOf, typeInfo, zeroValue, i1, i2, i3, h0, hgt, newRow, hz, hf]
/-- 'a[:j]'. -/
theorem WL.slTo {x y : Operand} {t e : TypeId} {z by_ : Nat} {zero : Value} {A : Option Addr} {m c : Nat} {k : IntKind} {J : Int} (j : Nat) (ht : P.underlying t = some (.slice e)) (he : Elem P e z by_ zero)
    (hx : ev L x = some (.slice A m c)) (hy : ev L y = some (.int k J)) (hJ : J = j) (hj : j ≤ c) (hn : Nat.blt d n = true)
    (h : WL P n ops rest N ((d, .slice A j c) :: L) w) : WL P n ops (⟨some d, .slice t x none (some y) none, ty, pos, af, none⟩ :: rest) N L w := by
  obtain ⟨inf, i1, i2, i3, i4⟩ := he.ex
  subst hJ
  refine WL.val rfl rfl hn (fun a ha => ?_) h
  have : (A.map (·.add 0)) = A := by cases A <;> rfl
  by_cases hc : c = 0
  · simp [execOp, ha.ev hx, ha.ev hy, Instr.sliceAt, Instr.slice, Instr.sliceBounds, Instr.sliceBound, asIntOf, run_underlying ht, sizeOf, typeInfo, i1, hc]
    omega
  · simp [execOp, ha.ev hx, ha.ev hy, Instr.sliceAt, Instr.slice, Instr.sliceBounds, Instr.sliceBound, asIntOf, run_underlying ht, sizeOf, typeInfo, i1, hj, hc, this]
/-- 'a[j:]'. -/
theorem WL.slFrom {x y : Operand} {t e : TypeId} {z by_ : Nat} {zero : Value} {A : Option Addr} {m c : Nat} {k : IntKind} {J : Int} (j : Nat) (ht : P.underlying t = some (.slice e)) (he : Elem P e z by_ zero)
    (hx : ev L x = some (.slice A m c)) (hy : ev L y = some (.int k J)) (hJ : J = j) (hj : j ≤ m) (hn : Nat.blt d n = true)
    (h : WL P n ops rest N ((d, .slice (if c = j then A else A.map (·.add (j * z))) (m - j) (c - j)) :: L) w) : WL P n ops (⟨some d, .slice t x (some y) none none, ty, pos, af, none⟩ :: rest) N L w := by
  obtain ⟨inf, i1, i2, i3, i4⟩ := he.ex
  subst hJ
  refine WL.val rfl rfl hn (fun a ha => ?_) h
  simp [execOp, ha.ev hx, ha.ev hy, Instr.sliceAt, Instr.slice, Instr.sliceBounds, Instr.sliceBound, asIntOf, run_underlying ht, sizeOf, typeInfo, i1, i3, hj]
end
end Go.Proofs.Ythfpcebcfjlkmab
namespace Go.Proofs.Ythfpcebcfjlkmab
open Go.RowKit

/-- One operation of a region whose order is open. 'on': those that it waits for and whose values it is told; 'base': what it knows of the frame ahead of the region; 'pure': it asks nothing of the world. -/
structure Plan where
  on : List Nat
  slots : List Nat
  pure : Bool
def dstAt (l : List Oper) (i : Nat) : Option Nat := (l[i]?).bind (·.dst)
def anyOn (l : List Oper) (i : Nat) : List Nat := match l[i]? with
  | some o => (o.after.toList.filter (Region.binds .any)).map (·.on)
  | none => []
def drawB (n : Nat) (l : List Oper) (ps : List Plan) (s : Nat) : Bool :=
  ps.length == l.length && (List.range l.length).all fun i =>
    (anyOn l i).all (fun j => Nat.blt j i) &&
    (match ps[i]? with
     | none => false
     | some p => p.on.all (fun j => (anyOn l i).contains j && j != s) && p.slots.all (fun t => (List.range l.length).all fun k => k == i || dstAt l k != some t || (anyOn l k).contains i) &&
        (p.pure || i == s || Nat.ble l.length s || (anyOn l s).contains i) && (!(p.pure && i == s))) &&
    (match dstAt l i with
     | none => i == s
     | some d => i != s && Nat.blt d n && (List.range l.length).all fun k => k == i || dstAt l k != some d)

/-- What op is told of those that it waits for. -/
def told (l : List Oper) (V : Nat → Value → World → Prop) (w : World) (K : Fr → Prop) : List Nat → Fr → Prop
  | [], F => K F
  | j :: js, F => ∀ u, V j u w → told l V w K js (((dstAt l j).getD 0, u) :: F)

/-- What is to be shown of an operation. -/
def ob (P : Program) (n : Nat) (l : List Oper) (V : Nat → Value → World → Prop) (T : World → Prop) (w0 : World) (s i : Nat) (o : Oper) (p : Plan) (base : Fr) : Prop :=
  ∀ w, (p.pure = false → w0.grownBy w none) → told l V w (fun F => ∀ R : Fr, WL P n l.toArray [o]
    (fun L' w' => if i = s then L' = F ++ R ∧ T w' else ∃ u, L' = ((dstAt l i).getD 0, u) :: (F ++ R) ∧ (if p.pure then w' = w else w.grownBy w' none) ∧ V i u w') (F ++ R) w) p.on base
def obs (P : Program) (n : Nat) (l : List Oper) (V : Nat → Value → World → Prop) (T : World → Prop) (w0 : World) (L : Fr) (s : Nat) : Nat → List Oper → List Plan → List Fr → Prop
  | i, o :: os, p :: ps, b :: bs => (b.map (·.1) = p.slots ∧ sub b L ∧ ob P n l V T w0 s i o p b) ∧ obs P n l V T w0 L s (i + 1) os ps bs
  | _, [], [], [] => True
  | _, _, _, _ => False

theorem obs_at {P : Program} {n : Nat} {l : List Oper} {V : Nat → Value → World → Prop} {T : World → Prop} {w0 : World} {L : Fr} {s : Nat} : ∀ (os : List Oper) (ps : List Plan) (bs : List Fr) (i : Nat),
    obs P n l V T w0 L s i os ps bs → ∀ k o p, os[k]? = some o → ps[k]? = some p → ∃ b, b.map (·.1) = p.slots ∧ sub b L ∧ ob P n l V T w0 s (i + k) o p b
  | [], _, _, _, _, k, _, _, ho, _ => by simp at ho
  | o :: os, [], _, _, h, _, _, _, _, hp => by simp at hp
  | o :: os, p :: ps, [], _, h, _, _, _, _, _ => by exact h.elim
  | o :: os, p :: ps, b :: bs, i, h, k, o', p', ho, hp => by
    cases k with
    | zero =>
      simp at ho hp
      subst ho; subst hp
      exact ⟨b, h.1⟩
    | succ k =>
      obtain ⟨b', h1, h2, h3⟩ := obs_at os ps bs (i + 1) h.2 k o' p' (by simpa using ho) (by simpa using hp)
      exact ⟨b', h1, h2, by rw [show i + (k + 1) = i + 1 + k by omega]; exact h3⟩

theorem told_at {l : List Oper} {V : Nat → Value → World → Prop} {w : World} {K : Fr → Prop} (vals : Nat → Value) : ∀ (js : List Nat) (F : Fr), told l V w K js F → (∀ j ∈ js, V j (vals j) w) →
    K ((js.map fun j => ((dstAt l j).getD 0, vals j)).reverse ++ F)
  | [], F, h, _ => by simpa [told] using h
  | j :: js, F, h, hv => by
    have := told_at vals js _ (h (vals j) (hv j (List.mem_cons_self ..))) (fun k hk => hv k (List.mem_cons_of_mem _ hk))
    simpa using this

theorem oper_wp_mono {P : Program} {o : Oper} {a : Act} {w : World} {K K' : Act → World → Prop} {Q Q' : Exit → Act → World → Prop} (h : ∀ a w, K a w → K' a w) (hq : ∀ e a w, e ≠ .normal → Q e a w → Q' e a w)
    (hh : o.wp P a w K Q) : o.wp P a w K' Q' := by
  unfold Oper.wp at *
  generalize (execOp a.eval o).run P w = r at *
  cases r with
  | ok n w' =>
    cases n <;> simp only [Oper.upon] at hh ⊢ <;>
      first
        | exact h _ _ hh
        | exact Calls.mono hh (fun e w'' he => by
            cases e with
            | returned v => exact h _ _ he
            | panicked c => exact hq _ _ _ (by simp) he
            | outgrown => obtain ⟨a1, w1, h1⟩ := he; exact ⟨a1, w1, hq _ _ _ (by simp) h1⟩)
        | exact Rows.mono hh (fun _ _ he => h _ _ he)
  | halt x w' => cases x <;> simp only [Oper.upon] at hh ⊢ <;> first | exact hh | exact hq _ _ _ (by simp) hh

theorem lk_append (A B : Fr) (t : Nat) : lk (A ++ B) t = match lk A t with | some v => some v | none => lk B t := by
  induction A with
  | nil => rfl
  | cons p A ih =>
    obtain ⟨k, v⟩ := p
    by_cases e : k = t
    · subst e; simp [lk_self]
    · simp [lk_ne e, ih]
theorem lk_mem {A : Fr} {t : Nat} {v : Value} (h : lk A t = some v) : (t, v) ∈ A := by
  induction A with
  | nil => cases h
  | cons p A ih =>
    obtain ⟨k, u⟩ := p
    by_cases e : k = t
    · subst e; rw [lk_self] at h; cases h; exact List.mem_cons_self ..
    · rw [lk_ne e] at h; exact List.mem_cons_of_mem _ (ih h)
theorem lk_full (a : Act) (m t : Nat) (h : t < m) : lk ((List.range m).map fun t => (t, a.tmps.getD t undef)) t = some (a.tmps.getD t undef) := by
  induction m with
  | zero => omega
  | succ m ih =>
    rw [List.range_succ, List.map_append, lk_append]
    by_cases e : t < m
    · rw [ih e]
    · have : t = m := by omega
      subst this
      have hn : lk ((List.range t).map fun t => (t, a.tmps.getD t undef)) t = none := by
        cases hc : lk ((List.range t).map fun t => (t, a.tmps.getD t undef)) t with
        | none => rfl
        | some v => have := lk_mem hc; simp at this; omega
      rw [hn]
      simp [lk]
theorem sub_at {M L : Fr} (h : sub M L) {t : Nat} {v : Value} (hm : (t, v) ∈ M) : lk L t = some v := by
  induction M with
  | nil => cases hm
  | cons p M ih =>
    obtain ⟨k, u⟩ := p
    rcases List.mem_cons.1 hm with e | e
    · cases e; exact h.1
    · exact ih h.2 e

/-- What is known of the frame and the world when the operations 'd' have been carried out. -/
structure DInv (n : Nat) (l : List Oper) (ps : List Plan) (V : Nat → Value → World → Prop) (T : World → Prop) (w0 : World) (L : Fr) (s : Nat) (d : Nat → Bool) (vals : Nat → Value) (a : Act) (w : World) : Prop where
  nd : a.defers = []
  sz : a.tmps.size = n
  old : ∀ t v, lk L t = some v → (∀ k, d k = true → dstAt l k ≠ some t) → a.tmps[t]? = some v
  new : ∀ k t, d k = true → dstAt l k = some t → a.tmps[t]? = some (vals k)
  wd : d s = false → w0.grownBy w none
  ws : d s = true → T w
  vs : ∀ k, d k = true → k ≠ s → V k (vals k) w
  cl : ∀ k, d k = true → ∀ j ∈ anyOn l k, d j = true
  lt : ∀ k, d k = true → k < l.length

theorem lk_of_mem {A : Fr} {t : Nat} {v : Value} (h : (t, v) ∈ A) : ∃ u, lk A t = some u := by
  induction A with
  | nil => cases h
  | cons p A ih =>
    obtain ⟨k, u⟩ := p
    by_cases e : k = t
    · subst e; exact ⟨u, lk_self _ _ _⟩
    · rw [lk_ne e]
      rcases List.mem_cons.1 h with h | h
      · cases h; exact absurd rfl e
      · exact ih h
theorem getD_rep (m j : Nat) : (Array.replicate m false).getD j false = false := by
  rcases Nat.lt_or_ge j m with h | h
  · simp [Array.getD_eq_getD_getElem?, h]
  · simp [Array.getD_eq_getD_getElem?, h]
theorem getD_set (x : Array Bool) (i k : Nat) (hi : i < x.size) : (x.setIfInBounds i true).getD k false = (decide (i = k) || x.getD k false) := by
  simp only [Array.getD_eq_getD_getElem?, Array.getElem?_setIfInBounds]
  by_cases e : i = k
  · subst e; simp [hi]
  · simp [e]
theorem filter_set (x : List Bool) (i : Nat) (hi : x[i]? = some false) : (x.filter (!·)).length = ((x.set i true).filter (!·)).length + 1 := by
  induction x generalizing i with
  | nil => simp at hi
  | cons b x ih =>
    cases i with
    | zero => simp at hi; subst hi; simp
    | succ i => 
      have := ih i (by simpa using hi)
      cases b <;> simp [this]
theorem filter_zero {x : List Bool} (h : (x.filter (!·)).length = 0) (i : Nat) (hi : i < x.length) : x[i]? = some true := by
  have h1 : x.filter (!·) = [] := List.eq_nil_of_length_eq_zero h
  have h2 := List.filter_eq_nil_iff.1 h1 x[i] (List.getElem_mem hi)
  rw [List.getElem?_eq_getElem hi]
  cases hb : x[i] <;> simp_all

theorem W.draw {P : Program} {n id : Nat} {l : List Oper} {N : Post} {B : BPost} {L : Fr} {w0 : World} (ps : List Plan) (bs : List Fr) (V : Nat → Value → World → Prop) (T : World → Prop) (s : Nat)
    (hm : P.follows .mixedOrders = true) (hB : drawB n l ps s = true)
    (hV : ∀ j v w1 w2, V j v w1 → (w1.grownBy w2 none ∨ s < l.length) → V j v w2)
    (hobs : obs P n l V T w0 L s 0 l ps bs)
    (hN : ∀ (vals : Nat → Value) w', (if s < l.length then T w' else w0.grownBy w' none) → (∀ i, i < l.length → i ≠ s → V i (vals i) w') →
      N ((((List.range l.length).filterMap fun i => (dstAt l i).map fun t => (t, vals i))) ++ L) w') : W P n (.region id l.toArray true) N B L w0 := by
  simp only [drawB, Bool.and_eq_true, List.all_eq_true, List.mem_range, beq_iff_eq] at hB
  obtain ⟨hlen, hB⟩ := hB
  refine ⟨fun a ha => wp_region_any hm ?_⟩
  have key : ∀ (fuel : Nat) (listed : Array Bool) (vals : Nat → Value) (a : Act) (w : World), listed.size = l.length → (listed.toList.filter (!·)).length = fuel →
      DInv n l ps V T w0 L s (fun k => listed.getD k false) vals a w → wpAny P .any l.toArray (fin n N B) fuel listed a w := by
    intro fuel
    induction fuel with
    | zero =>
      intro listed vals a w hsz hf I
      have hall : ∀ k, k < l.length → listed.getD k false = true := fun k hk => by
        have := filter_zero hf k (by simpa [hsz] using hk)
        simp only [Array.getElem?_toList] at this
        simp [Array.getD_eq_getD_getElem?, this]
      refine ⟨?_, ?_⟩
      · cases hr : Region.ready .any l.toArray listed with
        | nil => rfl
        | cons i r =>
          have hi : i ∈ Region.ready .any l.toArray listed := by rw [hr]; exact List.mem_cons_self ..
          obtain ⟨h1, o, ho, _⟩ := mem_ready.1 hi
          have hlt : i < l.length := by have := (Array.getElem?_eq_some_iff.1 ho).1; simpa using this
          have := hall i hlt
          have hs : i < listed.size := by omega
          simp [Array.getD_eq_getD_getElem?, hs] at h1 this
          rw [h1] at this; cases this
      · refine ⟨_, ⟨I.nd, I.sz, ?_⟩, hN vals w ?_ fun i hi hne => I.vs i (hall i hi) hne⟩
        · intro t v hv
          rw [lk_append] at hv
          cases hc : lk ((List.range l.length).filterMap fun i => (dstAt l i).map fun t => (t, vals i)) t with
          | some u =>
            rw [hc] at hv
            cases hv
            have := lk_mem hc
            simp only [List.mem_filterMap, List.mem_range, Option.map_eq_some_iff] at this
            obtain ⟨k, hk, t', ht', he⟩ := this
            cases he
            exact I.new k t (hall k hk) ht'
          | none =>
            rw [hc] at hv
            refine I.old t v hv fun k hk hd => ?_
            have hm : (t, vals k) ∈ (List.range l.length).filterMap fun i => (dstAt l i).map fun t => (t, vals i) := by
              simp only [List.mem_filterMap, List.mem_range, Option.map_eq_some_iff]
              exact ⟨k, I.lt k hk, t, hd, rfl⟩
            obtain ⟨u, hu⟩ := lk_of_mem hm
            rw [hc] at hu; cases hu
        · split
          · rename_i hs; exact I.ws (hall s hs)
          · rename_i hs
            refine I.wd ?_
            have : listed.size ≤ s := by omega
            simp [Array.getD_eq_getD_getElem?, Array.getElem?_eq_none this]
    | succ fuel ih =>
      intro listed vals a w hsz hf I
      have hlist : ∀ k, listed.getD k true = false → k < l.length ∧ listed.getD k false = false := fun k hk => by
        rcases Nat.lt_or_ge k listed.size with h | h
        · simp [Array.getD_eq_getD_getElem?, h] at hk ⊢
          exact ⟨by omega, hk⟩
        · simp [Array.getD_eq_getD_getElem?, Array.getElem?_eq_none h] at hk
      refine ⟨?_, ?_⟩
      · intro hr
        -- the first that has not come up yet is ready
        exfalso
        have hex : ∃ k, k < l.length ∧ listed.getD k false = false := by
          by_cases hc : ∃ k, k < l.length ∧ listed.getD k false = false
          · exact hc
          · have hfe : listed.toList.filter (!·) = [] := by
              rw [List.filter_eq_nil_iff]
              intro b hb
              obtain ⟨k, hk, rfl⟩ := List.mem_iff_getElem.1 hb
              have hk' : k < listed.size := by simpa using hk
              have : ¬ listed.getD k false = false := fun h => hc ⟨k, by omega, h⟩
              simp [Array.getD_eq_getD_getElem?, hk'] at this
              simp [this]
            rw [hfe] at hf; simp at hf
        have hmin : ∀ m, (∃ k, k ≤ m ∧ k < l.length ∧ listed.getD k false = false) → ∃ k, k < l.length ∧ listed.getD k false = false ∧ ∀ j, j < k → listed.getD j false = true := by
          intro m
          induction m with
          | zero => rintro ⟨k, hk, h1, h2⟩; exact ⟨k, h1, h2, fun j hj => by omega⟩
          | succ m ihm =>
            rintro ⟨k, hk, h1, h2⟩
            by_cases hc : ∃ j, j ≤ m ∧ j < l.length ∧ listed.getD j false = false
            · exact ihm hc
            · refine ⟨k, h1, h2, fun j hj => ?_⟩
              cases hb : listed.getD j false with
              | true => rfl
              | false => exact absurd ⟨j, by omega, by omega, hb⟩ hc
        obtain ⟨k0, hk0, hk0'⟩ := hex
        obtain ⟨k, h1, h2, h3⟩ := hmin k0 ⟨k0, Nat.le_refl _, hk0, hk0'⟩
        have hin : k ∈ Region.ready .any l.toArray listed := by
          refine mem_ready.2 ⟨?_, l[k], by simp [h1], fun e he hb => ?_⟩
          · have : k < listed.size := by omega
            simp [Array.getD_eq_getD_getElem?, this] at h2 ⊢
            exact h2
          · have := (hB k h1).1.1 e.on (by
              simp only [anyOn, List.getElem?_eq_getElem h1, List.mem_map, List.mem_filter]
              exact ⟨e, ⟨by simpa using he, hb⟩, rfl⟩)
            exact h3 e.on (by simpa [Nat.blt_eq] using this)
        rw [hr] at hin; cases hin
      · intro i hi
        obtain ⟨h1, o, ho, hpre⟩ := mem_ready.1 hi
        obtain ⟨hil, hun⟩ := hlist i h1
        have ho' : l[i]? = some o := by simpa using ho
        have hpre' : ∀ j ∈ anyOn l i, listed.getD j false = true := fun j hj => by
          simp only [anyOn, ho', List.mem_map, List.mem_filter] at hj
          obtain ⟨e, ⟨he, hb⟩, rfl⟩ := hj
          exact hpre e (by simpa using he) hb
        obtain ⟨⟨_, hp⟩, hd⟩ := hB i hil
        have hpi : i < ps.length := by omega
        rw [List.getElem?_eq_getElem hpi] at hp
        generalize hpe : ps[i] = p at hp
        simp only [Bool.and_eq_true, List.all_eq_true, Bool.or_eq_true, List.mem_range, beq_iff_eq, bne_iff_ne, ne_eq, List.contains_iff_mem] at hp
        obtain ⟨⟨⟨hon, hsl⟩, hpur⟩, hpn⟩ := hp
        obtain ⟨b, hbs, hsub, hob⟩ := obs_at l ps bs 0 hobs i o p ho' (by rw [List.getElem?_eq_getElem hpi, hpe])
        rw [Nat.zero_add] at hob
        have hds : i ≠ s → p.pure = false → listed.getD s false = false := fun hne hpf => by
          cases hb : listed.getD s false with
          | false => rfl
          | true =>
            rcases hpur with ((h | h) | h) | h
            · rw [hpf] at h; cases h
            · exact absurd h hne
            · have := I.lt s hb; have : l.length ≤ s := by simpa [Nat.ble_eq] using h
              omega
            · have := I.cl s hb i h; rw [hun] at this; cases this
        have hw0 : p.pure = false → w0.grownBy w none := fun hpf => by
          by_cases e : i = s
          · subst e; exact I.wd hun
          · exact I.wd (hds e hpf)
        have hT := told_at vals p.on b (hob w hw0) (fun j hj => I.vs j (hpre' j (hon j hj).1) (hon j hj).2)
        generalize hF : (List.map (fun j => ((dstAt l j).getD 0, vals j)) p.on).reverse ++ b = F at hT
        have hdst : ∀ j, j < l.length → j ≠ s → ∃ d, dstAt l j = some d ∧ d < n := fun j hj hne => by
          have := (hB j hj).2
          cases hd : dstAt l j with
          | none => rw [hd] at this; simp at this; exact absurd this hne
          | some d => rw [hd] at this; simp only [Bool.and_eq_true] at this; exact ⟨d, rfl, by simpa [Nat.blt_eq] using this.1.2⟩
        have hHF : Has n a (F ++ (List.range n).map fun t => (t, a.tmps.getD t undef)) := by
          refine ⟨I.nd, I.sz, fun t v hv => ?_⟩
          rw [lk_append] at hv
          cases hc : lk F t with
          | some u =>
            rw [hc] at hv; cases hv
            have hm := lk_mem hc
            rw [← hF] at hm
            rcases List.mem_append.1 hm with hm | hm
            · simp only [List.mem_reverse, List.mem_map] at hm
              obtain ⟨j, hj, he⟩ := hm
              cases he
              obtain ⟨d, hd', _⟩ := hdst j (I.lt j (hpre' j (hon j hj).1)) (hon j hj).2
              rw [hd']
              exact I.new j d (hpre' j (hon j hj).1) hd'
            · have hL := sub_at hsub hm
              have hts : t ∈ p.slots := by rw [← hbs]; exact List.mem_map.2 ⟨_, hm, rfl⟩
              refine I.old t v hL fun k hk hdk => ?_
              rcases hsl t hts k (I.lt k hk) with (h | h) | h
              · subst h; rw [hun] at hk; cases hk
              · exact h hdk
              · have := I.cl k hk i h; rw [hun] at this; cases this
          | none =>
            rw [hc] at hv
            have hm := lk_mem hv
            simp only [List.mem_map, List.mem_range] at hm
            obtain ⟨t', ht', he⟩ := hm
            cases he
            have : t < a.tmps.size := by rw [I.sz]; exact ht'
            simp [Array.getD_eq_getD_getElem?, this]
        have hsome : ∀ t, t < n → ∃ v, lk (F ++ (List.range n).map fun t => (t, a.tmps.getD t undef)) t = some v := fun t ht => by
          rw [lk_append]
          cases lk F t with
          | some u => exact ⟨u, rfl⟩
          | none => exact ⟨_, lk_full a n t ht⟩
        have hW := (hT ((List.range n).map fun t => (t, a.tmps.getD t undef))).out a hHF (fun _ _ _ => False)
        have fin' : ∀ a' w', wpList P l.toArray (fin n (fun L' w' => if i = s then L' = F ++ (List.range n).map (fun t => (t, a.tmps.getD t undef)) ∧ T w' else ∃ u, L' = ((dstAt l i).getD 0, u) :: (F ++ (List.range n).map fun t => (t, a.tmps.getD t undef)) ∧ (if p.pure then w' = w else w.grownBy w' none) ∧ V i u w') (fun _ _ _ => False)) [] a' w' →
            wpAny P .any l.toArray (fin n N B) fuel (listed.setIfInBounds i true) a' w' := by
          intro a' w' hq
          obtain ⟨L', hL', hq⟩ := hq
          have hisz : i < listed.size := by omega
          have hset : ∀ k, (listed.setIfInBounds i true).getD k false = true → k = i ∨ listed.getD k false = true := fun k hk => by
            rw [getD_set _ _ _ hisz] at hk
            simp only [Bool.or_eq_true, decide_eq_true_eq] at hk
            exact hk.imp Eq.symm (fun h => h)
          have hset' : ∀ k, k = i ∨ listed.getD k false = true → (listed.setIfInBounds i true).getD k false = true := fun k hk => by
            rw [getD_set _ _ _ hisz]
            simp only [Bool.or_eq_true, decide_eq_true_eq]
            exact hk.imp Eq.symm (fun h => h)
          have hcount : ((listed.setIfInBounds i true).toList.filter (!·)).length = fuel := by
            have hg : listed.toList[i]? = some false := by
              simp [Array.getD_eq_getD_getElem?, hisz] at hun
              simp [hisz, hun]
            have := filter_set listed.toList i hg
            rw [Array.toList_setIfInBounds]
            omega
          have hcl : ∀ k, (listed.setIfInBounds i true).getD k false = true → ∀ j ∈ anyOn l k, (listed.setIfInBounds i true).getD j false = true := fun k hk j hj => by
            rcases hset k hk with rfl | h
            · exact hset' j (.inr (hpre' j hj))
            · exact hset' j (.inr (I.cl k h j hj))
          have hlt : ∀ k, (listed.setIfInBounds i true).getD k false = true → k < l.length := fun k hk => by
            rcases hset k hk with rfl | h
            · exact hil
            · exact I.lt k h
          by_cases e : i = s
          · rw [if_pos e] at hq
            obtain ⟨rfl, hTw⟩ := hq
            have hsame : ∀ t, t < n → a'.tmps[t]? = a.tmps[t]? := fun t ht => by
              obtain ⟨v, hv⟩ := hsome t ht
              rw [hL'.at_ t v hv, hHF.at_ t v hv]
            have hsame' : ∀ t v, a.tmps[t]? = some v → a'.tmps[t]? = some v := fun t v hv => by
              rw [hsame t (by have := (Array.getElem?_eq_some_iff.1 hv).1; rw [I.sz] at this; exact this)]; exact hv
            have hdn : dstAt l i = none := by
              cases hdd : dstAt l i with
              | none => rfl
              | some d => rw [hdd] at hd; simp [e] at hd
            refine ih _ vals a' w' (by simpa using hsz) hcount ⟨hL'.nd, hL'.sz, fun t v ht hk => hsame' t v (I.old t v ht fun k h => hk k (hset' k (.inr h))), fun k t hk ht => ?_, fun h => ?_, fun _ => hTw, fun k hk hne => ?_, hcl, hlt⟩
            · rcases hset k hk with rfl | h
              · rw [hdn] at ht; cases ht
              · exact hsame' _ _ (I.new k t h ht)
            · rw [← e, hset' i (.inl rfl)] at h; cases h
            · rcases hset k hk with rfl | h
              · exact absurd e hne
              · exact hV k _ w w' (I.vs k h hne) (.inr (by rw [← e]; exact hil))
          · rw [if_neg e] at hq
            obtain ⟨u, rfl, hww, hVu⟩ := hq
            obtain ⟨d, hdd, hdn⟩ := hdst i hil e
            rw [hdd] at hL' hd
            simp only [Option.getD_some] at hL'
            simp only [Bool.and_eq_true, List.all_eq_true, List.mem_range, Bool.or_eq_true, beq_iff_eq, bne_iff_ne, ne_eq] at hd
            have hsame' : ∀ t v, t ≠ d → a.tmps[t]? = some v → a'.tmps[t]? = some v := fun t v hne hv => by
              have ht : t < n := by have := (Array.getElem?_eq_some_iff.1 hv).1; rw [I.sz] at this; exact this
              obtain ⟨v', hv'⟩ := hsome t ht
              have h2 := hHF.at_ t v' hv'
              rw [hv] at h2; cases h2
              exact hL'.at_ t v (by rw [lk_ne (Ne.symm hne)]; exact hv')
            have hnew : a'.tmps[d]? = some u := hL'.at_ d u (lk_self _ _ _)
            have hVk : ∀ k, listed.getD k false = true → k ≠ s → V k (vals k) w' := fun k h hne => by
              by_cases hp' : p.pure = true
              · rw [if_pos hp'] at hww; subst hww; exact I.vs k h hne
              · rw [if_neg hp'] at hww; exact hV k _ w w' (I.vs k h hne) (.inl hww)
            refine ih _ (fun k => if k = i then u else vals k) a' w' (by simpa using hsz) hcount ⟨hL'.nd, hL'.sz, fun t v ht hk => ?_, fun k t hk ht => ?_, fun h => ?_, fun h => ?_, fun k hk hne => ?_, hcl, hlt⟩
            · exact hsame' t v (fun e' => hk i (hset' i (.inl rfl)) (by rw [hdd, e'])) (I.old t v ht fun k h => hk k (hset' k (.inr h)))
            · by_cases ek : k = i
              · subst ek; rw [hdd] at ht; cases ht; simpa using hnew
              · rw [if_neg ek]
                rcases hset k hk with h | h
                · exact absurd h ek
                · refine hsame' t _ (fun e' => ?_) (I.new k t h ht)
                  rcases hd.2 k (I.lt k h) with h' | h'
                  · exact ek h'
                  · exact h' (by rw [ht, e'])
            · have hs' : listed.getD s false = false := by
                cases hb : listed.getD s false with
                | false => rfl
                | true => rw [hset' s (.inr hb)] at h; cases h
              have h0 := I.wd hs'
              by_cases hp' : p.pure = true
              · rw [if_pos hp'] at hww; subst hww; exact h0
              · rw [if_neg hp'] at hww; exact ext_trans h0 hww
            · have hs' : listed.getD s false = true := by
                rcases hset s h with h' | h'
                · exact absurd h'.symm e
                · exact h'
              have hp' : p.pure = true := by
                cases hpp : p.pure with
                | true => rfl
                | false => have := hds e hpp; rw [hs'] at this; cases this
              rw [if_pos hp'] at hww; subst hww; exact I.ws hs'
            · by_cases ek : k = i
              · subst ek; simpa using hVu
              · rw [if_neg ek]
                rcases hset k hk with h | h
                · exact absurd h ek
                · exact hVk k h hne
        unfold wpOp
        rw [ho]
        simp only [wpList] at hW
        by_cases hwant : Region.wanted o (yielded l.toArray a.tmps) = true
        · rw [if_pos hwant] at hW
          simp only [hwant, if_true]
          rcases hW with hW | ⟨_, a', w', L', _, hF'⟩
          · exact .inl (oper_wp_mono fin' (fun e a w hne h => by cases e <;> first | exact absurd rfl hne | (obtain ⟨_, _, h⟩ := h; exact h.elim)) hW)
          · exact hF'.elim
        · rw [if_neg hwant] at hW
          simp only [hwant, if_false, Bool.false_eq_true]
          exact fin' _ _ hW
  refine key _ _ (fun _ => undef) a _ (by simp) (by simp) ?_
  exact {
    nd := ha.nd, sz := ha.sz
    old := fun t v h _ => ha.at_ t v h
    new := fun k t h => by rw [getD_rep] at h; cases h
    wd := fun _ => ⟨rfl, rfl, rfl, Nat.le_refl _, fun _ _ _ => rfl⟩
    ws := fun h => by rw [getD_rep] at h; cases h
    vs := fun k h => by rw [getD_rep] at h; cases h
    cl := fun k h => by rw [getD_rep] at h; cases h
    lt := fun k h => by rw [getD_rep] at h; cases h }
end Go.Proofs.Ythfpcebcfjlkmab
namespace Go.Proofs.Ythfpcebcfjlkmab
open Go.RowKit
def args0 : Nat → List Value → Fr
  | _, [] => []
  | i, v :: vs => (i, v) :: args0 (i + 1) vs
def lks (L : Fr) : List Nat → Option (List Value)
  | [] => some []
  | t :: ts => match lk L t with
    | none => none
    | some v => match lks L ts with
      | none => none
      | some vs => some (v :: vs)
def resv (L : Fr) : List Nat → Option Value
  | [t] => lk L t
  | ts => match lks L ts with
    | none => none
    | some vs => some (.tuple vs.toArray)
def endN (res : List Nat) (R : Value → World → Prop) : Post := fun L w => ∃ v, resv L res = some v ∧ R v w
def endB (res : List Nat) (R : Value → World → Prop) : BPost
  | .ret, L, w => ∃ v, resv L res = some v ∧ R v w
  | _, _, _ => False
theorem args0_at (vs : List Value) (i t : Nat) (v : Value) (h : lk (args0 i vs) t = some v) : i ≤ t ∧ vs[t - i]? = some v := by
  induction vs generalizing i with
  | nil => cases h
  | cons u vs ih =>
    by_cases e : i = t
    · subst e; rw [args0, lk_self] at h; cases h; simp
    · rw [args0, lk_ne e] at h
      obtain ⟨h1, h2⟩ := ih (i + 1) h
      refine ⟨by omega, ?_⟩
      rw [show t - i = (t - (i + 1)) + 1 by omega]
      simpa using h2
theorem lks_at {L : Fr} {a : Act} {n : Nat} (ha : Has n a L) : ∀ (ts : List Nat) (vs : List Value), lks L ts = some vs → ts.map (fun t => a.tmps.getD t undef) = vs
  | [], vs, h => by simp [lks] at h; simp [h]
  | t :: ts, vs, h => by
    unfold lks at h
    split at h
    · cases h
    · rename_i v hv
      split at h
      · cases h
      · rename_i us hus
        cases h
        rw [List.map_cons, lks_at ha ts us hus]
        simp [Array.getD_eq_getD_getElem?, ha.at_ t v hv]
theorem run_mapM {P : Program} {a : Act} {w : World} (g : ResultVar → Sem Value) (hg : ∀ t, g (.tmp t) = pure (a.tmps.getD t undef)) (res : List Nat) :
    (List.mapM g (res.map ResultVar.tmp)).run P w = .ok (res.map fun t => a.tmps.getD t undef) w := by
  induction res with
  | nil => rfl
  | cons t ts ih =>
    rw [List.map_cons, List.mapM_cons, Sem.run_bind, hg, Sem.run_pure, Result.andThen_ok, Sem.run_bind, ih]
    rfl
theorem run_results {P : Program} {fn : Func} {res : List Nat} {a : Act} {n : Nat} {L : Fr} {v : Value} {w : World} (hres : fn.results = (res.map ResultVar.tmp).toArray) (ha : Has n a L) (hv : resv L res = some v) :
    (results fn a.tmps).run P w = .ok v w := by
  unfold results
  rw [Sem.run_bind, hres, List.mapM_toArray, Sem.run_map, run_mapM _ (fun t => rfl)]
  simp only [Result.andThen_ok]
  unfold resv at hv
  split at hv
  · rename_i t
    simp [Array.getD_eq_getD_getElem?, ha.at_ t v hv]
  · rename_i hne
    split at hv
    · cases hv
    · rename_i vs hvs
      cases hv
      rw [lks_at ha _ _ hvs]
      have hl : vs.length ≠ 1 := by
        rw [← lks_at ha _ _ hvs, List.length_map]
        intro h1
        obtain ⟨t, rfl⟩ := List.length_eq_one_iff.1 h1
        exact hne t rfl
      simp [hl]
theorem calls_of_W {P : Program} {f : FuncId} {fn : Func} {c : Code} {n : Nat} {vs : List Value} {R : Value → World → Prop} {w : World} (res : List Nat) (hf : P.funcs[f]? = some fn) (hb : fn.body = some c) (hn : fn.ntmps = n)
    (hres : fn.results = (res.map ResultVar.tmp).toArray) (hle : Nat.ble vs.length n = true) (h : W P n c (endN res R) (endB res R) (args0 0 vs) w) : Calls P f vs.toArray w fun e w' => ∃ v, e = .returned v ∧ R v w' := by
  have hle' : vs.length ≤ n := by simpa [Nat.ble_eq] using hle
  refine calls_of_wp hf hb (wp_mono (h.out _ ⟨rfl, by simp [hn]; omega, fun t v hv => ?_⟩) fun e a w' q => ?_)
  · obtain ⟨_, h2⟩ := args0_at vs 0 t v hv
    have ht : t < vs.length := (List.getElem?_eq_some_iff.1 h2).1
    rw [Array.getElem?_append_left (by simpa using ht)]
    simpa using h2
  · cases e with
    | normal =>
      obtain ⟨L, hL, v, hv, hR⟩ := q
      exact ⟨hL.nd, v, run_results hres hL hv, v, rfl, hR⟩
    | ret =>
      obtain ⟨L, hL, v, hv, hR⟩ := q
      exact ⟨hL.nd, v, run_results hres hL hv, v, rfl, hR⟩
    | _ => obtain ⟨L, _, h⟩ := q; exact h.elim
theorem W.condT {P : Program} {n : Nat} {N : Post} {B : BPost} {L : Fr} {w : World} {c : Operand} {x y : Code} (hc : ev L c = some (.bool true)) (h : W P n x N B L w) : W P n (.cond c x y) N B L w := W.cond hc h
theorem W.condF {P : Program} {n : Nat} {N : Post} {B : BPost} {L : Fr} {w : World} {c : Operand} {x y : Code} (hc : ev L c = some (.bool false)) (h : W P n y N B L w) : W P n (.cond c x y) N B L w := W.cond hc h
/-! ### numbers -/
theorem wi64 {n r : Int} (lo : -9223372036854775808 ≤ n) (hi : n ≤ 9223372036854775807) (h : n = r) : IntKind.i64.wrap n = r := by rw [IntKind.wrap_i64]; omega
theorem wu64 {n r : Int} (lo : 0 ≤ n) (hi : n < 18446744073709551616) (h : n = r) : IntKind.u64.wrap n = r := by
  simp [IntKind.wrap, IntKind.bits, IntKind.signed]; omega
theorem wu32 {n r : Int} (lo : 0 ≤ n) (hi : n < 4294967296) (h : n = r) : IntKind.u32.wrap n = r := by
  simp [IntKind.wrap, IntKind.bits, IntKind.signed]; omega
theorem wu32m {n r : Int} (h : n % 4294967296 = r) : IntKind.u32.wrap n = r := by
  simp [IntKind.wrap, IntKind.bits, IntKind.signed]; omega
theorem wu8 {n r : Int} (lo : 0 ≤ n) (hi : n < 256) (h : n = r) : IntKind.u8.wrap n = r := by
  simp [IntKind.wrap, IntKind.bits, IntKind.signed]; omega
theorem tdiv_nat {x y : Int} {a b : Nat} (hx : x = a) (hy : y = b) : x.tdiv y = ((a / b : Nat) : Int) := by
  subst hx; subst hy; rw [Int.tdiv_eq_ediv_of_nonneg (by omega)]; rfl
theorem tmod_nat {x y : Int} {a b : Nat} (hx : x = a) (hy : y = b) : x.tmod y = ((a % b : Nat) : Int) := by
  subst hx; subst hy; rw [Int.tmod_eq_emod_of_nonneg (by omega)]; rfl
theorem qi64 {x y : Int} {a b : Nat} (hx : x = a) (hy : y = b) (ha : a < 9223372036854775808) : IntKind.i64.wrap (x.tdiv y) = ((a / b : Nat) : Int) := by
  rw [tdiv_nat hx hy]; have := Nat.div_le_self a b; generalize a / b = q at *; exact wi64 (by omega) (by omega) rfl
theorem qu64 {x y : Int} {a b : Nat} (hx : x = a) (hy : y = b) (ha : a < 18446744073709551616) : IntKind.u64.wrap (x.tdiv y) = ((a / b : Nat) : Int) := by
  rw [tdiv_nat hx hy]; have := Nat.div_le_self a b; generalize a / b = q at *; exact wu64 (by omega) (by omega) rfl
theorem qu32 {x y : Int} {a b : Nat} (hx : x = a) (hy : y = b) (ha : a < 4294967296) : IntKind.u32.wrap (x.tdiv y) = ((a / b : Nat) : Int) := by
  rw [tdiv_nat hx hy]; have := Nat.div_le_self a b; generalize a / b = q at *; exact wu32 (by omega) (by omega) rfl
/-- A shift to the right is a division, one to the left a multiplication. -/
theorem shr_nat {x y : Int} {a s : Nat} (hx : x = a) (hy : y = s) (m : Nat) (hs : s ≤ m) : x.fdiv (2 ^ min y.toNat m) = ((a / 2 ^ s : Nat) : Int) := by
  subst hx; subst hy
  rw [Int.toNat_natCast, Nat.min_eq_left hs, Int.fdiv_eq_ediv_of_nonneg _ (Int.pow_nonneg (by decide))]
  simp
theorem shl_nat {x y : Int} {a s : Nat} (hx : x = a) (hy : y = s) (m : Nat) (hs : s ≤ m) : x * 2 ^ min y.toNat m = ((a * 2 ^ s : Nat) : Int) := by
  subst hx; subst hy
  rw [Int.toNat_natCast, Nat.min_eq_left hs]
  simp
theorem iv {k : IntKind} {a b : Int} (h : a = b) : some (Value.int k a) = some (Value.int k b) := by rw [h]
/-! ### lists of limbs -/
def us (l : List Nat) : List Value := l.map fun x : Nat => .int .u32 (x : Int)
theorem us_len (l : List Nat) : (us l).length = l.length := by simp [us]
theorem us_at {l : List Nat} {j : Nat} (h : j < l.length) : (us l)[j]? = some (.int .u32 (l.getD j 0 : Nat)) := by
  simp [us, h]
theorem us_one (l : List Nat) : ∀ u ∈ us l, u.oneCell' = true := by
  intro u hu; simp only [us, List.mem_map] at hu; obtain ⟨x, _, rfl⟩ := hu; rfl
theorem us_set (l : List Nat) (j x : Nat) : (us l).set j (.int .u32 (x : Int)) = us (l.set j x) := by simp [us, List.map_set]
theorem us_append (a b : List Nat) : us a ++ us b = us (a ++ b) := by simp [us]
theorem us_app {a b c : List Nat} (h : a ++ b = c) : us a ++ us b = us c := by rw [us_append, h]
theorem us_take (l : List Nat) (k : Nat) : (us l).take (k * 1) = us (l.take k) := by simp [us, List.map_take]
theorem Rd.ulen {B : Nat} {w : World} {A : Option Addr} {m c : Nat} {l : List Nat} (h : Rd B w 1 A m c (us l)) : l.length = m := by have := h.len; rw [us_len] at this; omega
section
variable {P : Program} {n : Nat} {N : Post} {L : Fr} {w : World} {ops : Array Oper} {rest : List Oper}
variable {d : Nat} {ty : TypeId} {pos : String} {af : Array Edge}
theorem WL.index1 {x i : Operand} {t e : TypeId} {by_ : Nat} {zero : Value} {A : Option Addr} {m c B : Nat} {cs : List Value} {k : IntKind} {J : Int} {wR : World} (j : Nat)
    (ht : P.underlying t = some (.slice e)) (he : Elem P e 1 by_ zero) (hx : ev L x = some (.slice A m c)) (hi : ev L i = some (.int k J)) (hJ : J = j) (hj : j < m) (hR : Rd B wR 1 A m c cs) (hn : Nat.blt d n = true)
    (h : WL P n ops rest N ((d, .pointer (some ((adOf A).add j))) :: L) w) : WL P n ops (⟨some d, .indexAddr t x i, ty, pos, af, none⟩ :: rest) N L w :=
  WL.index j ht he hx hi hJ hj hR hn (by rw [Nat.mul_one]; exact h)
end
theorem fill_seq (vs : List Value) : ∀ (c : List Value) (i : Nat), (∀ v ∈ vs, v.oneCell' = true) → i + vs.length ≤ c.length →
    Instr.fill (fun i => some (i * 1, 1)) c.toArray ((List.range' i vs.length).zip vs) = some (c.take i ++ vs ++ c.drop (i + vs.length)).toArray := by
  induction vs with
  | nil => intro c i _ _; simp [Instr.fill]
  | cons v vs ih =>
    intro c i h1 hl
    have hv : v.cells = #[v] := by have := h1 v (List.mem_cons_self ..); cases v <;> simp_all [Value.cells, Value.oneCell']
    simp only [List.length_cons] at hl
    have hlt : i < c.length := by omega
    simp only [List.length_cons, List.range'_succ, List.zip_cons_cons, Instr.fill, hv, Nat.mul_one]
    rw [if_neg (by simp; omega)]
    have := ih (c.set i v) (i + 1) (fun u hu => h1 u (List.mem_cons_of_mem _ hu)) (by simp; omega)
    have hz : (#[v] : Array Value).zipIdx = #[(v, 0)] := by simp [Array.zipIdx]
    have hf : Array.foldl (fun (cs : Array Value) (x : Value × Nat) => cs.setIfInBounds (i + x.2) x.1) c.toArray #[(v, 0)] = (c.set i v).toArray := by simp
    rw [hz]
    refine Eq.trans (congrArg (fun q => Instr.fill _ q _) hf) ?_
    simp only [Nat.mul_one] at this
    rw [this]
    congr 2
    rw [List.take_succ_eq_append_getElem (by simpa using hlt)]
    simp only [List.getElem_set_self, List.take_set_of_le (Nat.le_refl i), List.append_assoc, List.singleton_append]
    congr 2
    rw [show i + (vs.length + 1) = i + 1 + vs.length by omega, List.drop_set_of_lt (by omega)]
section
variable {P : Program} {n : Nat} {N : Post} {L : Fr} {w : World} {ops : Array Oper} {rest : List Oper}
variable {d : Nat} {ty : TypeId} {pos : String} {af : Array Edge}
/-- A literal of a slice whose elements are one cell each, all given, in order. -/
theorem WL.lit1 {t e : TypeId} {by_ : Nat} {zero : Value} {k b : Nat} {parts : List (Nat × Operand)} {vs : List Value} (ht : P.underlying t = some (.slice e)) (he : Elem P e 1 by_ zero)
    (hk : Nat.ble k 1000 = true) (hv : evs L (parts.map (·.2)) = some vs) (hp : parts.map (·.1) = List.range' 0 k) (hl : vs.length = k) (h1 : ∀ v ∈ vs, v.oneCell' = true) (hb : b ≤ w.heap.size) (hn : Nat.blt d n = true)
    (h : ∀ A w', A = some ⟨w.heap.size, 0, none⟩ → Own b w' e 1 A k k vs → w.grownBy w' none → WL P n ops rest N ((d, .slice A k k) :: L) w') :
    WL P n ops (⟨some d, .buildSlice t k parts.toArray, ty, pos, af, none⟩ :: rest) N L w := by
  have hk' : k ≤ 1000 := by simpa [Nat.ble_eq] using hk
  refine WL.lit (cells := vs) ht he (by omega) ⟨vs, hv, ?_⟩ (by omega) hb hn h
  rw [hp, ← hl]
  have := fill_seq vs ((Array.range (vs.length * 1)).map (zero.cells[· % zero.cells.size]!)).toList 0 h1 (by simp)
  rw [Array.toArray_toList, List.drop_of_length_le (by simp), List.append_nil, List.take_zero, List.nil_append] at this
  exact this
end
theorem Vs_mono {len s : Nat} (Vs : List (Value → World → Prop)) (h : ∀ V ∈ Vs, ∀ v w1 w2, V v w1 → (w1.grownBy w2 none ∨ s < len) → V v w2) :
    ∀ j v w1 w2, (Vs.getD j (fun _ _ => True)) v w1 → (w1.grownBy w2 none ∨ s < len) → (Vs.getD j (fun _ _ => True)) v w2 := by
  intro j v w1 w2 h1 h2
  rw [List.getD_eq_getElem?_getD] at h1 ⊢
  cases hj : Vs[j]? with
  | none => trivial
  | some V => rw [hj] at h1; exact h V (List.mem_of_getElem? hj) v w1 w2 h1 h2
theorem ext_own {w0 w w' : World} {A : Option Addr} (h : w0.grownBy w none) (hg : w.grownBy w' (bl A)) (hb : ∀ g, bl A = some g → w0.heap.size ≤ g) : w0.grownBy w' none :=
  ⟨hg.os.trans h.os, hg.tape.trans h.tape, hg.output.trans h.output, Nat.le_trans h.size hg.size, fun k hk _ => (hg.block k (Nat.lt_of_lt_of_le hk h.size) (fun e => by have := hb k e.symm; omega)).trans (h.block k hk (by simp))⟩
theorem Rd.norm {B : Nat} {w : World} {z : Nat} {A : Option Addr} {m c : Nat} {cs : List Value} (h : Rd B w z A m c cs) (hz : 0 < z := by decide) : Rd w.heap.size w z A m c cs :=
  ⟨h.len, h.cap, h.max, fun hm => by
    obtain ⟨ad, e1, _, e3⟩ := h.cells hm
    have hl : 0 < cs.length := by rw [h.len]; exact Nat.mul_pos hm hz
    exact ⟨ad, e1, by have := World.block_lt_of_cell? w _ (e3 0 _ (List.getElem?_eq_getElem hl)); rwa [block_add] at this, e3⟩⟩
theorem ext_bel {w0 w w' : World} (h : w0.grownBy w none) (hg : Below w0.heap.size w w') : w0.grownBy w' none :=
  ⟨hg.os.trans h.os, hg.tape.trans h.tape, hg.output.trans h.output, Nat.le_trans h.size hg.size, fun k hk _ => (hg.block k hk).trans (h.block k hk (by simp))⟩
theorem bel_of {w w' : World} (h : w.grownBy w' none) : Below w.heap.size w w' := ⟨h.os, h.tape, h.output, h.size, fun k hk => h.block k hk (by simp)⟩
theorem made_us (k : Nat) : (madeCells (Value.int .u32 0).cells (k * 1)).toList = us (List.replicate k 0) := by
  rw [Nat.mul_one]
  show (madeCells #[Value.int .u32 0] k).toList = _
  rw [toList_madeCells_one]
  simp [us]
end Go.Proofs.Ythfpcebcfjlkmab
namespace Go.Proofs.Ythfpcebcfjlkmab
open Go.RowKit
theorem Rd.sig {B : Nat} {w : World} {A : Option Addr} {m c : Nat} {l : List Nat} (h : Rd B w 1 A m c (us l)) : Rd B w 1 A (sigL l) c (us (trimL l)) := by
  have := h.take (k := sigL l) (by rw [← h.ulen]; exact sigL_le l)
  rwa [us_take, ← trimL_take] at this
theorem Own.sig {b : Nat} {w : World} {e : Nat} {A : Option Addr} {m c : Nat} {l : List Nat} (h : Own b w e 1 A m c (us l)) : Own b w e 1 A (sigL l) c (us (trimL l)) := by
  have hl : l.length = m := h.rd.ulen
  refine ⟨by rw [us_len]; simp [sigL], ?_⟩
  rcases h.2 with ⟨h1, h2⟩ | ⟨g, cap, cur, h1, h2, h3, h4, h5, h6, h7⟩
  · cases h1
    have : l = [] := List.eq_nil_of_length_eq_zero hl
    subst this
    exact .inl ⟨rfl, rfl⟩
  · cases h1
    have hs := sigL_le l
    refine .inr ⟨g, _, cur, rfl, h2, h3, by omega, h5, h6, ?_⟩
    rw [trimL_take, ← us_take, ← h7, List.take_take, Nat.min_eq_left (by omega)]
def sA : Value → Option Addr | .slice A _ _ => A | _ => none
def sM : Value → Nat | .slice _ m _ => m | _ => 0
def sC : Value → Nat | .slice _ _ c => c | _ => 0
/-- Cells that are slices of limbs. -/
structure NatsR (B : Nat) (w : World) (cells : List Value) (xss : List (List Nat)) : Prop where
  len : cells.length = xss.length
  all : ∀ j, j < xss.length → cells.getD j undef = .slice (sA (cells.getD j undef)) (sM (cells.getD j undef)) (sC (cells.getD j undef)) ∧ Rd B w 1 (sA (cells.getD j undef)) (sM (cells.getD j undef)) (sC (cells.getD j undef)) (us (xss.getD j []))
theorem NatsR.at_ {B : Nat} {w : World} {cells : List Value} {xss : List (List Nat)} (h : NatsR B w cells xss) (j : Nat) (hj : j < xss.length) : cells.getD j undef = .slice (sA (cells.getD j undef)) (sM (cells.getD j undef)) (sC (cells.getD j undef)) ∧ Rd B w 1 (sA (cells.getD j undef)) (sM (cells.getD j undef)) (sC (cells.getD j undef)) (us (xss.getD j [])) := h.all j hj
theorem NatsR.cell {B : Nat} {w : World} {cells : List Value} {xss : List (List Nat)} (h : NatsR B w cells xss) (j : Nat) (hj : j < xss.length) : cells[j]? = some (.slice (sA (cells.getD j undef)) (sM (cells.getD j undef)) (sC (cells.getD j undef))) := by
  rw [← (h.at_ j hj).1]
  have : j < cells.length := by rw [h.len]; exact hj
  simp [List.getD_eq_getElem?_getD, this]
theorem NatsR.nil (B : Nat) (w : World) : NatsR B w [] [] := ⟨rfl, fun j h => by cases h⟩
theorem NatsR.cons {B : Nat} {w : World} {A : Option Addr} {m c : Nat} {l : List Nat} {cells : List Value} {xss : List (List Nat)} (h : Rd B w 1 A m c (us l)) (hs : NatsR B w cells xss) : NatsR B w (.slice A m c :: cells) (l :: xss) :=
  ⟨by simp [hs.len], fun j hj => by
    cases j with
    | zero => exact ⟨rfl, h⟩
    | succ j => simpa using hs.all j (by simpa using hj)⟩
theorem NatsR.ext {B : Nat} {w w' : World} {cells : List Value} {xss : List (List Nat)} (h : NatsR B w cells xss) (hg : w.grownBy w' none) : NatsR B w' cells xss := ⟨h.len, fun j hj => ⟨(h.all j hj).1, (h.all j hj).2.ext hg⟩⟩
theorem NatsR.below {B : Nat} {w w' : World} {cells : List Value} {xss : List (List Nat)} (h : NatsR B w cells xss) (hg : Below B w w') : NatsR B w' cells xss := ⟨h.len, fun j hj => ⟨(h.all j hj).1, (h.all j hj).2.below hg⟩⟩
theorem NatsR.norm {B : Nat} {w : World} {cells : List Value} {xss : List (List Nat)} (h : NatsR B w cells xss) : NatsR w.heap.size w cells xss := ⟨h.len, fun j hj => ⟨(h.all j hj).1, (h.all j hj).2.norm⟩⟩
theorem NatsR.take {B : Nat} {w : World} {cells : List Value} {xss : List (List Nat)} (h : NatsR B w cells xss) (k : Nat) : NatsR B w (cells.take k) (xss.take k) := by
  refine ⟨by simp [h.len], fun j hj => ?_⟩
  have hj' : j < xss.length ∧ j < k := by simp at hj; omega
  have e1 : (cells.take k).getD j undef = cells.getD j undef := by simp [List.getD_eq_getElem?_getD, hj'.2]
  have e2 : (xss.take k).getD j [] = xss.getD j [] := by simp [List.getD_eq_getElem?_getD, hj'.2]
  rw [e1, e2]; exact h.all j hj'.1
theorem NatsR.drop {B : Nat} {w : World} {cells : List Value} {xss : List (List Nat)} (h : NatsR B w cells xss) (k : Nat) : NatsR B w (cells.drop k) (xss.drop k) := by
  refine ⟨by simp [h.len], fun j hj => ?_⟩
  have hj' : k + j < xss.length := by simp at hj; omega
  have e1 : (cells.drop k).getD j undef = cells.getD (k + j) undef := by simp [List.getD_eq_getElem?_getD]
  have e2 : (xss.drop k).getD j [] = xss.getD (k + j) [] := by simp [List.getD_eq_getElem?_getD]
  rw [e1, e2]; exact h.all _ hj'
end Go.Proofs.Ythfpcebcfjlkmab
namespace Go.Proofs.Ythfpcebcfjlkmab
open Go.RowKit
theorem nv_set {l : List Nat} {k : Nat} (v : Nat) (h : k < l.length) : nv (l.set k v) + 4294967296 ^ k * l.getD k 0 = nv l + 4294967296 ^ k * v := by
  induction l generalizing k with
  | nil => simp at h
  | cons x l ih =>
    cases k with
    | zero => simp [nv]; omega
    | succ k =>
      have := ih (k := k) (by simpa using h)
      simp only [List.set_cons_succ, nv, List.getD_cons_succ, Nat.pow_succ]
      have e : ∀ u, 4294967296 ^ k * 4294967296 * u = 4294967296 * (4294967296 ^ k * u) := fun u => by rw [Nat.mul_comm (4294967296 ^ k), Nat.mul_assoc]
      rw [e, e]
      omega
theorem getD_set_ne {l : List Nat} {k t v : Nat} (h : k ≠ t) : (l.set k v).getD t 0 = l.getD t 0 := by simp [List.getD_eq_getElem?_getD, List.getElem?_set_ne h]
theorem mul_inner {zs : List Nat} {i j x y c base u s : Nat} (hij : i + j < zs.length) (h : nv zs + 4294967296 ^ (i + j) * c = base + 4294967296 ^ i * (x * u)) (hs : s = x * y + zs.getD (i + j) 0 + c) :
    nv (zs.set (i + j) (s % 4294967296)) + 4294967296 ^ (i + (j + 1)) * (s / 4294967296) = base + 4294967296 ^ i * (x * (u + 4294967296 ^ j * y)) := by
  have h1 := nv_set (s % 4294967296) hij
  generalize zs.getD (i + j) 0 = z at *
  have e1 : 4294967296 ^ (i + (j + 1)) * (s / 4294967296) + 4294967296 ^ (i + j) * (s % 4294967296) = 4294967296 ^ (i + j) * s := by
    rw [← Nat.add_assoc, Nat.pow_succ, Nat.mul_assoc, ← Nat.mul_add, Nat.div_add_mod]
  have e2 : 4294967296 ^ (i + j) * s = 4294967296 ^ (i + j) * (x * y) + 4294967296 ^ (i + j) * z + 4294967296 ^ (i + j) * c := by rw [hs, Nat.mul_add, Nat.mul_add]
  have e3 : 4294967296 ^ i * (x * (u + 4294967296 ^ j * y)) = 4294967296 ^ i * (x * u) + 4294967296 ^ (i + j) * (x * y) := by
    rw [Nat.mul_add x, Nat.mul_add, Nat.pow_add, Nat.mul_left_comm x, ← Nat.mul_assoc, ← Nat.mul_assoc, ← Nat.mul_assoc]
  omega
theorem mul_outer {zs : List Nat} {i m x c base u : Nat} (him : i + m < zs.length) (h0 : zs.getD (i + m) 0 = 0) (h : nv zs + 4294967296 ^ (i + m) * c = base + 4294967296 ^ i * (x * u)) :
    nv (zs.set (i + m) c) = base + 4294967296 ^ i * (x * u) := by
  have h1 := nv_set c him
  rw [h0] at h1
  omega
theorem mul_lim {x y z c : Nat} (hx : x < 4294967296) (hy : y < 4294967296) (hz : z < 4294967296) (hc : c < 4294967296) : x * y + z + c < 18446744073709551616 := by
  have : x * y ≤ 4294967295 * 4294967295 := Nat.mul_le_mul (by omega) (by omega)
  omega
theorem mul_lim0 {x y : Nat} (hx : x < 4294967296) (hy : y < 4294967296) : x * y ≤ 18446744065119617025 := Nat.mul_le_mul (by omega : x ≤ 4294967295) (by omega : y ≤ 4294967295)
theorem zeros_getD (n t : Nat) : (List.replicate n 0).getD t 0 = 0 := by
  simp only [List.getD_eq_getElem?_getD, List.getElem?_replicate]
  split <;> rfl
theorem take_mul {xa : List Nat} {i u : Nat} : nv (xa.take i) * u + 4294967296 ^ i * (xa.getD i 0 * u) = nv (xa.take (i + 1)) * u := by
  rw [nv_take_succ, Nat.add_mul, Nat.mul_assoc]
theorem trimL_getD {l : List Nat} {k : Nat} (h : k < sigL l) : (trimL l).getD k 0 = l.getD k 0 := by
  rw [trimL_take]; simp [List.getD_eq_getElem?_getD, h]
theorem sub_end {ys xb : List Nat} {a c : Nat} (hy : Lim ys) (hb : Lim xb) (h : nv ys + nv (xb.take ys.length) = a + 4294967296 ^ ys.length * c) (_hle : nv xb ≤ a) (_ha : a < 4294967296 ^ ys.length) : nv ys = a - nv xb := by
  have h1 := nv_split xb ys.length
  have h2 := nv_lt hy
  have h3 := nv_lt (hb.take ys.length)
  have h4 : 4294967296 ^ (xb.take ys.length).length ≤ 4294967296 ^ ys.length := Nat.pow_le_pow_right (by decide) (List.length_take_le ..)
  have h5 : nv (xb.drop ys.length) = 0 := by
    rcases Nat.eq_zero_or_pos (nv (xb.drop ys.length)) with h | h
    · exact h
    · have : 4294967296 ^ ys.length * 1 ≤ 4294967296 ^ ys.length * nv (xb.drop ys.length) := Nat.mul_le_mul_left _ h
      omega
  rw [h5] at h1
  have h6 : c = 0 := by
    rcases Nat.eq_zero_or_pos c with h | h
    · exact h
    · have : 4294967296 ^ ys.length * 1 ≤ 4294967296 ^ ys.length * c := Nat.mul_le_mul_left _ h
      omega
  subst h6
  omega
theorem canon_ge {l : List Nat} (h : trimL l = l) (hp : 0 < l.length) : 4294967296 ^ (l.length - 1) ≤ nv l := by
  have hs : sigL l = l.length := by unfold sigL; rw [h]
  have h1 := sigL_last (l := l) (by omega)
  rw [hs] at h1
  have h2 := nv_split l (l.length - 1)
  rw [nv_drop] at h2
  have h3 : 4294967296 ^ (l.length - 1) * 1 ≤ 4294967296 ^ (l.length - 1) * (l.getD (l.length - 1) 0 + 4294967296 * nv (l.drop (l.length - 1 + 1))) := Nat.mul_le_mul_left _ (by omega)
  omega
theorem canon_of_ge {l : List Nat} (hL : Lim l) (h : 0 < l.length → 4294967296 ^ (l.length - 1) ≤ nv l) : trimL l = l := by
  rw [trimL_take]
  refine List.take_of_length_le ?_
  rcases Nat.lt_or_ge (sigL l) l.length with h1 | h1
  · exfalso
    have h2 := h (by omega)
    have h3 := nv_lt hL.trim
    rw [nv_trimL] at h3
    have h4 : 4294967296 ^ (trimL l).length ≤ 4294967296 ^ (l.length - 1) := Nat.pow_le_pow_right (by decide) (by unfold sigL at h1; omega)
    omega
  · exact h1
theorem trimL_trimL {l : List Nat} (h : Lim l) : trimL (trimL l) = trimL l := by
  rw [trimL_digs _ h.trim, nv_trimL, trimL_digs _ h]
theorem trimL_digs_self (n : Nat) : trimL (digs n) = digs n := by rw [trimL_digs _ (digs_lim n), nv_digs]
theorem digs_len {n k : Nat} (h : n < 4294967296 ^ k) : (digs n).length ≤ k := by
  rcases Nat.lt_or_ge k (digs n).length with h1 | h1
  · have h2 := canon_ge (trimL_digs_self n) (by omega)
    rw [nv_digs] at h2
    have : 4294967296 ^ k ≤ 4294967296 ^ ((digs n).length - 1) := Nat.pow_le_pow_right (by decide) (by omega)
    omega
  · exact h1
/-- The sum of a list of numbers. -/
def sumN (l : List (List Nat)) : Nat := (l.map nv).sum
def prodN (l : List (List Nat)) : Nat := (l.map nv).foldr (· * ·) 1
def LimAll (l : List (List Nat)) : Prop := ∀ i, i < l.length → Lim (l.getD i [])
def LenAll (K : Nat) (l : List (List Nat)) : Prop := ∀ i, i < l.length → (l.getD i []).length ≤ K
@[simp] theorem sumN_nil : sumN [] = 0 := rfl
@[simp] theorem sumN_cons (x : List Nat) (l : List (List Nat)) : sumN (x :: l) = nv x + sumN l := by simp [sumN]
@[simp] theorem prodN_nil : prodN [] = 1 := rfl
@[simp] theorem prodN_cons (x : List Nat) (l : List (List Nat)) : prodN (x :: l) = nv x * prodN l := by simp [prodN]
@[simp] theorem nv_nil : nv [] = 0 := rfl
@[simp] theorem nv_one (x : Nat) : nv [x] = x := by simp [nv]
attribute [simp] nv_digs nv_trimL
theorem LimAll.nil : LimAll [] := fun i h => by cases h
theorem LimAll.cons {x : List Nat} {l : List (List Nat)} (h : Lim x) (hs : LimAll l) : LimAll (x :: l) := fun i hi => by
  cases i with
  | zero => exact h
  | succ i => exact hs i (by simpa using hi)
theorem LenAll.nil (K : Nat) : LenAll K [] := fun i h => by cases h
theorem LenAll.cons {K : Nat} {x : List Nat} {l : List (List Nat)} (h : x.length ≤ K) (hs : LenAll K l) : LenAll K (x :: l) := fun i hi => by
  cases i with
  | zero => exact h
  | succ i => exact hs i (by simpa using hi)
theorem getD_take {l : List (List Nat)} {k j : Nat} (h : j < k) : (l.take k).getD j [] = l.getD j [] := by simp [List.getD_eq_getElem?_getD, h]
theorem getD_drop (l : List (List Nat)) (k j : Nat) : (l.drop k).getD j [] = l.getD (k + j) [] := by simp [List.getD_eq_getElem?_getD]
theorem LimAll.take {l : List (List Nat)} (h : LimAll l) (k : Nat) : LimAll (l.take k) := fun i hi => by
  simp at hi; rw [getD_take (by omega)]; exact h i (by omega)
theorem LimAll.drop {l : List (List Nat)} (h : LimAll l) (k : Nat) : LimAll (l.drop k) := fun i hi => by
  simp at hi; rw [getD_drop]; exact h _ (by omega)
theorem LenAll.take {K : Nat} {l : List (List Nat)} (h : LenAll K l) (k : Nat) : LenAll K (l.take k) := fun i hi => by
  simp at hi; rw [getD_take (by omega)]; exact h i (by omega)
theorem LenAll.drop {K : Nat} {l : List (List Nat)} (h : LenAll K l) (k : Nat) : LenAll K (l.drop k) := fun i hi => by
  simp at hi; rw [getD_drop]; exact h _ (by omega)
theorem prodN_split (l : List (List Nat)) (k : Nat) : prodN (l.take k) * prodN (l.drop k) = prodN l := by
  induction l generalizing k with
  | nil => simp [prodN]
  | cons x l ih =>
    cases k with
    | zero => simp [prodN]
    | succ k =>
      have := ih k
      simp only [prodN, List.take_succ_cons, List.drop_succ_cons, List.map_cons, List.foldr_cons] at this ⊢
      rw [Nat.mul_assoc, this]
theorem prodN_one {l : List (List Nat)} (h : l.length = 1) : prodN l = nv (l.getD 0 []) := by
  match l, h with
  | [x], _ => simp [prodN]
theorem prodN_two {l : List (List Nat)} (h : l.length = 2) : prodN l = nv (l.getD 0 []) * nv (l.getD 1 []) := by
  match l, h with
  | [x, y], _ => simp [prodN]
theorem and32 {P : Program} {w : World} {a b : Nat} {x y : Int} (hx : x = a) (hy : y = b) (ha : a < 4294967296) (hb : b < 4294967296) : (Op.intBits .and .u32 x y).run P w = .ok (.int .u32 ((a &&& b : Nat) : Int)) w := by
  subst hx; subst hy
  have h1 := Nat.and_lt_two_pow (n := 32) a hb
  have e1 : (BitVec.ofInt 32 (a : Int) &&& BitVec.ofInt 32 (b : Int)).toNat = a &&& b := by
    rw [BitVec.ofInt_natCast, BitVec.ofInt_natCast, BitVec.toNat_and, BitVec.toNat_ofNat, BitVec.toNat_ofNat, Nat.mod_eq_of_lt ha, Nat.mod_eq_of_lt hb]
  have e2 : IntKind.u32.wrap ((a &&& b : Nat) : Int) = ((a &&& b : Nat) : Int) := wu32 (by omega) (by omega) rfl
  show Result.ok (Value.int .u32 (IntKind.u32.wrap ((BitVec.ofInt 32 (a : Int) &&& BitVec.ofInt 32 (b : Int)).toNat : Int))) w = _
  rw [e1, e2]
theorem or32 {P : Program} {w : World} {a b : Nat} {x y : Int} (hx : x = a) (hy : y = b) (ha : a < 4294967296) (hb : b < 4294967296) : (Op.intBits .or .u32 x y).run P w = .ok (.int .u32 ((a ||| b : Nat) : Int)) w := by
  subst hx; subst hy
  have h1 := Nat.or_lt_two_pow (n := 32) ha hb
  have e1 : (BitVec.ofInt 32 (a : Int) ||| BitVec.ofInt 32 (b : Int)).toNat = a ||| b := by
    rw [BitVec.ofInt_natCast, BitVec.ofInt_natCast, BitVec.toNat_or, BitVec.toNat_ofNat, BitVec.toNat_ofNat, Nat.mod_eq_of_lt ha, Nat.mod_eq_of_lt hb]
  have e2 : IntKind.u32.wrap ((a ||| b : Nat) : Int) = ((a ||| b : Nat) : Int) := wu32 (by omega) (by omega) rfl
  show Result.ok (Value.int .u32 (IntKind.u32.wrap ((BitVec.ofInt 32 (a : Int) ||| BitVec.ofInt 32 (b : Int)).toNat : Int))) w = _
  rw [e1, e2]
theorem xor32 {P : Program} {w : World} {a b : Nat} {x y : Int} (hx : x = a) (hy : y = b) (ha : a < 4294967296) (hb : b < 4294967296) : (Op.intBits .xor .u32 x y).run P w = .ok (.int .u32 ((a ^^^ b : Nat) : Int)) w := by
  subst hx; subst hy
  have h1 := Nat.xor_lt_two_pow (n := 32) ha hb
  have e1 : (BitVec.ofInt 32 (a : Int) ^^^ BitVec.ofInt 32 (b : Int)).toNat = a ^^^ b := by
    rw [BitVec.ofInt_natCast, BitVec.ofInt_natCast, BitVec.toNat_xor, BitVec.toNat_ofNat, BitVec.toNat_ofNat, Nat.mod_eq_of_lt ha, Nat.mod_eq_of_lt hb]
  have e2 : IntKind.u32.wrap ((a ^^^ b : Nat) : Int) = ((a ^^^ b : Nat) : Int) := wu32 (by omega) (by omega) rfl
  show Result.ok (Value.int .u32 (IntKind.u32.wrap ((BitVec.ofInt 32 (a : Int) ^^^ BitVec.ofInt 32 (b : Int)).toNat : Int))) w = _
  rw [e1, e2]
theorem WL.compl32 {P : Program} {n : Nat} {N : Post} {L : Fr} {w : World} {ops : Array Oper} {rest : List Oper} {d : Nat} {ty : TypeId} {pos : String} {af : Array Edge} {x : Operand} {tx : TypeId} {X : Int} {a : Nat}
    (hx : ev L x = some (.int .u32 X)) (hX : X = a) (ha : a < 4294967296) (hn : Nat.blt d n = true) (h : WL P n ops rest N ((d, .int .u32 ((4294967295 - a : Nat) : Int)) :: L) w) :
    WL P n ops (⟨some d, .unOp .xor tx x, ty, pos, af, none⟩ :: rest) N L w := by
  subst hX
  have e1 : 4294967295 ^^^ a = 4294967295 - a := by
    apply Nat.eq_of_testBit_eq
    intro i
    rw [show 4294967295 - a = 2 ^ 32 - (a + 1) by omega, Nat.testBit_two_pow_sub_succ (by omega), Nat.testBit_xor, show 4294967295 = 2 ^ 32 - 1 by decide, Nat.testBit_two_pow_sub_one]
    by_cases hi : i < 32
    · simp [hi]
    · have : a.testBit i = false := Nat.testBit_lt_two_pow (Nat.lt_of_lt_of_le ha (Nat.pow_le_pow_right (n := 2) (by decide) (show 32 ≤ i by omega)))
      simp [hi, this]
  have hr : (Op.unary .xor (.int .u32 (a : Int))).run P w = .ok (.int .u32 ((4294967295 - a : Nat) : Int)) w := by
    have := xor32 (P := P) (w := w) (a := 4294967295) (b := a) (x := 4294967295) (y := a) rfl rfl (by decide) ha
    rw [e1] at this
    exact this
  exact WL.val rfl rfl hn (fun b hb => by simp [execOp, hb.ev hx, hr]) h
theorem top_bit {v : Nat} (h : v < 4294967296) : v / 2147483648 = if v.testBit 31 then 1 else 0 := by
  rw [Nat.testBit_eq_decide_div_mod_eq]
  by_cases h1 : v / 2 ^ 31 % 2 = 1
  · simp only [h1, decide_true, if_true]; omega
  · simp only [h1, decide_false]; split <;> first | contradiction | omega
theorem tb31 {v : Nat} (h : v < 4294967296) : v.testBit 31 = decide (2147483648 ≤ v) := by
  rw [Nat.testBit_eq_decide_div_mod_eq, Bool.eq_iff_iff, decide_eq_true_iff, decide_eq_true_iff]; omega
theorem borrow32 {x y c : Nat} (hx : x < 4294967296) (hy : y < 4294967296) (hc : c ≤ 1) :
    (((4294967295 - x) &&& y) ||| ((4294967295 - (x ^^^ y)) &&& ((x + 8589934592 - y - c) % 4294967296))) / 2147483648 = if x < y + c then 1 else 0 := by
  have hxy := Nat.xor_lt_two_pow (n := 32) hx hy
  have hd : (x + 8589934592 - y - c) % 4294967296 < 4294967296 := Nat.mod_lt _ (by decide)
  rw [top_bit (Nat.or_lt_two_pow (n := 32) (Nat.and_lt_two_pow (n := 32) _ hy) (Nat.and_lt_two_pow (n := 32) _ hd)), Nat.testBit_or, Nat.testBit_and, Nat.testBit_and,
    show 4294967295 - x = 2 ^ 32 - (x + 1) by omega, show 4294967295 - (x ^^^ y) = 2 ^ 32 - ((x ^^^ y) + 1) by omega, Nat.testBit_two_pow_sub_succ (by omega), Nat.testBit_two_pow_sub_succ (by omega), Nat.testBit_xor, tb31 hx, tb31 hy, tb31 hd]
  generalize hdd : (x + 8589934592 - y - c) % 4294967296 = d at *
  by_cases h1 : 2147483648 ≤ x <;> by_cases h2 : 2147483648 ≤ y <;> by_cases h3 : 2147483648 ≤ d <;> simp [h1, h2, h3] <;> omega
theorem sigL_mono {a b : List Nat} (ha : Lim a) (_hb : Lim b) (h : nv b ≤ nv a) : sigL b ≤ sigL a := by
  rcases Nat.lt_or_ge (sigL a) (sigL b) with h1 | h1
  · have := sigL_lt ha h1; omega
  · exact h1
theorem trimL_getD0 (l : List Nat) (k : Nat) : (trimL l).getD k 0 = l.getD k 0 := by
  rcases Nat.lt_or_ge k (sigL l) with h | h
  · exact trimL_getD h
  · rw [sigL_zero h, getD_out (by simpa [sigL] using h)]
theorem nv_take_sig {l : List Nat} {i : Nat} (h : sigL l ≤ i) : nv (l.take i) = nv l := by
  have := nv_split l i; rw [nv_drop_sig l h] at this; omega
end Go.Proofs.Ythfpcebcfjlkmab
namespace Go.Proofs.Ythfpcebcfjlkmab
open Go.ChangeShapes Go.WideShapes Go.ChangeAt Go.RowKit
theorem u32_arg {x : Int} (h : (Lit.int .u32 x).wf = true) : 0 ≤ x ∧ x < 4294967296 := by
  simp [Lit.wf, IntKind.min, IntKind.max, IntKind.signed, IntKind.bits] at h
  exact ⟨by omega, by omega⟩
theorem int_arg {x : Int} (h : (Lit.int .i64 x).wf = true) : -9223372036854775808 ≤ x ∧ x ≤ 9223372036854775807 := by
  simp [Lit.wf, IntKind.min, IntKind.max, IntKind.signed, IntKind.bits] at h
  exact ⟨by omega, by omega⟩
/-- A slice of limbs that came in. -/
theorem nat_arg_d {H : Type} {enc : TypeId × Value → H} {P : Program} {W : World} {base : Nat} {spare : Nat → Bool} {held : Bool} {t e : TypeId} {A : Option Addr} {m c : Nat} {d : DataW H} {p : List MemPlace}
    (ht : P.underlying t = some (.slice e)) (he : P.underlying e = some (.int .u32)) (hc : P.cellsOf e = 1) (h : DataW.Trod enc P W base spare held t (.slice A m c) d p) : ∃ xs : List Nat, Rd W.heap.size W 1 A m c (us xs) ∧ Lim xs ∧ ((d = .nil ∧ m = 0) ∨ ∃ es ss, d = .slice es ss ∧ es.length = m) := by
  obtain ⟨fuel, hf⟩ := h
  rcases open_ints ht he hc hf with ⟨hcs, hx⟩ | ⟨x, l, c', zs, hcs, _, hl, hm, hz, hx, hcell, hwz⟩
  · simp [Value.cells] at hcs
    obtain ⟨rfl, rfl, rfl⟩ := hcs
    cases hx
    exact ⟨[], Rd.nil (by simp [maxLen]), Lim.nil, .inl ⟨rfl, rfl⟩⟩
  · simp [Value.cells] at hcs
    obtain ⟨rfl, rfl, rfl⟩ := hcs
    have hzl : m ≤ zs.length := by rw [hz]; split <;> omega
    have hw : ∀ n ∈ zs, 0 ≤ n ∧ n < 4294967296 := fun n hn => u32_arg (hwz n hn)
    have hr : Rd W.heap.size W 1 (some x) m c (us ((zs.take m).map Int.toNat)) := by
      refine Rd.norm (B := x.block + 1) ⟨?_, hl, hm, fun hm0 => ⟨x, rfl, Nat.lt_succ_self _, fun j u hu => ?_⟩⟩
      · simp only [us_len, List.length_map, List.length_take]; omega
      · simp only [us, List.getElem?_map, Option.map_eq_some_iff] at hu
        obtain ⟨n, ⟨z, hz1, rfl⟩, rfl⟩ := hu
        rw [List.getElem?_take] at hz1
        split at hz1
        · rename_i hj
          have hjl : j < zs.length := by omega
          have h1 := hcell j hjl
          have h2 := hw z (List.mem_of_getElem? hz1)
          rw [h1, List.getD_eq_getElem?_getD, hz1]
          simp only [Option.getD_some]
          congr 2
          omega
        · cases hz1
    refine ⟨_, hr, fun n hn => ?_, .inr ?_⟩
    · obtain ⟨z, hz1, rfl⟩ := List.mem_map.1 hn
      have := hw z (List.mem_of_mem_take hz1)
      omega
    · cases hx
      exact ⟨_, _, rfl, by simp [lits]; omega⟩
end Go.Proofs.Ythfpcebcfjlkmab
set_option linter.unusedSimpArgs false
set_option linter.unusedVariables false
namespace Go.Proofs.Ythfpcebcfjlkmab
open Go.RowKit
/-- Field f of the struct type t is one cell, at the offset off. -/
def fldB (P : Program) (t f off : Nat) : Bool :=
  match P.underlying t with
  | some (.struct fs) =>
    match fs[f]? with
    | some fd => fd.offset == off && (match P.underlying fd.type with | some (.struct _) => false | some (.array _ _) => false | some _ => true | none => false)
    | none => false
  | _ => false
/-- The struct type t: the places of its fields, its zero value. -/
def bldP (P : Program) (t : Nat) (pl : List (Nat × Nat)) (zs : Array Value) : Prop :=
  (P.info? t).map (·.zero) = some (some (.agg zs)) ∧ ∃ fs, P.underlying t = some (.struct fs) ∧ fs.toList.mapM (fun f => (P.info? f.type).map fun i => (f.offset, i.size)) = some pl
theorem built_of {P : Program} {t : Nat} {pl : List (Nat × Nat)} {zs : Array Value} (h : bldP P t pl zs) (parts : List (Nat × Value)) : P.built t parts = Instr.fill (pl.toArray[·]?) zs parts := by
  obtain ⟨h1, fs, h2, h3⟩ := h
  cases hi : P.info? t with
  | none => rw [hi] at h1; cases h1
  | some it =>
    rw [hi] at h1
    simp only [Option.map_some, Option.some.injEq] at h1
    simp only [Program.built, hi, h2, h1, h3, Value.cells]

section
variable {P : Program} {n : Nat} {N : Post} {L : Fr} {w : World} {ops : Array Oper} {rest : List Oper}
variable {d : Nat} {ty : TypeId} {pos : String} {af : Array Edge}
theorem WL.build {t : Nat} {pl : List (Nat × Nat)} {zs cells : Array Value} {parts : List (Nat × Operand)} {vs : List Value} (hB : bldP P t pl zs) (hx : evs L (parts.map (·.2)) = some vs)
    (hf : Instr.fill (pl.toArray[·]?) zs ((parts.map (·.1)).zip vs) = some cells) (hn : Nat.blt d n = true)
    (h : WL P n ops rest N ((d, .agg cells) :: L) w) : WL P n ops (⟨some d, .build t parts.toArray, ty, pos, af, none⟩ :: rest) N L w := by
  refine WL.val rfl rfl hn (fun a ha => ?_) h
  have hm := ha.evs hx
  have hz : (parts.map fun x => (x.1, a.eval x.2)) = (parts.map (·.1)).zip vs := by
    rw [← hm]
    clear hm hf hx
    induction parts with
    | nil => rfl
    | cons p l ih => simp [ih]
  have hb : P.built t (parts.map fun x => (x.1, a.eval x.2)) = some cells := by rw [built_of hB, hz]; exact hf
  have := run_build (P := P) w t (parts.map fun x => (x.1, a.eval x.2)).toArray cells (by simpa using hb)
  simp [execOp] at this ⊢
  simp [this]
end
end Go.Proofs.Ythfpcebcfjlkmab
set_option linter.unusedSimpArgs false
set_option linter.unusedVariables false
namespace Go.Proofs.Ythfpcebcfjlkmab
open Go.RowKit
/-! ### variables of struct type -/
def aggB (P : Program) (t : Nat) : Bool := match P.underlying t with | some (.struct _) => true | some (.array _ _) => true | _ => false
theorem isAgg_of {P : Program} {t : Nat} (h : aggB P t = true) (w : World) : (isAgg t).run P w = .ok true w := by
  unfold aggB at h
  cases hu : P.underlying t with
  | none => rw [hu] at h; cases h
  | some D =>
    rw [hu] at h
    simp only [isAgg, Sem.run_bind, run_underlying hu, Result.andThen_ok]
    cases D <;> simp_all
theorem run_loadV {P : Program} {w : World} {t z by_ : Nat} {zero : Value} {p : Addr} {cs : List Value} (he : Elem P t z by_ zero) (ha : aggB P t = true) (hl : cs.length = z) (hc : ∀ j u, cs[j]? = some u → w.cell? (p.add j) = some u) :
    (loadVar t p).run P w = .ok (.agg cs.toArray) w := by
  obtain ⟨inf, i1, i2, i3, i4⟩ := he.ex
  have h := run_loadCells_list (P := P) w p cs hc
  rw [hl] at h
  simp [loadVar, Sem.run_bind, isAgg_of ha, sizeOf, typeInfo, i1, i3, h]
theorem Own.vcells {b : Nat} {w : World} {e z g : Nat} {cs : List Value} (h : Own b w e z (some ⟨g, 0, none⟩) 1 1 cs) : ∀ j u, cs[j]? = some u → w.cell? ((⟨g, 0, none⟩ : Addr).add j) = some u := fun j u hu => h.rd.at_ hu
/-- A field's place: one that is no empty one. -/
def fldA (P : Program) (t f off : Nat) : Bool :=
  match P.underlying t with
  | some (.struct fs) =>
    match fs[f]? with
    | some fd => fd.offset == off && (match P.info? fd.type with | some i => i.size != 0 | none => false)
    | none => false
  | _ => false
theorem run_fieldAt {P : Program} {w : World} {t f off : Nat} {p : Addr} (h : fldA P t f off = true) : (Instr.fieldAt t (.pointer (some p)) f).run P w = .ok (.pointer (some (p.add off))) w := by
  unfold fldA at h
  split at h
  · rename_i fs hu
    split at h
    · rename_i fd hfd
      simp only [Bool.and_eq_true, beq_iff_eq] at h
      obtain ⟨ho, hk⟩ := h
      subst ho
      cases hi : P.info? fd.type with
      | none => rw [hi] at hk; cases hk
      | some i =>
        rw [hi] at hk
        have hk' : i.size ≠ 0 := by simpa using hk
        simp [Instr.fieldAt, run_underlying hu, hfd, Instr.sureAddr, fieldPlace, sizeOf, typeInfo, hi, hk']
    · cases h
  · cases h
theorem apart {g h : Nat} (hn : g ≠ h) : ∀ k, bl (some ⟨h, 0, none⟩) = some k → bl (some ⟨g, 0, none⟩) ≠ some k := fun k e1 e2 => by
  simp only [bl, Option.map_some, Option.some.injEq] at e1 e2
  omega
theorem ap_row {A : Option Addr} {g : Nat} (h : ∀ k, bl A = some k → k ≠ g) : ∀ k, bl (some ⟨g, 0, none⟩) = some k → bl A ≠ some k := fun k e1 e2 => by
  simp only [bl, Option.map_some, Option.some.injEq] at e1
  exact h k e2 e1.symm
theorem ap_var {A : Option Addr} {g : Nat} (h : ∀ k, bl A = some k → k ≠ g) : ∀ k, bl A = some k → bl (some ⟨g, 0, none⟩) ≠ some k := fun k e1 e2 => by
  simp only [bl, Option.map_some, Option.some.injEq] at e2
  exact h k e1 e2.symm
theorem ap_new {b : Nat} {w : World} {e z m c : Nat} {A : Option Addr} {cs : List Value} {g : Nat} (h : Own b w e z A m c cs) (hg : g < b) : ∀ k, bl A = some k → k ≠ g := fun k hk => by
  have := (h.bl_ge k hk).1; omega
theorem ap_old {b : Nat} {w : World} {e z m c : Nat} {A : Option Addr} {cs : List Value} {g : Nat} (h : Own b w e z A m c cs) (hg : g = w.heap.size) : ∀ k, bl A = some k → k ≠ g := fun k hk => by
  have := (h.bl_ge k hk).2; omega
theorem own_new (w : World) (t z : Nat) (cs : Array Value) (hz : cs.size = z) : Own w.heap.size (w.alloc (.cells cs t)) t z (some ⟨w.heap.size, 0, none⟩) 1 1 cs.toList :=
  World.ownsRow_lit (e := t) (size := z) w cs 1 (Nat.le_refl _) (by simp [maxLen]) (by simpa using hz)

section
variable {P : Program} {n : Nat} {N : Post} {L : Fr} {w : World} {ops : Array Oper} {rest : List Oper}
variable {d : Nat} {ty : TypeId} {pos : String} {af : Array Edge}
theorem WL.alloc {t z by_ : Nat} {zero : Value} (he : Elem P t z by_ zero) (hn : Nat.blt d n = true)
    (h : ∀ g w', g = w.heap.size → Own w.heap.size w' t z (some ⟨g, 0, none⟩) 1 1 zero.cells.toList → w.grownBy w' none → WL P n ops rest N ((d, .pointer (some ⟨g, 0, none⟩)) :: L) w') :
    WL P n ops (⟨some d, .alloc t, ty, pos, af, none⟩ :: rest) N L w := by
  obtain ⟨inf, i1, i2, i3, i4⟩ := he.ex
  refine WL.val rfl rfl hn (fun a ha => ?_) (h _ _ rfl (own_new w t z zero.cells he.zs) (World.grownBy_alloc w _ none))
  simp [execOp, Instr.alloc, zeroValue, typeInfo, i1, i2, newVar, newRow]
theorem WL.box {x : Operand} {t z by_ : Nat} {zero : Value} {cs : Array Value} (he : Elem P t z by_ zero) (hx : ev L x = some (.agg cs)) (hz : cs.size = z) (hn : Nat.blt d n = true)
    (h : ∀ g w', g = w.heap.size → Own w.heap.size w' t z (some ⟨g, 0, none⟩) 1 1 cs.toList → w.grownBy w' none → WL P n ops rest N ((d, .pointer (some ⟨g, 0, none⟩)) :: L) w') :
    WL P n ops (⟨some d, .box t x, ty, pos, af, none⟩ :: rest) N L w := by
  refine WL.val rfl rfl hn (fun a ha => ?_) (h _ _ rfl (own_new w t z cs hz) (World.grownBy_alloc w _ none))
  simp [execOp, ha.ev hx, Instr.box, newVar, newRow, Value.cells]
theorem WL.loadV {x : Operand} {t z by_ : Nat} {zero : Value} {p : Addr} {cs : List Value} (he : Elem P t z by_ zero) (hag : aggB P t = true) (hx : ev L x = some (.pointer (some p))) (hl : cs.length = z) (hc : ∀ j u, cs[j]? = some u → w.cell? (p.add j) = some u)
    (hn : Nat.blt d n = true) (h : WL P n ops rest N ((d, .agg cs.toArray) :: L) w) : WL P n ops (⟨some d, .load t x, ty, pos, af, none⟩ :: rest) N L w :=
  WL.val rfl rfl hn (fun a ha => by simp [execOp, ha.ev hx, Instr.loadAt, Instr.sureAddr, run_loadV he hag hl hc]) h
theorem WL.fieldA {x : Operand} {t f off : Nat} {p : Addr} (hF : fldA P t f off = true) (hx : ev L x = some (.pointer (some p))) (hn : Nat.blt d n = true)
    (h : WL P n ops rest N ((d, .pointer (some (p.add off))) :: L) w) : WL P n ops (⟨some d, .fieldAddr t x f, ty, pos, af, none⟩ :: rest) N L w :=
  WL.val rfl rfl hn (fun a ha => by simp [execOp, ha.ev hx, run_fieldAt hF]) h
theorem WL.storeV {x y : Operand} {t e z by_ b g : Nat} {zero : Value} {cells : Array Value} {old : List Value} (he : Elem P t z by_ zero) (hx : ev L x = some (.pointer (some ⟨g, 0, none⟩))) (hy : ev L y = some (.agg cells)) (hz : cells.size = z)
    (h1 : cells.toList.all (·.oneCell') = true) (hO : Own b w e z (some ⟨g, 0, none⟩) 1 1 old)
    (h : ∀ w', Own b w' e z (some ⟨g, 0, none⟩) 1 1 cells.toList → w.grownBy w' (bl (some ⟨g, 0, none⟩)) → WL P n ops rest N L w') : WL P n ops (⟨none, .store t x y, ty, pos, af, none⟩ :: rest) N L w := by
  obtain ⟨inf, i1, i2, i3, i4⟩ := he.ex
  obtain ⟨hl, hO2⟩ := hO
  rcases hO2 with ⟨hx0, _⟩ | ⟨g', cap, cur, hg1, hg2, hg3, hg4, hg5, hg6, hg7⟩
  · cases hx0
  · cases hg1
    have hcz : cur.size = cells.size := by rw [hg6, hz, Nat.one_mul]
    have hrun := run_storeVar_row (P := P) w g e t cur cells hg3 (by simp [i1, i3, hz]) hcz (by rw [← Array.all_toList]; exact h1)
    refine WL.act (w' := w.setRow g cells) rfl rfl (fun a ha => by simp [execOp, ha.ev hx, ha.ev hy, Instr.storeAt, Instr.sureAddr, hrun]) (h _ ?_ ?_)
    · refine ⟨by simp [hz], .inr ⟨g, 1, cells, rfl, hg2, setRow_heap w g cur cells e _ hg3, Nat.le_refl _, by simp [maxLen], by simp [hz], ?_⟩⟩
      rw [Nat.one_mul, ← hz, ← Array.length_toList, List.take_length]
    · refine ⟨rfl, rfl, rfl, Nat.le_of_eq (setRow_size w g cells).symm, fun k hk hr => setRow_other w g k cells (fun e => hr (by rw [e]; rfl))⟩
/-- A store into one cell of a variable. -/
theorem WL.storeF {x y : Operand} {t e z by_ b g j : Nat} {zero v : Value} {cs : List Value} (he : Elem P t 1 by_ zero) (hx : ev L x = some (.pointer (some ((⟨g, 0, none⟩ : Addr).add j)))) (hy : ev L y = some v) (h1 : v.oneCell' = true) (hj : Nat.blt j cs.length = true)
    (hO : Own b w e z (some ⟨g, 0, none⟩) 1 1 cs)
    (h : ∀ w', Own b w' e z (some ⟨g, 0, none⟩) 1 1 (cs.set j v) → w.grownBy w' (bl (some ⟨g, 0, none⟩)) → WL P n ops rest N L w') : WL P n ops (⟨none, .store t x y, ty, pos, af, none⟩ :: rest) N L w := by
  obtain ⟨inf, i1, i2, i3, i4⟩ := he.ex
  have hj' : j < cs.length := by simpa [Nat.blt_eq] using hj
  have hs := World.ownsRow.stored hO j v
  have hO2 := hO
  obtain ⟨hl, hO3⟩ := hO2
  rcases hO3 with ⟨hx0, _⟩ | ⟨g', cap, cur, hg1, hg2, hg3, hg4, hg5, hg6, hg7⟩
  · cases hx0
  · cases hg1
    have hadd : (⟨g, 0, none⟩ : Addr).add j = ⟨g, j, none⟩ := by unfold Addr.add; simp; intro h; exact h.symm
    have hjc : j < cur.size := by rw [hg6, ← hl]; exact hj'
    have hce : w.cell? ⟨g, j, none⟩ = some cur[j] := by simp [World.cell?, hg3, hjc]
    have hfr : w.frozen? ⟨g, j, none⟩ = false := by simp [World.frozen?, hg3]
    have hcs : v.cells = #[v] := by cases v <;> simp_all [Value.cells, Value.oneCell']
    rw [hadd] at hx
    have hz : (⟨g, j, none⟩ : Addr).add 0 = ⟨g, j, none⟩ := rfl
    refine WL.act (w' := w.setCell ⟨g, j, none⟩ v) rfl rfl (fun a ha => ?_) (h _ hs.1 hs.2)
    simp [execOp, ha.ev hx, ha.ev hy, Instr.storeAt, Instr.sureAddr, storeVar, sizeOf, typeInfo, i1, i3, hcs, storeCells, run_store _ _ _ _ _ h1, hce, hfr, hz]
/-- The call of a function value. -/
theorem WL.callv {x : Operand} {f : FuncId} {fn : Func} {c : Code} {xs : List Operand} {ts : Array TypeId} {vs : List Value} {R : Value → World → Prop} (hfv : ev L x = some (.func (.func f) #[] #[])) (hf : P.funcs[f]? = some fn) (hb : fn.body = some c) (hnm : (fn.name == "runtime.NumGoroutine") = false)
    (hx : evs L xs = some vs) (hn : Nat.blt d n = true)
    (hc : Calls P f vs.toArray w fun e w' => ∃ v, e = .returned v ∧ R v w') (h : ∀ v w', R v w' → WL P n ops rest N ((d, v) :: L) w') :
    WL P n ops (⟨some d, .call ⟨.value x, xs.toArray, ts⟩, ty, pos, af, none⟩ :: rest) N L w := by
  refine WL.enter rfl rfl hn (fun a ha => ?_) hc h
  have hm := ha.evs hx
  have hfe := ha.ev hfv
  have hnm' : ¬ fn.name = "runtime.NumGoroutine" := by simpa using hnm
  simp only [execOp, resolve, Sem.run_bind]
  simp [Deferred.ofValue, hfe, invoke, callFunc, hm, program, Sem.run, hf, hb, hnm']
end

/-! ### results that are read out of variables -/
def resC (P : Program) (L : Fr) (w : World) : List ResultVar → List Value → Prop
  | [], vs => vs = []
  | .tmp t :: r, vs => ∃ v us, vs = v :: us ∧ lk L t = some v ∧ resC P L w r us
  | .cell a ty :: r, vs => ∃ p v us, vs = v :: us ∧ lk L a = some (.pointer (some p)) ∧ (loadVar ty p).run P w = .ok v w ∧ resC P L w r us
def resV : List Value → Value
  | [v] => v
  | vs => .tuple vs.toArray
def endCN (P : Program) (res : List ResultVar) (R : Value → World → Prop) : Post := fun L w => ∃ vs, resC P L w res vs ∧ R (resV vs) w
def endC (P : Program) (res : List ResultVar) (R : Value → World → Prop) : BPost
  | .ret, L, w => ∃ vs, resC P L w res vs ∧ R (resV vs) w
  | _, _, _ => False
theorem run_resC {P : Program} {a : Act} {n : Nat} {L : Fr} {w : World} (ha : Has n a L) (g : ResultVar → Sem Value) (hg : ∀ t, g (.tmp t) = pure (a.tmps.getD t undef)) (hg2 : ∀ p t, g (.cell p t) = (do loadVar t (← asAddr (a.tmps.getD p undef)))) :
    ∀ (res : List ResultVar) (vs : List Value), resC P L w res vs → (List.mapM g res).run P w = .ok vs w
  | [], vs, h => by cases h; rfl
  | .tmp t :: r, vs, h => by
    obtain ⟨v, us, rfl, h1, h2⟩ := h
    have ih := run_resC ha g hg hg2 r us h2
    have hv : a.tmps.getD t undef = v := by simp [Array.getD_eq_getD_getElem?, ha.at_ t v h1]
    rw [List.mapM_cons, Sem.run_bind, hg, Sem.run_pure, Result.andThen_ok, Sem.run_bind, ih, hv]
    rfl
  | .cell p ty :: r, vs, h => by
    obtain ⟨q, v, us, rfl, h1, h2, h3⟩ := h
    have ih := run_resC ha g hg hg2 r us h3
    have hv : a.tmps.getD p undef = .pointer (some q) := by simp [Array.getD_eq_getD_getElem?, ha.at_ p _ h1]
    rw [List.mapM_cons, Sem.run_bind, hg2, hv]
    have : (do loadVar ty (← asAddr (.pointer (some q))) : Sem Value).run P w = .ok v w := by simp [asAddr, h2]
    rw [this, Result.andThen_ok, Sem.run_bind, ih]
    rfl
theorem run_resultsC {P : Program} {fn : Func} {res : List ResultVar} {a : Act} {n : Nat} {L : Fr} {vs : List Value} {w : World} (hres : fn.results = res.toArray) (ha : Has n a L) (hv : resC P L w res vs) : (results fn a.tmps).run P w = .ok (resV vs) w := by
  unfold results
  rw [Sem.run_bind, hres, List.mapM_toArray, Sem.run_map, run_resC ha _ (fun _ => rfl) (fun _ _ => rfl) res vs hv]
  simp only [Result.andThen_ok]
  match vs with
  | [] => simp [resV]
  | [v] => simp [resV]
  | v :: u :: us => simp [resV]
theorem calls_of_Wc {P : Program} {f : FuncId} {fn : Func} {c : Code} {n : Nat} {vs : List Value} {R : Value → World → Prop} {w : World} (res : List ResultVar) (hf : P.funcs[f]? = some fn) (hb : fn.body = some c) (hn : fn.ntmps = n)
    (hres : fn.results = res.toArray) (hle : Nat.ble vs.length n = true) (h : W P n c (endCN P res R) (endC P res R) (args0 0 vs) w) : Calls P f vs.toArray w fun e w' => ∃ v, e = .returned v ∧ R v w' := by
  have hle' : vs.length ≤ n := by simpa [Nat.ble_eq] using hle
  refine calls_of_wp hf hb (wp_mono (h.out _ ⟨rfl, by simp [hn]; omega, fun t v hv => ?_⟩) fun e a w' q => ?_)
  · obtain ⟨_, h2⟩ := args0_at vs 0 t v hv
    have ht : t < vs.length := (List.getElem?_eq_some_iff.1 h2).1
    rw [Array.getElem?_append_left (by simpa using ht)]
    simpa using h2
  · cases e with
    | normal =>
      obtain ⟨L, hL, us, hv, hR⟩ := q
      exact ⟨hL.nd, _, run_resultsC hres hL hv, _, rfl, hR⟩
    | ret =>
      obtain ⟨L, hL, us, hv, hR⟩ := q
      exact ⟨hL.nd, _, run_resultsC hres hL hv, _, rfl, hR⟩
    | _ => obtain ⟨L, _, h⟩ := q; exact h.elim
end Go.Proofs.Ythfpcebcfjlkmab
set_option linter.unusedVariables false
namespace Go.Proofs.Ythfpcebcfjlkmab
open Go.RowKit
theorem Try.mixed : Try.prog.follows .mixedOrders = true := by kernel_rfl
theorem Try.el43 : Elem Try.prog 43 1 4 (.int .u32 0) := .mk' (by kernel_rfl) rfl (by decide)
theorem Try.el23 : Elem Try.prog 23 1 24 (.slice none 0 0) := .mk' (by kernel_rfl) rfl (by decide)
theorem Try.el91 : Elem Try.prog 91 2 16 (.agg #[.int .i64 0, .int .i64 0]) := .mk' (by kernel_rfl) rfl (by decide)
theorem Try.agg91 : aggB Try.prog 91 = true := by kernel_rfl
theorem Try.fla91_0 : fldA Try.prog 91 0 0 = true := by kernel_rfl
theorem Try.fla91_1 : fldA Try.prog 91 1 1 = true := by kernel_rfl
theorem Try.bld91 : bldP Try.prog 91 [(0, 1), (1, 1)] #[.int .i64 0, .int .i64 0] := ⟨by kernel_rfl, _, Try.underlying91, by kernel_rfl⟩
theorem Try.el31 : Elem Try.prog 31 3 56 (.agg #[.bool false, .slice none 0 0, .slice none 0 0]) := .mk' (by kernel_rfl) rfl (by decide)
theorem Try.agg31 : aggB Try.prog 31 = true := by kernel_rfl
theorem Try.fla31_0 : fldA Try.prog 31 0 0 = true := by kernel_rfl
theorem Try.fla31_1 : fldA Try.prog 31 1 1 = true := by kernel_rfl
theorem Try.fla31_2 : fldA Try.prog 31 2 2 = true := by kernel_rfl
theorem Try.bld31 : bldP Try.prog 31 [(0, 1), (1, 1), (2, 1)] #[.bool false, .slice none 0 0, .slice none 0 0] := ⟨by kernel_rfl, _, Try.underlying31, by kernel_rfl⟩
theorem Try.nm15 : (Try.f15.name == "runtime.NumGoroutine") = false := by kernel_rfl
theorem Try.nm17 : (Try.f17.name == "runtime.NumGoroutine") = false := by kernel_rfl
theorem Try.nm18 : (Try.f18.name == "runtime.NumGoroutine") = false := by kernel_rfl
theorem Try.nm19 : (Try.f19.name == "runtime.NumGoroutine") = false := by kernel_rfl
theorem Try.nm20 : (Try.f20.name == "runtime.NumGoroutine") = false := by kernel_rfl
theorem Try.nm23 : (Try.f23.name == "runtime.NumGoroutine") = false := by kernel_rfl
theorem Try.nm31 : (Try.f31.name == "runtime.NumGoroutine") = false := by kernel_rfl
theorem Try.nm34 : (Try.f34.name == "runtime.NumGoroutine") = false := by kernel_rfl
theorem Try.nm40 : (Try.f40.name == "runtime.NumGoroutine") = false := by kernel_rfl
theorem Try.nm41 : (Try.f41.name == "runtime.NumGoroutine") = false := by kernel_rfl
theorem Try.nm43 : (Try.f43.name == "runtime.NumGoroutine") = false := by kernel_rfl
theorem Try.nm44 : (Try.f44.name == "runtime.NumGoroutine") = false := by kernel_rfl
theorem Try.nm46 : (Try.f46.name == "runtime.NumGoroutine") = false := by kernel_rfl
theorem Try.nm47 : (Try.f47.name == "runtime.NumGoroutine") = false := by kernel_rfl
theorem Try.nm48 : (Try.f48.name == "runtime.NumGoroutine") = false := by kernel_rfl
theorem Try.nm49 : (Try.f49.name == "runtime.NumGoroutine") = false := by kernel_rfl
theorem Try.nm50 : (Try.f50.name == "runtime.NumGoroutine") = false := by kernel_rfl
theorem Try.nm51 : (Try.f51.name == "runtime.NumGoroutine") = false := by kernel_rfl
theorem Try.nm52 : (Try.f52.name == "runtime.NumGoroutine") = false := by kernel_rfl
theorem Try.nm53 : (Try.f53.name == "runtime.NumGoroutine") = false := by kernel_rfl
theorem Try.nm55 : (Try.f55.name == "runtime.NumGoroutine") = false := by kernel_rfl
theorem Try.nm56 : (Try.f56.name == "runtime.NumGoroutine") = false := by kernel_rfl
theorem Try.nm61 : (Try.f61.name == "runtime.NumGoroutine") = false := by kernel_rfl
theorem Try.nm62 : (Try.f62.name == "runtime.NumGoroutine") = false := by kernel_rfl
theorem Try.nm63 : (Try.f63.name == "runtime.NumGoroutine") = false := by kernel_rfl
theorem Try.nm64 : (Try.f64.name == "runtime.NumGoroutine") = false := by kernel_rfl
theorem Try.nm66 : (Try.f66.name == "runtime.NumGoroutine") = false := by kernel_rfl
theorem Try.nm67 : (Try.f67.name == "runtime.NumGoroutine") = false := by kernel_rfl
theorem Try.nm68 : (Try.f68.name == "runtime.NumGoroutine") = false := by kernel_rfl
theorem Try.nm69 : (Try.f69.name == "runtime.NumGoroutine") = false := by kernel_rfl
theorem Try.nm70 : (Try.f70.name == "runtime.NumGoroutine") = false := by kernel_rfl
theorem Try.nm71 : (Try.f71.name == "runtime.NumGoroutine") = false := by kernel_rfl
theorem Try.nm72 : (Try.f72.name == "runtime.NumGoroutine") = false := by kernel_rfl
theorem Try.nm73 : (Try.f73.name == "runtime.NumGoroutine") = false := by kernel_rfl
theorem Try.nm74 : (Try.f74.name == "runtime.NumGoroutine") = false := by kernel_rfl
theorem Try.nm75 : (Try.f75.name == "runtime.NumGoroutine") = false := by kernel_rfl
theorem Try.nm76 : (Try.f76.name == "runtime.NumGoroutine") = false := by kernel_rfl
theorem Try.nm77 : (Try.f77.name == "runtime.NumGoroutine") = false := by kernel_rfl
theorem Try.nm78 : (Try.f78.name == "runtime.NumGoroutine") = false := by kernel_rfl
theorem Try.nm79 : (Try.f79.name == "runtime.NumGoroutine") = false := by kernel_rfl
theorem Try.nm80 : (Try.f80.name == "runtime.NumGoroutine") = false := by kernel_rfl
theorem Try.nm81 : (Try.f81.name == "runtime.NumGoroutine") = false := by kernel_rfl
theorem Try.nm82 : (Try.f82.name == "runtime.NumGoroutine") = false := by kernel_rfl
theorem Try.nm83 : (Try.f83.name == "runtime.NumGoroutine") = false := by kernel_rfl
theorem Try.nm84 : (Try.f84.name == "runtime.NumGoroutine") = false := by kernel_rfl
theorem Try.nm85 : (Try.f85.name == "runtime.NumGoroutine") = false := by kernel_rfl
theorem Try.nm86 : (Try.f86.name == "runtime.NumGoroutine") = false := by kernel_rfl
theorem Try.nm88 : (Try.f88.name == "runtime.NumGoroutine") = false := by kernel_rfl
theorem Try.nm89 : (Try.f89.name == "runtime.NumGoroutine") = false := by kernel_rfl
theorem Try.nm90 : (Try.f90.name == "runtime.NumGoroutine") = false := by kernel_rfl
theorem Try.nm92 : (Try.f92.name == "runtime.NumGoroutine") = false := by kernel_rfl
theorem Try.nm93 : (Try.f93.name == "runtime.NumGoroutine") = false := by kernel_rfl
theorem Try.nm94 : (Try.f94.name == "runtime.NumGoroutine") = false := by kernel_rfl
theorem Try.nm95 : (Try.f95.name == "runtime.NumGoroutine") = false := by kernel_rfl
theorem Try.nm96 : (Try.f96.name == "runtime.NumGoroutine") = false := by kernel_rfl
theorem Try.nm97 : (Try.f97.name == "runtime.NumGoroutine") = false := by kernel_rfl
theorem Try.nm98 : (Try.f98.name == "runtime.NumGoroutine") = false := by kernel_rfl
theorem Try.nm99 : (Try.f99.name == "runtime.NumGoroutine") = false := by kernel_rfl
theorem Try.nm100 : (Try.f100.name == "runtime.NumGoroutine") = false := by kernel_rfl
theorem Try.nm101 : (Try.f101.name == "runtime.NumGoroutine") = false := by kernel_rfl
theorem Try.nm102 : (Try.f102.name == "runtime.NumGoroutine") = false := by kernel_rfl
theorem Try.nm103 : (Try.f103.name == "runtime.NumGoroutine") = false := by kernel_rfl
theorem Try.nm104 : (Try.f104.name == "runtime.NumGoroutine") = false := by kernel_rfl
theorem Try.nm105 : (Try.f105.name == "runtime.NumGoroutine") = false := by kernel_rfl
theorem Try.nm106 : (Try.f106.name == "runtime.NumGoroutine") = false := by kernel_rfl
theorem Try.nm107 : (Try.f107.name == "runtime.NumGoroutine") = false := by kernel_rfl
theorem Try.nm108 : (Try.f108.name == "runtime.NumGoroutine") = false := by kernel_rfl
theorem Try.nm109 : (Try.f109.name == "runtime.NumGoroutine") = false := by kernel_rfl
end Go.Proofs.Ythfpcebcfjlkmab
