/- What only this law leans on. -/
import Derived.Test.YtcmfjjbbcfddpaaWordCleansG7
set_option linter.unusedSimpArgs false
set_option linter.unusedVariables false
namespace Go.Proofs.Ytcmfjjbbcfddpaa
open Go.RowKit
/-! ### windows, prefixes, method values, lists of lists -/
theorem adOf_win {A : Option Addr} {c o i : Nat} {ad : Addr} (hA : A = some ad) (h : c ≠ o) : (adOf (if c = o then A else A.map (·.add (o * 1)))).add i = (adOf A).add (o + i) := by
  subst hA
  rw [if_neg h, Nat.mul_one]
  exact add_add ad o i
section
variable {X : World → Prop} {w0 w w' : World} {mr : Option Nat} {R : List Rw}
end
section
variable {P : Program} {n : Nat} {ro : Option Nat} {df : List Deferred} {N : Post} {L : Fr} {w w0 : World} {ops : Array Oper} {rest : List Oper}
variable {d : Nat} {ty : TypeId} {pos : String} {af : Array Edge} {X : World → Prop} {mr : Option Nat} {R : List Rw}
/-- The address of an element of a window. -/
theorem SL.indexW {x i : Operand} {t e : TypeId} {by_ : Nat} {zero : Value} {A : Option Addr} {m c o B : Nat} {cs : List Value} {k : IntKind} {I : Int} {wR : World}
    (ht : P.underlying t = some (.slice e)) (he : Elem P e 1 by_ zero) (hR : Rd B wR 1 A m c cs) (hx : ev L x = some (.slice (if c = o then A else A.map (·.add (o * 1))) (m - o) (c - o))) (hi : ev L i = some (.int k I)) (hI : 0 ≤ I ∧ I < ((m - o : Nat) : Int)) (hn : Nat.blt d n = true)
    (h : WL P n ro df ops rest N ((d, .pointer (some ((adOf A).add (o + I.toNat)))) :: L) w) : WL P n ro df ops (⟨some d, .indexAddr t x i, ty, pos, af, none⟩ :: rest) N L w := by
  have hom : o ≤ m := by omega
  obtain ⟨ad, hA, _, _⟩ := hR.cells (by omega)
  have hD := hR.drop hom
  have hco : c ≠ o := by have := hR.cap; omega
  refine SL.index ht he hD hx hi hI hn ?_
  rw [adOf_win hA hco]; exact h
end
theorem is_ltW {B : Nat} {w : World} {A : Option Addr} {m c o : Nat} {l : List Int} (h : Rd B w 1 A m c (is l)) {I : Int} (hI : 0 ≤ I ∧ I < ((m - o : Nat) : Int)) : o + I.toNat < (is l).length := by rw [is_len, h.ilen]; omega
theorem sm0 {A : Option Addr} {m m' c : Nat} (h : m = m') : Value.slice A m c = .slice A m' c := by rw [h]
end Go.Proofs.Ytcmfjjbbcfddpaa
set_option linter.unusedSimpArgs false
set_option linter.unusedVariables false
namespace Go.Proofs.Ytcmfjjbbcfddpaa
open Go.RowKit
/-! ### pieces in other orders, several rows as one piece -/
section
variable {b : Nat} {mr : Option Nat} {w w' : World} {R L : List Rw}
theorem Rows.join : ∀ {L : List Rw}, Rows b mr w L → (∀ r ∈ L, ∀ s ∈ R, r.Apt s) → Rows b mr w R → Rows b mr w (L ++ R)
  | [], _, _, h => h
  | r :: L, h, ha, hR => ⟨h.1, fun s hs => by
      rcases List.mem_append.1 hs with hs | hs
      · exact h.2.1 s hs
      · exact ha r (List.mem_cons_self ..) s hs, Rows.join h.2.2 (fun q hq => ha q (List.mem_cons_of_mem _ hq)) hR⟩
theorem Rows.high : ∀ {L : List Rw}, (∀ r ∈ L, r.isRow = true) → (∀ g, (∃ r ∈ L, r.at_ g) → b ≤ g ∨ mr = some g) → Rows 0 none w L → Rows b mr w L
  | [], _, _, _ => trivial
  | r :: L, hr, hk, h => by
    refine ⟨?_, h.2.1, Rows.high (fun q hq => hr q (List.mem_cons_of_mem _ hq)) (fun g ⟨q, hq, hg⟩ => hk g ⟨q, List.mem_cons_of_mem _ hq, hg⟩) h.2.2⟩
    have h1 := hr r (List.mem_cons_self ..)
    have h2 := h.1
    cases r with
    | row e z A m c cs => exact ⟨h2.1, fun g hg => hk g ⟨_, List.mem_cons_self .., hg⟩⟩
    | _ => cases h1
theorem row_mut {r : Rw} (h : r.isRow = true) : r.mut = true := by cases r <;> first | rfl | cases h
theorem Rows.row_own : ∀ {L : List Rw}, (∀ r ∈ L, r.isRow = true) → Rows b mr w L → ∀ g, (∃ r ∈ L, r.at_ g) → (∃ o : Obj, w.heap[g]? = some o ∧ o.isCells = true) ∧ (b ≤ g ∨ mr = some g) := fun hr h g ⟨r, hm, hg⟩ => by
  have h1 := hr r hm
  have h2 := h.mem hm
  cases r with
  | row e z A m c cs => exact ⟨own_cells h2.1 g hg, h2.2 g hg⟩
  | _ => cases h1
theorem Rows.toGrp {L : List Rw} (hr : ∀ r ∈ L, r.isRow = true) (h : Rows b mr w (L ++ R)) : Rows b mr w (grp L :: R) := by
  obtain ⟨h1, h2, h3⟩ := h.cut
  exact ⟨⟨h1.low hr, h1.row_own hr, fun w1 w2 _ hk hw => hw.steady hr hk⟩, fun s hs _ g ⟨r, hm, hg⟩ => h2 r hm s hs (by rw [row_mut (hr r hm)]; rfl) g hg, h3⟩
theorem Rows.ofGrp {L : List Rw} (hr : ∀ r ∈ L, r.isRow = true) (h : Rows b mr w (grp L :: R)) : Rows b mr w (L ++ R) :=
  Rows.join (h.1.1.high hr fun g hg => (h.1.2.1 g hg).2) (fun r hm s hs _ g h1 h2 => h.2.1 s hs rfl g ⟨r, hm, h1⟩ h2) h.2.2
end
section
variable {X : World → Prop} {w0 w w' : World} {mr : Option Nat} {R L : List Rw}
theorem St.toGrp (hr : ∀ r ∈ L, r.isRow = true) (h : St X w0 mr w (L ++ R)) : St X w0 mr w (grp L :: R) := ⟨h.ext, h.rows.toGrp hr, h.x, h.cl, h.lt⟩
theorem St.ofGrp (hr : ∀ r ∈ L, r.isRow = true) (h : St X w0 mr w (grp L :: R)) : St X w0 mr w (L ++ R) := ⟨h.ext, h.rows.ofGrp hr, h.x, h.cl, h.lt⟩
end
theorem inr_row (eI : Nat) (hs : Hs) (ls : List (List Int)) : ∀ r ∈ inr eI hs ls, r.isRow = true := fun r hr => by
  obtain ⟨i, hi, rfl⟩ := List.mem_mapIdx.1 hr; rfl
theorem mx_row (eS eI : Nat) (A : Option Addr) (m c : Nat) (hs : Hs) (ls : List (List Int)) : ∀ r ∈ (Rw.row eS 1 A m c (hcells hs ls) :: inr eI hs ls), r.isRow = true := fun r hr => by
  rcases List.mem_cons.1 hr with rfl | hr
  · rfl
  · exact inr_row _ _ _ r hr
def sll (ls : List (List Int)) (I : Int) (l : List Int) : List (List Int) := ls.set I.toNat l
theorem inr_set (eI : Nat) (hs : Hs) (ls : List (List Int)) (i : Nat) (h : Option Addr × Nat) (l : List Int) : inr eI (up hs i h) (ls.set i l) = (inr eI hs ls).set i (.row eI 1 h.1 l.length h.2 (is l)) := by
  apply List.ext_getElem?
  intro j
  simp only [inr, List.getElem?_mapIdx, List.getElem?_set, List.length_mapIdx]
  by_cases hj : i = j
  · subst hj
    by_cases hl : i < ls.length <;> simp [up, hl]
  · have hj' : ¬ j = i := fun e => hj e.symm
    simp [hj, up, hj']
theorem hcells_set (hs : Hs) (ls : List (List Int)) (i : Nat) (h : Option Addr × Nat) (l : List Int) : hcells (up hs i h) (ls.set i l) = (hcells hs ls).set i (.slice h.1 l.length h.2) := by
  apply List.ext_getElem?
  intro j
  simp only [hcells, List.getElem?_mapIdx, List.getElem?_set, List.length_mapIdx]
  by_cases hj : i = j
  · subst hj
    by_cases hl : i < ls.length <;> simp [up, hl]
  · have hj' : ¬ j = i := fun e => hj e.symm
    simp [hj, up, hj']
theorem inr_at (eI : Nat) (hs : Hs) (ls : List (List Int)) {i : Nat} (hi : i < ls.length) : (inr eI hs ls)[i]? = some (.row eI 1 (hs i).1 (ls.getD i []).length (hs i).2 (is (ls.getD i []))) := by
  simp only [inr, List.getElem?_mapIdx, getD_at (d := []) hi, Option.map_some]
section
variable {X : World → Prop} {w0 w w' : World} {mr : Option Nat} {R : List Rw} {eS eI m c : Nat} {A : Option Addr} {hs : Hs} {ls : List (List Int)}
/-- The rows of a list of lists at the head of the pieces. -/
theorem St.mxOpen (h : St X w0 mr w (mx eS eI A m c hs ls :: R)) : St X w0 mr w (.row eS 1 A m c (hcells hs ls) :: (inr eI hs ls ++ R)) := h.ofGrp (mx_row eS eI A m c hs ls)
theorem St.mxShut (h : St X w0 mr w (.row eS 1 A m c (hcells hs ls) :: (inr eI hs ls ++ R))) : St X w0 mr w (mx eS eI A m c hs ls :: R) := St.toGrp (mx_row eS eI A m c hs ls) h
theorem Rows.mxlen (h : (mx eS eI A m c hs ls).holds 0 mr w) : ls.length = m := by
  have := h.1.1.1.len
  rw [hcells_len] at this; omega
theorem St.mxlen {i : Nat} (h : St X w0 mr w R) (hi : R[i]? = some (mx eS eI A m c hs ls)) : ls.length = m := by
  have := (h.mxrows hi).1.1.len
  rw [hcells_len] at this; omega
theorem St.mxrd {i : Nat} (h : St X w0 mr w R) (hi : R[i]? = some (mx eS eI A m c hs ls)) {I : Int} (hI : 0 ≤ I ∧ I < (m : Nat)) : Rd w.heap.size w 1 (hs I.toNat).1 (gl ls I).length (hs I.toNat).2 (is (gl ls I)) := by
  have hl := h.mxlen hi
  have h2 := (h.mxrows hi).2.2.get (inr_at eI hs ls (i := I.toNat) (by omega))
  exact h2.1.rd
theorem St.mxcell {i : Nat} (h : St X w0 mr w R) (hi : R[i]? = some (mx eS eI A m c hs ls)) {I : Int} (hI : 0 ≤ I ∧ I < (m : Nat)) : w.cell? ((adOf A).add I.toNat) = some (.slice (hs I.toNat).1 (gl ls I).length (hs I.toNat).2) := by
  have hl := h.mxlen hi
  exact (h.mxout hi).at_ (hcells_at hs ls (by omega))
/-- A row goes into a list of lists, where one was. -/
theorem St.mxPut {I : Int} {A2 : Option Addr} {m2 c2 : Nat} {l : List Int} {w' : World} (hI : 0 ≤ I ∧ I < (m : Nat)) (hm2 : m2 = l.length) (h : St X w0 mr w (.row eI 1 A2 m2 c2 (is l) :: mx eS eI A m c hs ls :: R))
    (hg : w.grownBy w' (bl A)) (hO : Own 0 w' eS 1 A m c ((hcells hs ls).set I.toNat (.slice A2 l.length c2))) : St X w0 mr w' (mx eS eI A m c (up hs I.toNat (A2, c2)) (sll ls I l) :: R) := by
  subst hm2
  have hl := h.mxlen (i := 1) rfl
  have h1 := (h.perm (List.Perm.swap _ _ _)).mxOpen
  have h2 := h1.put (i := 0) rfl hg hO (.inl rfl)
  refine St.mxShut ?_
  show St X w0 mr w' (.row eS 1 A m c (hcells (up hs I.toNat (A2, c2)) (ls.set I.toNat l)) :: (inr eI (up hs I.toNat (A2, c2)) (ls.set I.toNat l) ++ R))
  rw [inr_set, hcells_set]
  have h3 : St X w0 mr w' (.row eI 1 A2 l.length c2 (is l) :: .row eS 1 A m c ((hcells hs ls).set I.toNat (.slice A2 l.length c2)) :: (inr eI hs ls ++ R)) := h2.perm (by
    show (Rw.row eS 1 A m c _ :: (inr eI hs ls ++ (Rw.row eI 1 A2 l.length c2 (is l) :: R))).Perm _
    exact (List.perm_middle.cons _).trans (List.Perm.swap _ _ _))
  have hp := perm_at (inr_at eI hs ls (i := I.toNat) (by omega))
  have h4 := h3.perm (((hp.append_right R).cons _).cons _ |>.trans (((List.Perm.swap _ _ _)).cons _) |>.trans (List.Perm.swap _ _ _))
  have h5 := h4.tail
  refine h5.perm ?_
  refine (List.Perm.swap _ _ _).trans (List.Perm.cons _ ?_)
  exact (perm_set (l := inr eI hs ls) (by simp [inr]; omega)).append_right R
end
end Go.Proofs.Ytcmfjjbbcfddpaa
set_option linter.unusedSimpArgs false
set_option linter.unusedVariables false
namespace Go.Proofs.Ytcmfjjbbcfddpaa
open Go.RowKit
/-- Headers of a list that was appended to another of m. -/
def apHs (m : Nat) (hs hs' : Hs) : Hs := fun i => if i < m then hs i else hs' (i - m)
def hsOf (l : List (Option Addr × Nat)) : Hs := fun i => l.getD i (none, 0)
theorem inr_append (eI : Nat) (hs hs' : Hs) (ls ls' : List (List Int)) : inr eI (apHs ls.length hs hs') (ls ++ ls') = inr eI hs ls ++ inr eI hs' ls' := by
  apply List.ext_getElem?
  intro j
  simp only [inr, List.getElem?_append, List.getElem?_mapIdx, List.length_mapIdx]
  by_cases h : j < ls.length <;> simp [h, apHs]
theorem hcells_append (hs hs' : Hs) (ls ls' : List (List Int)) : hcells hs ls ++ hcells hs' ls' = hcells (apHs ls.length hs hs') (ls ++ ls') := by
  apply List.ext_getElem?
  intro j
  simp only [hcells, List.getElem?_append, List.getElem?_mapIdx, List.length_mapIdx]
  by_cases h : j < ls.length <;> simp [h, apHs]
theorem hcells_one (hs : Hs) (ls : List (List Int)) : ∀ u ∈ hcells hs ls, u.oneCell' = true := fun u hu => by
  obtain ⟨i, hi, rfl⟩ := List.mem_mapIdx.1 hu; rfl
theorem hcells_nil (n : Nat) : hcells (fun _ => (none, 0)) (List.replicate n []) = List.replicate n (.slice none 0 0) := by
  apply List.ext_getElem?
  intro j
  simp only [hcells, List.getElem?_mapIdx, List.getElem?_replicate]
  split <;> rfl
theorem made_hs (k : Nat) : (madeCells (Value.slice none 0 0).cells (k * 1)).toList = hcells (fun _ => (none, 0)) (List.replicate k []) := by
  rw [hcells_nil]
  simp [madeCells, Value.cells]
  apply List.ext_getElem
  · simp
  · intro i h1 h2; simp [Nat.mod_one]
section
variable {X : World → Prop} {w0 w w' : World} {mr : Option Nat} {R : List Rw} {eS eI m c : Nat} {A : Option Addr} {hs : Hs} {ls : List (List Int)}
theorem Rows.nils {b : Nat} (eI : Nat) : ∀ (n : Nat), Rows b mr w R → Rows b mr w (inr eI (fun _ => (none, 0)) (List.replicate n []) ++ R)
  | 0, h => h
  | n + 1, h => by
    have ih := Rows.nils eI n h
    have e : inr eI (fun _ => (none, 0)) (List.replicate (n + 1) []) = .row eI 1 none 0 0 [] :: inr eI (fun _ => (none, 0)) (List.replicate n []) := by
      rw [List.replicate_succ, inr, List.mapIdx_cons]; rfl
    rw [e]
    exact ⟨⟨World.ownsRow_nil w 0 eI 1, fun g hg => absurd hg (by simp [bl])⟩, fun s _ _ g hg => absurd hg (by simp [Rw.at_, bl]), ih⟩
/-- A new list of lists: all of them nil. -/
theorem St.mxNew {n : Nat} (h : St X w0 mr w (.row eS 1 A n n (hcells (fun _ => (none, 0)) (List.replicate n [])) :: R)) : St X w0 mr w (mx eS eI A n n (fun _ => (none, 0)) (List.replicate n []) :: R) := by
  refine St.mxShut ?_
  have h1 := h.perm (List.perm_append_singleton (Rw.row eS 1 A n n _) R).symm
  have h2 : St X w0 mr w (inr eI (fun _ => (none, 0)) (List.replicate n []) ++ (R ++ [.row eS 1 A n n (hcells (fun _ => (none, 0)) (List.replicate n []))])) := ⟨h1.ext, h1.rows.nils eI n, h1.x, h1.cl, h1.lt⟩
  exact h2.perm (by rw [← List.append_assoc]; exact List.perm_append_singleton _ _)
/-- nil, as a list of lists. -/
theorem St.mxNil (eS eI : Nat) (h : St X w0 mr w R) : St X w0 mr w (mx eS eI none 0 0 (fun _ => (none, 0)) [] :: R) := St.mxShut (h.nil (e := eS) (z := 1))
/-- A literal of lists. -/
theorem St.mxLit {L : List Rw} {cells : List Value} {n : Nat} (hd : List (Option Addr × Nat)) (ls : List (List Int)) (hc : hcells (hsOf hd) ls = cells) (hL : inr eI (hsOf hd) ls = L) (h : St X w0 mr w (.row eS 1 A n n cells :: (L ++ R))) : St X w0 mr w (mx eS eI A n n (hsOf hd) ls :: R) := by
  subst hc; subst hL; exact St.mxShut h
theorem St.relenMx {i m' : Nat} (h : St X w0 mr w R) (hi : R[i]? = some (mx eS eI A m c hs ls)) (hm : m = m') : St X w0 mr w (R.set i (mx eS eI A m' c hs ls)) := by
  subst hm
  rw [List.set_getElem?_self hi]
  exact h
end
section
variable {P : Program} {n : Nat} {ro : Option Nat} {df : List Deferred} {N : Post} {L : Fr} {w w0 : World} {ops : Array Oper} {rest : List Oper}
variable {d : Nat} {ty : TypeId} {pos : String} {af : Array Edge} {X : World → Prop} {mr : Option Nat} {R : List Rw} {eS eI m c : Nat} {A : Option Addr} {hs : Hs} {ls : List (List Int)}
/-- The address of an element of a list of lists. -/
theorem SL.indexMx {x i : Operand} {t e : TypeId} {by_ : Nat} {zero : Value} {k : IntKind} {I : Int} {wR : World} (q : Nat)
    (ht : P.underlying t = some (.slice e)) (he : Elem P e 1 by_ zero) (hS : St X w0 mr wR R) (hq : R[q]? = some (mx eS eI A m c hs ls)) (hx : ev L x = some (.slice A m c)) (hi : ev L i = some (.int k I)) (hI : 0 ≤ I ∧ I < ((m : Nat) : Int)) (hn : Nat.blt d n = true)
    (h : WL P n ro df ops rest N ((d, .pointer (some ((adOf A).add I.toNat))) :: L) w) : WL P n ro df ops (⟨some d, .indexAddr t x i, ty, pos, af, none⟩ :: rest) N L w :=
  SL.index ht he (hS.mxout hq) hx hi hI hn h
/-- A row of the call's own goes into a list of lists. -/
theorem SL.storeH {x y : Operand} {t by_ m2 c2 : Nat} {A2 : Option Addr} {zero : Value} {I : Int} {l : List Int} (hS : St X w0 mr w (.row eI 1 A2 m2 c2 (is l) :: mx eS eI A m c hs ls :: R)) (he : Elem P t 1 by_ zero)
    (hI : 0 ≤ I ∧ I < (m : Nat)) (hm2 : m2 = l.length)
    (hx : ev L x = some (.pointer (some ((adOf A).add I.toNat)))) (hy : ev L y = some (.slice A2 m2 c2))
    (h : ∀ w', St X w0 mr w' (mx eS eI A m c (up hs I.toNat (A2, c2)) (sll ls I l) :: R) → WL P n ro df ops rest N L w') : WL P n ro df ops (⟨none, .store t x y, ty, pos, af, none⟩ :: rest) N L w := by
  subst hm2
  have hO := (hS.mxrows (i := 1) rfl).1.1
  exact WL.store he hx hy rfl (ti hI) hO fun w' h1 h2 => h w' (hS.mxPut hI rfl h2 h1)
/-- 'append' of a list of lists onto another. -/
theorem SL.appendMx {x y : Operand} {t e by_ m' c' : Nat} {zero : Value} {A' : Option Addr} {hs' : Hs} {ls' : List (List Int)} (hS : St X w0 mr w (mx e eI A' m' c' hs' ls' :: mx e eI A m c hs ls :: R)) (ht : P.underlying t = some (.slice e)) (he : Elem P e 1 by_ zero)
    (hx : ev L x = some (.slice A m c)) (hy : ev L y = some (.slice A' m' c')) (hmax : m + m' ≤ maxLen) (hby : (m + m') * by_ ≤ 140737488355328) (hn : Nat.blt d n = true)
    (h : ∀ A2 c2 w', St X w0 mr w' (mx e eI A2 (ls ++ ls').length c2 (apHs ls.length hs hs') (ls ++ ls') :: R) → WL P n ro df ops rest N ((d, .slice A2 (ls ++ ls').length c2) :: L) w') :
    WL P n ro df ops (⟨some d, .call ⟨.builtin .append, #[x, y], #[t, t]⟩, ty, pos, af, none⟩ :: rest) N L w := by
  have hl := hS.mxlen (i := 1) rfl
  have hl' := hS.mxlen (i := 0) rfl
  have h1 := (hS.mxOpen.perm ((List.perm_middle.cons _).trans (List.Perm.swap _ _ _))).mxOpen
  -- pieces: outer, its rows, then outer', its rows, R
  have hR : Rd w.heap.size w 1 A' m' c' (hcells hs' ls') := hS.mxout (i := 0) rfl
  have hmm : m + m' = (ls ++ ls').length := by rw [List.length_append, hl, hl']
  refine WL.append (cs := hcells hs ls) (ls ++ ls').length (hcells hs ls ++ hcells hs' ls') ht he hx hy (h1.own (i := 0) rfl) hR (hcells_one _ _) hmax hby (Nat.zero_le _) hmm rfl hn fun A2 c2 w' hO hG hA => h A2 c2 w' ?_
  have h2 := h1.put (i := 0) rfl hG hO (hA.imp id .inl)
  refine St.mxShut ?_
  rw [inr_append, ← hcells_append]
  have h3 : St X w0 mr w' (.row e 1 A' m' c' (hcells hs' ls') :: .row e 1 A2 (ls ++ ls').length c2 (hcells hs ls ++ hcells hs' ls') :: (inr eI hs ls ++ inr eI hs' ls' ++ R)) := h2.perm (by
    show (Rw.row e 1 A2 (ls ++ ls').length c2 _ :: (inr eI hs ls ++ (Rw.row e 1 A' m' c' (hcells hs' ls') :: (inr eI hs' ls' ++ R)))).Perm _
    rw [List.append_assoc]
    exact (List.perm_middle.cons _).trans (List.Perm.swap _ _ _))
  exact h3.tail
/-- 'append' of one row of the call's own. -/
theorem St.mxOne {A1 A2 : Option Addr} {m2 c1 c2 : Nat} {l : List Int} (hm2 : m2 = l.length) (h : St X w0 mr w (.row eS 1 A1 1 c1 [.slice A2 m2 c2] :: .row eI 1 A2 m2 c2 (is l) :: R)) : St X w0 mr w (mx eS eI A1 1 c1 (fun _ => (A2, c2)) [l] :: R) := by
  subst hm2
  exact St.mxShut h
end
end Go.Proofs.Ytcmfjjbbcfddpaa
set_option linter.unusedSimpArgs false
set_option linter.unusedVariables false
namespace Go.Proofs.Ytcmfjjbbcfddpaa
open Go.RowKit
section
variable {w w' : World} {A : Option Addr} {n k : Nat} {hs : Hs} {ls : List (List Int)}
theorem SL.indexR {P : Program} {nn : Nat} {ro : Option Nat} {df : List Deferred} {N : Post} {L : Fr} {ops : Array Oper} {rest : List Oper} {d : Nat} {ty : TypeId} {pos : String} {af : Array Edge} {wR : World} {x i : Operand} {t e : TypeId} {by_ : Nat} {zero : Value} {kk : IntKind} {I : Int}
    (ht : P.underlying t = some (.slice e)) (he : Elem P e 1 by_ zero) (hR : RlH wR A n k hs ls) (hx : ev L x = some (.slice A n k)) (hi : ev L i = some (.int kk I)) (hI : 0 ≤ I ∧ I < ((n : Nat) : Int)) (hn : Nat.blt d nn = true)
    (h : WL P nn ro df ops rest N ((d, .pointer (some ((adOf A).add I.toNat))) :: L) w) : WL P nn ro df ops (⟨some d, .indexAddr t x i, ty, pos, af, none⟩ :: rest) N L w := by
  obtain ⟨B, h1⟩ := hR.out
  exact SL.index ht he h1 hx hi hI hn h
end
section
variable {w w' : World} {A : Option Addr} {n k : Nat} {H : HM} {ms : List Mt}
end
section
variable {w w' : World} {A : Option Addr} {eS eI m c : Nat} {hs : Hs} {ls : List (List Int)} {b : Nat} {mr : Option Nat}
end
section
variable {X : World → Prop} {w0 w w' wS : World} {mr : Option Nat} {R R0 : List Rw} {eS eI m c : Nat} {A : Option Addr} {hs : Hs} {ls : List (List Int)}
end
section
variable {P : Program} {n : Nat} {ro : Option Nat} {df : List Deferred} {N : Post} {L : Fr} {w w0 : World} {ops : Array Oper} {rest : List Oper}
variable {d : Nat} {ty : TypeId} {pos : String} {af : Array Edge} {X : World → Prop} {mr : Option Nat} {R : List Rw} {eS eI m c : Nat} {A : Option Addr} {hs : Hs} {ls : List (List Int)}
end
end Go.Proofs.Ytcmfjjbbcfddpaa
set_option linter.unusedVariables false
namespace Go.Proofs.Ytcmfjjbbcfddpaa
open Go.RowKit
theorem Try.nm47 : (Try.f47.name == "runtime.NumGoroutine") = false := by kernel_rfl
theorem Try.nm48 : (Try.f48.name == "runtime.NumGoroutine") = false := by kernel_rfl
theorem Try.nm49 : (Try.f49.name == "runtime.NumGoroutine") = false := by kernel_rfl
theorem Try.nm73 : (Try.f73.name == "runtime.NumGoroutine") = false := by kernel_rfl
theorem Try.nm75 : (Try.f75.name == "runtime.NumGoroutine") = false := by kernel_rfl
end Go.Proofs.Ytcmfjjbbcfddpaa
namespace Go.Proofs.Ytcmfjjbbcfddpaa
open Go.RowKit
abbrev XF14 := Try.func14
abbrev XF47 := Try.func47
abbrev XF48 := Try.func48
abbrev XF49 := Try.func49
abbrev XF73 := Try.func73
abbrev XF75 := Try.func75
abbrev XN47 := Try.nm47
abbrev XN48 := Try.nm48
abbrev XN49 := Try.nm49
abbrev XN73 := Try.nm73
abbrev XN75 := Try.nm75
abbrev XU67 := Try.underlying67
end Go.Proofs.Ytcmfjjbbcfddpaa
set_option linter.unusedSimpArgs false
set_option linter.unusedVariables false
set_option maxRecDepth 4000
set_option maxHeartbeats 4000000
namespace Go.Proofs.Ytcmfjjbbcfddpaa
open Go.RowKit
def V_ascend0 (u : List Int) (x : Int) (Q : List Int → Prop) : Prop :=
  ∃ (I17 : List Int → Int → Prop) (μ18 : List Int → Int → Nat), I17 u (0 : Int) ∧ ∀ (x15 : List Int) (z16 : Int), (I17 x15 z16 → (((z16 < ((u.length : Nat) : Int)) → ((I64 (x + z16)) ∧ ((0 ≤ z16 ∧ z16 < (u.length : Nat)) ∧ ((I64 (z16 + (1 : Int))) ∧ (I17 (si x15 z16 (x + z16)) (z16 + (1 : Int)) ∧ μ18 (si x15 z16 (x + z16)) (z16 + (1 : Int)) < μ18 x15 z16))))) ∧ (¬ (z16 < ((u.length : Nat) : Int)) → Q x15)))
theorem ok_ascend0 {w : World} {Q : List Int → Prop} {u : List Int} {x : Int} {Au : Option Addr} {nu ku : Nat} (hu : Own 0 w 3 1 Au nu ku (is u)) (hv : V_ascend0 u x Q) :
    Calls Try.prog 73 #[.slice Au nu ku, .int .i64 x] w fun e w' => ∃ v cs', e = .returned v ∧ w.grownBy w' (bl Au) ∧ Own 0 w' 3 1 Au nu ku cs' ∧ ∃ x : List Int, v = .tuple #[] ∧ cs' = is x ∧ Q x := by
  have hnu := hu.rd.ilen
  subst hnu
  refine calls_swapM <| calls_of_W (vs := [.slice Au u.length ku, .int .i64 x]) [] XF73 rfl rfl rfl rfl ?_
  have hS := St.startM hu
  unfold V_ascend0 at hv
  refine W.seq <| W.region <| WL.move rfl rfl <| WL.len XU22 rfl rfl <| WL.move rfl rfl <| WL.done <| W.block ?_
  obtain ⟨I17, μ18, hv, hk25⟩ := hv
  refine W.loop (σ := List Int × Int) (fun q w1 => match q with | (x15, z16) => I17 x15 z16 ∧ St TT w (bl Au) w1 [.row 3 1 Au u.length ku (is x15)]) (fun q => match q with | (x15, z16) => [(0, .slice Au u.length ku), (1, .int .i64 x), (6, .int .i64 ((u.length : Nat) : Int)), (7, .int .i64 z16)]) (fun q => match q with | (x15, z16) => μ18 x15 z16) (u, (0 : Int)) ⟨hv, hS⟩ ⟨rfl, rfl, rfl, rfl, trivial⟩ ?_
  rintro ⟨x15, z16⟩ w19 ⟨hv, hS⟩
  have hv := hk25 x15 z16 hv
  refine W.seq <| W.region <| WL.lssD rfl rfl rfl <| WL.done <| W.seq <| W.cond2 rfl (fun c20 => ?_) (fun c20 => ?_)
  ·have hv := hv.1 (of_decide_eq_true c20)
   refine W.skip <| W.seq <| W.block <| W.seq <| W.region <| WL.move rfl rfl <| WL.assign rfl rfl <| WL.done <| W.region <| WL.move rfl rfl <| WL.move rfl rfl <| WL.move rfl rfl <| WL.move rfl rfl ?_
   obtain ⟨o21, hv⟩ := hv
   refine WL.add (r := (x + z16)) rfl rfl (wr o21) rfl ?_
   obtain ⟨o22, hv⟩ := hv
   refine SL.index XU22 XE3 (hS.rd (i := 0) rfl) rfl rfl o22 rfl <| SL.store (cs' := is (si x15 z16 (x + z16))) 0 z16.toNat hS rfl XE3 rfl rfl rfl (is_lt (hS.rd (i := 0) rfl) o22) (is_set _ _ _) ?_
   intro w23 hS
   refine WL.done <| W.region ?_
   obtain ⟨o24, hv⟩ := hv
   refine WL.add (r := (z16 + (1 : Int))) rfl rfl (wr o24) rfl <| WL.move rfl rfl <| WL.done ?_
   exact ⟨(si x15 z16 (x + z16), (z16 + (1 : Int))), ⟨rfl, rfl, rfl, rfl, trivial⟩, hv.2, rfl, hv.1, hS⟩
  have hv := hv.2 (of_decide_eq_false c20)
  refine W.exit <| ⟨_, rfl, Fin.nil ?_⟩
  exact ⟨_, hS.ext, hS.own (i := 0) rfl, x15, rfl, rfl, hv⟩
def V_ascend (u : List Int) (ou : Nat) (x : Int) (Q : List Int → Prop) : Prop :=
  ∃ (I17 : List Int → Int → Prop) (μ18 : List Int → Int → Nat), I17 u (0 : Int) ∧ ∀ (x15 : List Int) (z16 : Int), (I17 x15 z16 → (((z16 < ((u.length - ou : Nat) : Int)) → ((I64 (x + z16)) ∧ ((0 ≤ z16 ∧ z16 < (u.length - ou : Nat)) ∧ ((I64 (z16 + (1 : Int))) ∧ (I17 (si x15 ((ou + z16.toNat : Nat) : Int) (x + z16)) (z16 + (1 : Int)) ∧ μ18 (si x15 ((ou + z16.toNat : Nat) : Int) (x + z16)) (z16 + (1 : Int)) < μ18 x15 z16))))) ∧ (¬ (z16 < ((u.length - ou : Nat) : Int)) → Q x15)))
theorem ok_ascend {w : World} {Q : List Int → Prop} {u : List Int} {ou : Nat} {x : Int} {Au : Option Addr} {nu ku : Nat} (hu : Own 0 w 3 1 Au nu ku (is u)) (hou : ou ≤ nu) (hv : V_ascend u ou x Q) :
    Calls Try.prog 73 #[.slice (if ku = ou then Au else Au.map (·.add (ou * 1))) (nu - ou) (ku - ou), .int .i64 x] w fun e w' => ∃ v cs', e = .returned v ∧ w.grownBy w' (bl Au) ∧ Own 0 w' 3 1 Au nu ku cs' ∧ ∃ x : List Int, v = .tuple #[] ∧ cs' = is x ∧ Q x := by
  have hnu := hu.rd.ilen
  subst hnu
  refine calls_swapM <| calls_of_W (vs := [.slice (if ku = ou then Au else Au.map (·.add (ou * 1))) (u.length - ou) (ku - ou), .int .i64 x]) [] XF73 rfl rfl rfl rfl ?_
  have hS := St.startM hu
  unfold V_ascend at hv
  refine W.seq <| W.region <| WL.move rfl rfl <| WL.len XU22 rfl rfl <| WL.move rfl rfl <| WL.done <| W.block ?_
  obtain ⟨I17, μ18, hv, hk25⟩ := hv
  refine W.loop (σ := List Int × Int) (fun q w1 => match q with | (x15, z16) => I17 x15 z16 ∧ St TT w (bl Au) w1 [.row 3 1 Au u.length ku (is x15)]) (fun q => match q with | (x15, z16) => [(0, .slice (if ku = ou then Au else Au.map (·.add (ou * 1))) (u.length - ou) (ku - ou)), (1, .int .i64 x), (6, .int .i64 ((u.length - ou : Nat) : Int)), (7, .int .i64 z16)]) (fun q => match q with | (x15, z16) => μ18 x15 z16) (u, (0 : Int)) ⟨hv, hS⟩ ⟨rfl, rfl, rfl, rfl, trivial⟩ ?_
  rintro ⟨x15, z16⟩ w19 ⟨hv, hS⟩
  have hv := hk25 x15 z16 hv
  refine W.seq <| W.region <| WL.lssD rfl rfl rfl <| WL.done <| W.seq <| W.cond2 rfl (fun c20 => ?_) (fun c20 => ?_)
  ·have hv := hv.1 (of_decide_eq_true c20)
   refine W.skip <| W.seq <| W.block <| W.seq <| W.region <| WL.move rfl rfl <| WL.assign rfl rfl <| WL.done <| W.region <| WL.move rfl rfl <| WL.move rfl rfl <| WL.move rfl rfl <| WL.move rfl rfl ?_
   obtain ⟨o21, hv⟩ := hv
   refine WL.add (r := (x + z16)) rfl rfl (wr o21) rfl ?_
   obtain ⟨o22, hv⟩ := hv
   refine SL.indexW XU22 XE3 (hS.rd (i := 0) rfl) rfl rfl o22 rfl <| SL.store (cs' := is (si x15 ((ou + z16.toNat : Nat) : Int) (x + z16))) 0 (ou + z16.toNat) hS rfl XE3 rfl rfl rfl (is_ltW (hS.rd (i := 0) rfl) o22) (is_set _ (ou + z16.toNat) _) ?_
   intro w23 hS
   refine WL.done <| W.region ?_
   obtain ⟨o24, hv⟩ := hv
   refine WL.add (r := (z16 + (1 : Int))) rfl rfl (wr o24) rfl <| WL.move rfl rfl <| WL.done ?_
   exact ⟨(si x15 ((ou + z16.toNat : Nat) : Int) (x + z16), (z16 + (1 : Int))), ⟨rfl, rfl, rfl, rfl, trivial⟩, hv.2, rfl, hv.1, hS⟩
  have hv := hv.2 (of_decide_eq_false c20)
  refine W.exit <| ⟨_, rfl, Fin.nil ?_⟩
  exact ⟨_, hS.ext, hS.own (i := 0) rfl, x15, rfl, rfl, hv⟩
def V_advance (n : Int) (u : List Int) (Q : List Int → Prop) : Prop :=
  (I64 (((u.length : Nat) : Int) - (1 : Int))) ∧ (∃ (I15 : Int → Prop) (μ16 : Int → Nat), I15 (((u.length : Nat) : Int) - (1 : Int)) ∧ ∀ (z14 : Int), (I15 z14 → ((((0 : Int) ≤ z14) → ((0 ≤ z14 ∧ z14 < (u.length : Nat)) ∧ ((I64 (n - ((u.length : Nat) : Int))) ∧ ((I64 ((n - ((u.length : Nat) : Int)) + z14)) ∧ ((((gi u z14) < ((n - ((u.length : Nat) : Int)) + z14)) → ((0 ≤ z14 ∧ z14 ≤ (u.length : Nat)) ∧ ((0 ≤ z14 ∧ z14 < (u.length : Nat)) ∧ ((I64 ((gi u z14) + (1 : Int))) ∧ (V_ascend u z14.toNat ((gi u z14) + (1 : Int)) (fun x36 => Q x36)))))) ∧ (¬ ((gi u z14) < ((n - ((u.length : Nat) : Int)) + z14)) → ((I64 (z14 - (1 : Int))) ∧ (I15 (z14 - (1 : Int)) ∧ μ16 (z14 - (1 : Int)) < μ16 z14)))))))) ∧ (¬ ((0 : Int) ≤ z14) → Q u))))
theorem ok_advance {w : World} {Q : List Int → Prop} {n : Int} {u : List Int} {Au : Option Addr} {nu ku : Nat} (hu : Own 0 w 3 1 Au nu ku (is u)) (hv : V_advance n u Q) :
    Calls Try.prog 75 #[.int .i64 n, .slice Au nu ku] w fun e w' => ∃ v cs', e = .returned v ∧ w.grownBy w' (bl Au) ∧ Own 0 w' 3 1 Au nu ku cs' ∧ ∃ x : List Int, v = .tuple #[] ∧ cs' = is x ∧ Q x := by
  have hnu := hu.rd.ilen
  subst hnu
  refine calls_swapM <| calls_of_W (vs := [.int .i64 n, .slice Au u.length ku]) [] XF75 rfl rfl rfl rfl ?_
  have hS := St.startM hu
  unfold V_advance at hv
  refine W.seq <| W.region <| WL.move rfl rfl <| WL.len XU22 rfl rfl ?_
  obtain ⟨o11, hv⟩ := hv
  refine WL.sub (r := (((u.length : Nat) : Int) - (1 : Int))) rfl rfl (wr o11) rfl <| WL.assign rfl rfl <| WL.done <| W.block ?_
  obtain ⟨I15, μ16, hv, hk38⟩ := hv
  refine W.loop (σ := Int) (fun z14 w1 => I15 z14 ∧ St TT w (bl Au) w1 [.row 3 1 Au u.length ku (is u)]) (fun z14 => [(0, .int .i64 n), (1, .slice Au u.length ku), (4, .int .i64 z14)]) (fun z14 => μ16 z14) (((u.length : Nat) : Int) - (1 : Int)) ⟨hv, hS⟩ ⟨rfl, rfl, rfl, trivial⟩ ?_
  rintro z14 w17 ⟨hv, hS⟩
  have hv := hk38 z14 hv
  refine W.seq <| W.seq <| W.region <| WL.move rfl rfl <| WL.geqD rfl rfl rfl <| WL.done <| W.cond2 rfl (fun c18 => ?_) (fun c18 => ?_)
  ·have hv := hv.1 (of_decide_eq_true c18)
   refine W.skip <| W.seq <| W.block <| W.seq <| W.region <| WL.move rfl rfl <| WL.move rfl rfl ?_
   obtain ⟨o19, hv⟩ := hv
   refine SL.index XU22 XE3 (hS.rd (i := 0) rfl) rfl rfl o19 rfl <| WL.load XU3 rfl rfl (Rd.gi (hS.rd (i := 0) rfl) o19) rfl <| WL.move rfl rfl <| WL.move rfl rfl <| WL.len XU22 rfl rfl ?_
   obtain ⟨o20, hv⟩ := hv
   refine WL.sub (r := (n - ((u.length : Nat) : Int))) rfl rfl (wr o20) rfl <| WL.move rfl rfl ?_
   obtain ⟨o21, hv⟩ := hv
   refine WL.add (r := ((n - ((u.length : Nat) : Int)) + z14)) rfl rfl (wr o21) rfl <| WL.lssD rfl rfl rfl <| WL.done <| W.cond2 rfl (fun c22 => ?_) (fun c22 => ?_)
   ·have hv := hv.1 (of_decide_eq_true c22)
    refine W.seq ?_
    obtain ⟨o26, hv⟩ := hv
    obtain ⟨o30, hv⟩ := hv
    obtain ⟨o33, hv⟩ := hv
    refine W.drawV 8 [⟨[], [1], true⟩, ⟨[], [4], true⟩, ⟨[0, 1], [], true⟩, ⟨[], [1], true⟩, ⟨[], [4], true⟩, ⟨[3, 4], [], true⟩, ⟨[5], [], false⟩, ⟨[6], [], true⟩] [[(1, .slice Au u.length ku)], [(4, .int .i64 z14)], [], [(1, .slice Au u.length ku)], [(4, .int .i64 z14)], [], [], []] [(23, .slice Au u.length ku), (24, .int .i64 z14), (25, .slice (if ku = z14.toNat then Au else Au.map (·.add (z14.toNat * 1))) (u.length - z14.toNat) (ku - z14.toNat)), (26, .slice Au u.length ku), (27, .int .i64 z14), (28, .pointer (some ((adOf Au).add z14.toNat))), (29, .int .i64 (gi u z14)), (30, .int .i64 ((gi u z14) + (1 : Int)))] Try.mixed (by kernel_rfl) rfl rfl ?_ ?_
    · refine ⟨⟨rfl, ⟨rfl, trivial⟩, fun _ _ _ => WL.move rfl rfl <| WL.done ⟨rfl, rfl⟩⟩, ⟨rfl, ⟨rfl, trivial⟩, fun _ _ _ => WL.move rfl rfl <| WL.done ⟨rfl, rfl⟩⟩, ⟨rfl, trivial, fun _ _ _ => SL.slFrom XU22 XE3 (hS.rd (i := 0) rfl) rfl rfl o26 rfl <| WL.done ⟨rfl, rfl⟩⟩, ⟨rfl, ⟨rfl, trivial⟩, fun _ _ _ => WL.move rfl rfl <| WL.done ⟨rfl, rfl⟩⟩, ⟨rfl, ⟨rfl, trivial⟩, fun _ _ _ => WL.move rfl rfl <| WL.done ⟨rfl, rfl⟩⟩, ⟨rfl, trivial, fun _ _ _ => SL.index XU22 XE3 (hS.rd (i := 0) rfl) rfl rfl o30 rfl <| WL.done ⟨rfl, rfl⟩⟩, ⟨rfl, trivial, fun _ hE _ => have hS := hS.grow (hE rfl); WL.load XU3 rfl rfl (Rd.gi (hS.rd (i := 0) rfl) o30) rfl <| WL.done ⟨rfl, ext_refl _⟩⟩, ⟨rfl, trivial, fun _ _ _ => WL.add (r := ((gi u z14) + (1 : Int))) rfl rfl (wr o33) rfl <| WL.done ⟨rfl, rfl⟩⟩, trivial⟩
    intro w34 hT
    have hS := hS.grow hT
    refine WA.step1 8 (by decide +kernel) rfl <| SL.callm 0 hS rfl (ok_ascend (hS.own (i := 0) rfl) (by omega) hv) XF73 rfl XN73 rfl rfl ?_
    rintro _ _ w35 ⟨x36, rfl, rfl, hv⟩ hS
    refine WL.done <| WA.done (by decide +kernel) <| W.ret <| ⟨_, rfl, Fin.nil ?_⟩
    exact ⟨_, hS.ext, hS.own (i := 0) rfl, x36, rfl, rfl, hv⟩
   have hv := hv.2 (of_decide_eq_false c22)
   refine W.skip <| W.region <| WL.move rfl rfl ?_
   obtain ⟨o37, hv⟩ := hv
   refine WL.sub (r := (z14 - (1 : Int))) rfl rfl (wr o37) rfl <| WL.assign rfl rfl <| WL.done ?_
   exact ⟨(z14 - (1 : Int)), ⟨rfl, rfl, rfl, trivial⟩, hv.2, rfl, hv.1, hS⟩
  have hv := hv.2 (of_decide_eq_false c18)
  refine W.exit <| ⟨_, rfl, Fin.nil ?_⟩
  exact ⟨_, hS.ext, hS.own (i := 0) rfl, u, rfl, rfl, hv⟩
def V_Subsets (n : Int) (k : Int) (Q : List (List Int) × Int → Prop) : Prop :=
  V_countSubsets n k (fun q => match q with | (r12, r13) => ((r13 ≠ (0 : Int)) → (Q (([] : List (List Int)), r13))) ∧ (¬ (r13 ≠ (0 : Int)) → ((((65536 : Int) < r12) → (Q (([] : List (List Int)), (8 : Int)))) ∧ (¬ ((65536 : Int) < r12) → ((0 ≤ r12 ∧ r12 * 24 ≤ 281474976710656 ∧ r12 ≤ 281474976710656) ∧ ((0 ≤ k ∧ k * 8 ≤ 281474976710656 ∧ k ≤ 281474976710656) ∧ (V_ascend0 (List.replicate k.toNat (0 : Int)) (0 : Int) (fun x27 => ∃ (I40 : List Int → List (List Int) → Int → Prop) (μ41 : List Int → List (List Int) → Int → Nat), I40 x27 (List.replicate r12.toNat ([] : List Int)) (0 : Int) ∧ ∀ (x36 : List Int) (x37 : List (List Int)) (z39 : Int), (I40 x36 x37 z39 → (((z39 < ((r12.toNat : Nat) : Int)) → (V_clone x36 (fun x45 => (0 ≤ z39 ∧ z39 < (r12.toNat : Nat)) ∧ (V_advance n x36 (fun x52 => (I64 (z39 + (1 : Int))) ∧ (I40 x52 (sll x37 z39 x45) (z39 + (1 : Int)) ∧ μ41 x52 (sll x37 z39 x45) (z39 + (1 : Int)) < μ41 x36 x37 z39)))))) ∧ (¬ (z39 < ((r12.toNat : Nat) : Int)) → (Q (x37, (0 : Int))))))))))))))
theorem ok_Subsets {w : World} {Q : List (List Int) × Int → Prop} {n : Int} {k : Int}  (hv : V_Subsets n k Q) :
    Calls Try.prog 47 #[.int .i64 n, .int .i64 k] w fun e w' => ∃ v Qr, e = .returned v ∧ w.grownBy w' none ∧ Rows w.heap.size none w' Qr ∧ News w.heap.size Qr ∧ ∃ (r0 : List (List Int)) (r1 : Int) (A0 : Option Addr) (k0 : Nat) (hs0 : Hs), v = .tuple #[.slice A0 r0.length k0, .int .i64 r1] ∧ Qr = [mx 22 3 A0 r0.length k0 hs0 r0] ∧ Q (r0, r1) := by
  refine calls_swap <| calls_of_W (vs := [.int .i64 n, .int .i64 k]) [4, 5] XF47 rfl rfl rfl rfl ?_
  have hS := St.start w
  unfold V_Subsets at hv
  refine W.seq <| W.region <| WL.assign rfl rfl <| WL.assign rfl rfl <| WL.done <| W.seq <| W.region <| WL.move rfl rfl <| WL.move rfl rfl <| SL.call hS (ok_countSubsets  hv) XF72 rfl XN72 rfl rfl ?_
  rintro _ _ w11 ⟨r12, r13, rfl, rfl, hv⟩ hGw11 hS
  have hS := hS.n0
  refine WL.move rfl rfl <| WL.extract rfl rfl rfl <| WL.extract rfl rfl rfl <| WL.assign rfl rfl <| WL.assign rfl rfl <| WL.done <| W.seq <| W.seq <| W.region <| WL.move rfl rfl <| WL.neqD rfl rfl rfl <| WL.done <| W.cond2 rfl (fun c14 => ?_) (fun c14 => ?_)
  ·have hv := hv.1 (of_decide_eq_true c14)
   refine W.seq <| W.region <| WL.move rfl rfl <| WL.assign rfl rfl <| WL.assign rfl rfl <| WL.done <| W.ret ?_
   have hS := hS.mxNil 22 3
   have hm0 := hS.mxlen (i := 0) rfl
   have hS := hS.relenMx (i := 0) rfl hm0.symm
   change St _ _ _ _ [mx 22 3 none ((([] : List (List Int))).length) 0 (fun _ => (none, 0)) ([] : List (List Int))] at hS
   refine ⟨_, rfl, Fin.nil ?_⟩
   exact ⟨_, hS.ext, (hS.pick [0] rfl).rows, News.of (hS.pick [0] rfl).rows rfl, ⟨([] : List (List Int)), r13, none, 0, (fun _ => (none, 0)), (by first | (rw [show (Value.slice none 0 0) = Value.slice none (([] : List (List Int))).length 0 from sm0 hm0.symm]; done) | (rw [show (Value.slice none 0 0) = Value.slice none (([] : List (List Int))).length 0 from sm0 hm0.symm]; rfl)), rfl, hv⟩⟩
  have hv := hv.2 (of_decide_eq_false c14)
  refine W.skip <| W.seq <| W.seq <| W.region <| WL.move rfl rfl <| WL.gtrD rfl rfl rfl <| WL.done <| W.cond2 rfl (fun c16 => ?_) (fun c16 => ?_)
  ·have hv := hv.1 (of_decide_eq_true c16)
   refine W.seq <| W.region <| WL.assign rfl rfl <| WL.assign rfl rfl <| WL.done <| W.ret ?_
   have hS := hS.mxNil 22 3
   have hm0 := hS.mxlen (i := 0) rfl
   have hS := hS.relenMx (i := 0) rfl hm0.symm
   change St _ _ _ _ [mx 22 3 none ((([] : List (List Int))).length) 0 (fun _ => (none, 0)) ([] : List (List Int))] at hS
   refine ⟨_, rfl, Fin.nil ?_⟩
   exact ⟨_, hS.ext, (hS.pick [0] rfl).rows, News.of (hS.pick [0] rfl).rows rfl, ⟨([] : List (List Int)), (8 : Int), none, 0, (fun _ => (none, 0)), (by first | (rw [show (Value.slice none 0 0) = Value.slice none (([] : List (List Int))).length 0 from sm0 hm0.symm]; done) | (rw [show (Value.slice none 0 0) = Value.slice none (([] : List (List Int))).length 0 from sm0 hm0.symm]; rfl)), rfl, hv⟩⟩
  have hv := hv.2 (of_decide_eq_false c16)
  refine W.skip <| W.seq <| W.region <| WL.move rfl rfl ?_
  obtain ⟨o20, hv⟩ := hv
  refine SL.make (J := r12) hS XU67 XE22 rfl rfl o20 (made_hs _) rfl ?_
  intro A18 w19 hS
  have hS := St.mxNew (eI := 3) hS
  refine WL.assign rfl rfl <| WL.done <| W.seq <| W.region <| WL.move rfl rfl ?_
  obtain ⟨o22, hv⟩ := hv
  refine SL.make (J := k) hS XU22 XE3 rfl rfl o22 (made_is _) rfl ?_
  intro A23 w24 hS
  refine WL.assign rfl rfl <| WL.done <| W.seq <| W.region <| WL.move rfl rfl <| SL.callm 0 hS rfl (ok_ascend0 (hS.own (i := 0) rfl) hv) XF73 rfl XN73 rfl rfl ?_
  rintro _ _ w26 ⟨x27, rfl, rfl, hv⟩ hS
  refine WL.done <| W.seq <| W.seq <| W.region <| WL.move rfl rfl <| WL.len XU67 rfl rfl <| WL.move rfl rfl <| WL.done <| W.block ?_
  obtain ⟨I40, μ41, hv, hk54⟩ := hv
  refine W.loop (σ := List Int × List (List Int) × Int × Hs) (fun q w1 => match q with | (x36, x37, z39, hs38) => I40 x36 x37 z39 ∧ St TT w none w1 [.row 3 1 A23 k.toNat k.toNat (is x36), mx 22 3 A18 r12.toNat r12.toNat hs38 x37]) (fun q => match q with | (x36, x37, z39, hs38) => [(0, .int .i64 n), (4, .slice none 0 0), (5, .int .i64 (0 : Int)), (8, .slice A18 r12.toNat r12.toNat), (9, .slice A23 k.toNat k.toNat), (29, .int .i64 ((r12.toNat : Nat) : Int)), (30, .int .i64 z39)]) (fun q => match q with | (x36, x37, z39, hs38) => μ41 x36 x37 z39) (x27, List.replicate r12.toNat ([] : List Int), (0 : Int), (fun _ => (none, 0))) ⟨hv, hS⟩ ⟨rfl, rfl, rfl, rfl, rfl, rfl, rfl, trivial⟩ ?_
  rintro ⟨x36, x37, z39, hs38⟩ w42 ⟨hv, hS⟩
  have hv := hk54 x36 x37 z39 hv
  refine W.seq <| W.region <| WL.lssD rfl rfl rfl <| WL.done <| W.seq <| W.cond2 rfl (fun c43 => ?_) (fun c43 => ?_)
  ·have hv := hv.1 (of_decide_eq_true c43)
   refine W.skip <| W.seq <| W.block <| W.seq <| W.region <| WL.move rfl rfl <| WL.assign rfl rfl <| WL.done <| W.seq <| W.region <| WL.move rfl rfl <| WL.move rfl rfl <| WL.move rfl rfl <| SL.call hS (ok_clone (hS.rd (i := 0) rfl) hv) XF74 rfl XN74 rfl rfl ?_
   rintro _ _ w44 ⟨x45, A46, k47, rfl, rfl, hv⟩ hGw44 hS
   have hS := hS.n1
   obtain ⟨o49, hv⟩ := hv
   refine SL.indexMx 2 XU67 XE22 hS rfl rfl rfl o49 rfl ?_
   have hS := hS.pick [0, 2, 1] rfl
   refine SL.storeH hS XE22 o49 (hS.rd (i := 0) rfl).ilen.symm rfl rfl ?_
   intro w50 hS
   refine WL.done <| W.region <| WL.move rfl rfl <| WL.move rfl rfl <| SL.callm 1 hS rfl (ok_advance (hS.own (i := 1) rfl) hv) XF75 rfl XN75 rfl rfl ?_
   rintro _ _ w51 ⟨x52, rfl, rfl, hv⟩ hS
   refine WL.done <| W.region ?_
   obtain ⟨o53, hv⟩ := hv
   refine WL.add (r := (z39 + (1 : Int))) rfl rfl (wr o53) rfl <| WL.move rfl rfl <| WL.done ?_
   have hS := hS.pick [1, 0] rfl
   exact ⟨(x52, sll x37 z39 x45, (z39 + (1 : Int)), (up hs38 z39.toNat (A46, k47))), ⟨rfl, rfl, rfl, rfl, rfl, rfl, rfl, trivial⟩, hv.2, rfl, hv.1, hS⟩
  have hv := hv.2 (of_decide_eq_false c43)
  refine W.exit <| W.seq <| W.region <| WL.move rfl rfl <| WL.assign rfl rfl <| WL.assign rfl rfl <| WL.done <| W.ret ?_
  have hS := hS.pick [1, 0] rfl
  have hm0 := hS.mxlen (i := 0) rfl
  have hS := hS.relenMx (i := 0) rfl hm0.symm
  change St _ _ _ _ [mx 22 3 A18 ((x37).length) r12.toNat hs38 x37, .row 3 1 A23 k.toNat k.toNat (is x36)] at hS
  refine ⟨_, rfl, Fin.nil ?_⟩
  exact ⟨_, hS.ext, (hS.pick [0] rfl).rows, News.of (hS.pick [0] rfl).rows rfl, ⟨x37, (0 : Int), A18, r12.toNat, hs38, (by first | (rw [show (Value.slice A18 r12.toNat r12.toNat) = Value.slice A18 (x37).length r12.toNat from sm0 hm0.symm]; done) | (rw [show (Value.slice A18 r12.toNat r12.toNat) = Value.slice A18 (x37).length r12.toNat from sm0 hm0.symm]; rfl)), rfl, hv⟩⟩
end Go.Proofs.Ytcmfjjbbcfddpaa
set_option linter.unusedSimpArgs false
set_option linter.unusedVariables false
set_option maxRecDepth 4000
set_option maxHeartbeats 4000000
namespace Go.Proofs.Ytcmfjjbbcfddpaa
open Go.RowKit
def V_rSubsets (n : Int) (k : Int) (Q : List (List Int) × Int → Prop) : Prop :=
  V_rBinomial n k (fun q => match q with | (r12, r13) => ((r13 ≠ (0 : Int)) → (Q (([] : List (List Int)), r13))) ∧ (¬ (r13 ≠ (0 : Int)) → (((k < (0 : Int)) → (Q (([] : List (List Int)), (6 : Int)))) ∧ (¬ (k < (0 : Int)) → (((n < k) → (Q (([] : List (List Int)), (6 : Int)))) ∧ (¬ (n < k) → ((((65536 : Int) < r12) → (Q (([] : List (List Int)), (8 : Int)))) ∧ (¬ ((65536 : Int) < r12) → ((0 ≤ k ∧ k * 8 ≤ 281474976710656 ∧ k ≤ 281474976710656) ∧ (∃ (I35 : List Int → Int → Prop) (μ36 : List Int → Int → Nat), I35 (List.replicate k.toNat (0 : Int)) (0 : Int) ∧ ∀ (x33 : List Int) (z34 : Int), (I35 x33 z34 → (((z34 < k) → ((0 ≤ z34 ∧ z34 < (k.toNat : Nat)) ∧ ((I64 (z34 + (1 : Int))) ∧ (I35 (si x33 z34 z34) (z34 + (1 : Int)) ∧ μ36 (si x33 z34 z34) (z34 + (1 : Int)) < μ36 x33 z34)))) ∧ (¬ (z34 < k) → (∃ (I60 : List Int → List (List Int) → Int → Prop) (μ61 : List Int → List (List Int) → Int → Nat), I60 x33 ([] : List (List Int)) (0 : Int) ∧ ∀ (x54 : List Int) (x55 : List (List Int)) (z59 : Int), (I60 x54 x55 z59 → (((z59 < r12) → (∃ J72 : List Int → List (List Int) → Int → Bool → Bool → Prop, ((((0 : Nat) + (k.toNat : Nat) : Int) * 8 ≤ 140737488355328) ∧ ((((x55.length : Nat) + (1 : Nat) : Int) * 24 ≤ 140737488355328) ∧ ((I64 (k - (1 : Int))) ∧ (∃ J90 : Int → Bool → Prop, (∃ (I94 : Int → Prop) (μ95 : Int → Nat), I94 (k - (1 : Int)) ∧ ∀ (z93 : Int), (I94 z93 → ((((0 : Int) ≤ z93) → ((0 ≤ z93 ∧ z93 < (k.toNat : Nat)) ∧ ((I64 (n - k)) ∧ ((I64 ((n - k) + z93)) ∧ ((((gi x54 z93) = ((n - k) + z93)) → ((I64 (z93 - (1 : Int))) ∧ (I94 (z93 - (1 : Int)) ∧ μ95 (z93 - (1 : Int)) < μ95 z93))) ∧ (¬ ((gi x54 z93) = ((n - k) + z93)) → (J90 z93 (decide ((gi x54 z93) = ((n - k) + z93)))))))))) ∧ (¬ ((0 : Int) ≤ z93) → J90 z93 false)))) ∧ ∀ (z88 : Int) (b89 : Bool), (J90 z88 b89 → ((((0 : Int) ≤ z88) → ((0 ≤ z88 ∧ z88 < (k.toNat : Nat)) ∧ ((I64 ((gi x54 z88) + (1 : Int))) ∧ ((0 ≤ z88 ∧ z88 < (k.toNat : Nat)) ∧ ((I64 (z88 + (1 : Int))) ∧ (∃ (I117 : List Int → Int → Prop) (μ118 : List Int → Int → Nat), I117 (si x54 z88 ((gi x54 z88) + (1 : Int))) (z88 + (1 : Int)) ∧ ∀ (x115 : List Int) (z116 : Int), (I117 x115 z116 → (((z116 < k) → ((I64 (z116 - (1 : Int))) ∧ ((0 ≤ (z116 - (1 : Int)) ∧ (z116 - (1 : Int)) < (k.toNat : Nat)) ∧ ((I64 ((gi x115 (z116 - (1 : Int))) + (1 : Int))) ∧ ((0 ≤ z116 ∧ z116 < (k.toNat : Nat)) ∧ ((I64 (z116 + (1 : Int))) ∧ (I117 (si x115 z116 ((gi x115 (z116 - (1 : Int))) + (1 : Int))) (z116 + (1 : Int)) ∧ μ118 (si x115 z116 ((gi x115 (z116 - (1 : Int))) + (1 : Int))) (z116 + (1 : Int)) < μ118 x115 z116))))))) ∧ (¬ (z116 < k) → (J72 x115 (x55 ++ [([] : List Int) ++ x54]) z88 b89 (decide ((0 : Int) ≤ z88)))))))))))) ∧ (¬ ((0 : Int) ≤ z88) → (J72 x54 (x55 ++ [([] : List Int) ++ x54]) z88 b89 (decide ((0 : Int) ≤ z88)))))))))) ∧ ∀ (x64 : List Int) (x65 : List (List Int)) (z69 : Int) (b70 : Bool) (b71 : Bool), (J72 x64 x65 z69 b70 b71 → ((I64 (z59 + (1 : Int))) ∧ (I60 x64 x65 (z59 + (1 : Int)) ∧ μ61 x64 x65 (z59 + (1 : Int)) < μ61 x54 x55 z59))))) ∧ (¬ (z59 < r12) → (Q (x55, (0 : Int))))))))))))))))))))
theorem ok_rSubsets {w : World} {Q : List (List Int) × Int → Prop} {n : Int} {k : Int}  (hv : V_rSubsets n k Q) :
    Calls Try.prog 48 #[.int .i64 n, .int .i64 k] w fun e w' => ∃ v Qr, e = .returned v ∧ w.grownBy w' none ∧ Rows w.heap.size none w' Qr ∧ News w.heap.size Qr ∧ ∃ (r0 : List (List Int)) (r1 : Int) (A0 : Option Addr) (k0 : Nat) (hs0 : Hs), v = .tuple #[.slice A0 r0.length k0, .int .i64 r1] ∧ Qr = [mx 22 3 A0 r0.length k0 hs0 r0] ∧ Q (r0, r1) := by
  refine calls_swap <| calls_of_W (vs := [.int .i64 n, .int .i64 k]) [4, 5] XF48 rfl rfl rfl rfl ?_
  have hS := St.start w
  unfold V_rSubsets at hv
  refine W.seq <| W.region <| WL.assign rfl rfl <| WL.assign rfl rfl <| WL.done <| W.seq <| W.region <| WL.move rfl rfl <| WL.move rfl rfl <| SL.call hS (ok_rBinomial  hv) XF46 rfl XN46 rfl rfl ?_
  rintro _ _ w11 ⟨r12, r13, rfl, rfl, hv⟩ hGw11 hS
  have hS := hS.n0
  refine WL.move rfl rfl <| WL.extract rfl rfl rfl <| WL.extract rfl rfl rfl <| WL.assign rfl rfl <| WL.assign rfl rfl <| WL.done <| W.seq <| W.seq <| W.region <| WL.move rfl rfl <| WL.neqD rfl rfl rfl <| WL.done <| W.cond2 rfl (fun c14 => ?_) (fun c14 => ?_)
  ·have hv := hv.1 (of_decide_eq_true c14)
   refine W.seq <| W.region <| WL.move rfl rfl <| WL.assign rfl rfl <| WL.assign rfl rfl <| WL.done <| W.ret ?_
   have hS := hS.mxNil 22 3
   have hm0 := hS.mxlen (i := 0) rfl
   have hS := hS.relenMx (i := 0) rfl hm0.symm
   change St _ _ _ _ [mx 22 3 none ((([] : List (List Int))).length) 0 (fun _ => (none, 0)) ([] : List (List Int))] at hS
   refine ⟨_, rfl, Fin.nil ?_⟩
   exact ⟨_, hS.ext, (hS.pick [0] rfl).rows, News.of (hS.pick [0] rfl).rows rfl, ⟨([] : List (List Int)), r13, none, 0, (fun _ => (none, 0)), (by first | (rw [show (Value.slice none 0 0) = Value.slice none (([] : List (List Int))).length 0 from sm0 hm0.symm]; done) | (rw [show (Value.slice none 0 0) = Value.slice none (([] : List (List Int))).length 0 from sm0 hm0.symm]; rfl)), rfl, hv⟩⟩
  have hv := hv.2 (of_decide_eq_false c14)
  refine W.skip <| W.seq <| W.seq <| W.region <| WL.move rfl rfl <| WL.lssD rfl rfl rfl <| WL.move rfl rfl ?_
  by_cases g16 : k < (0 : Int)
  ·have hv := hv.1 g16
   rw [decide_eq_true g16]
   refine WL.pass rfl rfl rfl <| WL.pass rfl rfl rfl <| WL.pass rfl rfl rfl <| WL.pick rfl rfl rfl <| WL.done <| W.condT rfl <| W.seq <| W.region <| WL.assign rfl rfl <| WL.assign rfl rfl <| WL.done <| W.ret ?_
   have hS := hS.mxNil 22 3
   have hm0 := hS.mxlen (i := 0) rfl
   have hS := hS.relenMx (i := 0) rfl hm0.symm
   change St _ _ _ _ [mx 22 3 none ((([] : List (List Int))).length) 0 (fun _ => (none, 0)) ([] : List (List Int))] at hS
   refine ⟨_, rfl, Fin.nil ?_⟩
   exact ⟨_, hS.ext, (hS.pick [0] rfl).rows, News.of (hS.pick [0] rfl).rows rfl, ⟨([] : List (List Int)), (6 : Int), none, 0, (fun _ => (none, 0)), (by first | (rw [show (Value.slice none 0 0) = Value.slice none (([] : List (List Int))).length 0 from sm0 hm0.symm]; done) | (rw [show (Value.slice none 0 0) = Value.slice none (([] : List (List Int))).length 0 from sm0 hm0.symm]; rfl)), rfl, hv⟩⟩
  have hv := hv.2 g16
  rw [decide_eq_false g16]
  refine WL.take rfl <| WL.move rfl rfl <| WL.take rfl <| WL.move rfl rfl <| WL.take rfl <| WL.gtrD rfl rfl rfl <| WL.pick rfl rfl rfl <| WL.done <| W.cond2 rfl (fun c18 => ?_) (fun c18 => ?_)
  ·have hv := hv.1 (of_decide_eq_true c18)
   refine W.seq <| W.region <| WL.assign rfl rfl <| WL.assign rfl rfl <| WL.done <| W.ret ?_
   have hS := hS.mxNil 22 3
   have hm0 := hS.mxlen (i := 0) rfl
   have hS := hS.relenMx (i := 0) rfl hm0.symm
   change St _ _ _ _ [mx 22 3 none ((([] : List (List Int))).length) 0 (fun _ => (none, 0)) ([] : List (List Int))] at hS
   refine ⟨_, rfl, Fin.nil ?_⟩
   exact ⟨_, hS.ext, (hS.pick [0] rfl).rows, News.of (hS.pick [0] rfl).rows rfl, ⟨([] : List (List Int)), (6 : Int), none, 0, (fun _ => (none, 0)), (by first | (rw [show (Value.slice none 0 0) = Value.slice none (([] : List (List Int))).length 0 from sm0 hm0.symm]; done) | (rw [show (Value.slice none 0 0) = Value.slice none (([] : List (List Int))).length 0 from sm0 hm0.symm]; rfl)), rfl, hv⟩⟩
  have hv := hv.2 (of_decide_eq_false c18)
  refine W.skip <| W.seq <| W.seq <| W.region <| WL.move rfl rfl <| WL.gtrD rfl rfl rfl <| WL.done <| W.cond2 rfl (fun c20 => ?_) (fun c20 => ?_)
  ·have hv := hv.1 (of_decide_eq_true c20)
   refine W.seq <| W.region <| WL.assign rfl rfl <| WL.assign rfl rfl <| WL.done <| W.ret ?_
   have hS := hS.mxNil 22 3
   have hm0 := hS.mxlen (i := 0) rfl
   have hS := hS.relenMx (i := 0) rfl hm0.symm
   change St _ _ _ _ [mx 22 3 none ((([] : List (List Int))).length) 0 (fun _ => (none, 0)) ([] : List (List Int))] at hS
   refine ⟨_, rfl, Fin.nil ?_⟩
   exact ⟨_, hS.ext, (hS.pick [0] rfl).rows, News.of (hS.pick [0] rfl).rows rfl, ⟨([] : List (List Int)), (8 : Int), none, 0, (fun _ => (none, 0)), (by first | (rw [show (Value.slice none 0 0) = Value.slice none (([] : List (List Int))).length 0 from sm0 hm0.symm]; done) | (rw [show (Value.slice none 0 0) = Value.slice none (([] : List (List Int))).length 0 from sm0 hm0.symm]; rfl)), rfl, hv⟩⟩
  have hv := hv.2 (of_decide_eq_false c20)
  refine W.skip <| W.seq <| W.region <| SL.lit1 (vs := []) hS XU67 XE22 rfl rfl rfl rfl (by simp [Value.oneCell']) rfl ?_
  intro A22 w23 hS
  have hS := St.mxLit (L := []) (eI := 3) [] [] (by simp [hcells, hsOf]) (by simp [inr, hsOf]) hS
  change St _ _ _ _ [mx 22 3 A22 0 0 (hsOf []) ([] : List (List Int))] at hS
  refine WL.assign rfl rfl <| WL.done <| W.seq <| W.region <| WL.move rfl rfl ?_
  obtain ⟨o25, hv⟩ := hv
  refine SL.make (J := k) hS XU22 XE3 rfl rfl o25 (made_is _) rfl ?_
  intro A26 w27 hS
  refine WL.assign rfl rfl <| WL.done <| W.seq <| W.seq <| W.region <| WL.assign rfl rfl <| WL.done <| W.block ?_
  obtain ⟨I35, μ36, hv, hk133⟩ := hv
  refine W.loop (σ := List Int × Int) (fun q w1 => match q with | (x33, z34) => I35 x33 z34 ∧ St TT w none w1 [.row 3 1 A26 k.toNat k.toNat (is x33), mx 22 3 A22 0 0 (hsOf []) ([] : List (List Int))]) (fun q => match q with | (x33, z34) => [(0, .int .i64 n), (1, .int .i64 k), (4, .slice none 0 0), (5, .int .i64 (0 : Int)), (6, .int .i64 r12), (8, .slice A22 0 0), (9, .slice A26 k.toNat k.toNat), (10, .int .i64 z34)]) (fun q => match q with | (x33, z34) => μ36 x33 z34) (List.replicate k.toNat (0 : Int), (0 : Int)) ⟨hv, hS⟩ ⟨rfl, rfl, rfl, rfl, rfl, rfl, rfl, rfl, trivial⟩ ?_
  rintro ⟨x33, z34⟩ w37 ⟨hv, hS⟩
  have hv := hk133 x33 z34 hv
  refine W.seq <| W.seq <| W.region <| WL.move rfl rfl <| WL.move rfl rfl <| WL.lssD rfl rfl rfl <| WL.done <| W.cond2 rfl (fun c38 => ?_) (fun c38 => ?_)
  ·have hv := hv.1 (of_decide_eq_true c38)
   refine W.skip <| W.seq <| W.block <| W.region <| WL.move rfl rfl <| WL.move rfl rfl <| WL.move rfl rfl ?_
   obtain ⟨o39, hv⟩ := hv
   refine SL.index XU22 XE3 (hS.rd (i := 0) rfl) rfl rfl o39 rfl <| SL.store (cs' := is (si x33 z34 z34)) 0 z34.toNat hS rfl XE3 rfl rfl rfl (is_lt (hS.rd (i := 0) rfl) o39) (is_set _ _ _) ?_
   intro w40 hS
   refine WL.done <| W.region <| WL.move rfl rfl ?_
   obtain ⟨o41, hv⟩ := hv
   refine WL.add (r := (z34 + (1 : Int))) rfl rfl (wr o41) rfl <| WL.assign rfl rfl <| WL.done ?_
   exact ⟨(si x33 z34 z34, (z34 + (1 : Int))), ⟨rfl, rfl, rfl, rfl, rfl, rfl, rfl, rfl, trivial⟩, hv.2, rfl, hv.1, hS⟩
  have hv := hv.2 (of_decide_eq_false c38)
  refine W.exit <| W.seq <| W.seq <| W.region <| WL.assign rfl rfl <| WL.done <| W.block ?_
  obtain ⟨I60, μ61, hv, hk132⟩ := hv
  have hm1 : 0 = ([] : List (List Int)).length := (hS.mxlen (i := 1) rfl).symm
  have hS := hS.relenMx (i := 1) rfl hm1
  change St _ _ _ _ [.row 3 1 A26 k.toNat k.toNat (is x33), mx 22 3 A22 ([] : List (List Int)).length 0 (hsOf []) ([] : List (List Int))] at hS
  refine W.loop (σ := List Int × List (List Int) × Int × Option Addr × Nat × Hs) (fun q w1 => match q with | (x54, x55, z59, A56, k57, hs58) => I60 x54 x55 z59 ∧ St TT w none w1 [.row 3 1 A26 k.toNat k.toNat (is x54), mx 22 3 A56 x55.length k57 hs58 x55]) (fun q => match q with | (x54, x55, z59, A56, k57, hs58) => [(0, .int .i64 n), (1, .int .i64 k), (4, .slice none 0 0), (5, .int .i64 (0 : Int)), (6, .int .i64 r12), (8, .slice A56 x55.length k57), (9, .slice A26 k.toNat k.toNat), (11, .int .i64 z59)]) (fun q => match q with | (x54, x55, z59, A56, k57, hs58) => μ61 x54 x55 z59) (x33, ([] : List (List Int)), (0 : Int), A22, 0, (hsOf [])) ⟨hv, hS⟩ ⟨rfl, rfl, rfl, rfl, rfl, (sm (by first | rfl | assumption | omega)), rfl, rfl, trivial⟩ ?_
  rintro ⟨x54, x55, z59, A56, k57, hs58⟩ w62 ⟨hv, hS⟩
  have hv := hk132 x54 x55 z59 hv
  refine W.seq <| W.seq <| W.region <| WL.move rfl rfl <| WL.move rfl rfl <| WL.lssD rfl rfl rfl <| WL.done <| W.cond2 rfl (fun c63 => ?_) (fun c63 => ?_)
  ·have hv := hv.1 (of_decide_eq_true c63)
   refine W.skip <| W.seq ?_
   obtain ⟨J72, hv, hk131⟩ := hv
   refine W.cutN (σ := List Int × List (List Int) × Int × Bool × Bool × Option Addr × Nat × Hs) (fun q w1 => match q with | (x64, x65, z69, b70, b71, A66, k67, hs68) => J72 x64 x65 z69 b70 b71 ∧ St TT w none w1 [.row 3 1 A26 k.toNat k.toNat (is x64), mx 22 3 A66 x65.length k67 hs68 x65]) (fun q => match q with | (x64, x65, z69, b70, b71, A66, k67, hs68) => [(0, .int .i64 n), (1, .int .i64 k), (4, .slice none 0 0), (5, .int .i64 (0 : Int)), (6, .int .i64 r12), (8, .slice A66 x65.length k67), (9, .slice A26 k.toNat k.toNat), (11, .int .i64 z59), (12, .int .i64 z69), (46, .bool (decide (z59 < r12))), (70, .bool b70), (74, .bool b71)]) ?_ ?_
   ·refine W.block ?_
    refine W.seq <| W.region <| WL.move rfl rfl <| SL.lit1 (vs := is ([] : List Int)) hS XU22 XE3 rfl rfl rfl rfl (is_one _) rfl ?_
    intro A73 w74 hS
    refine WL.move rfl rfl ?_
    obtain ⟨o76, hv⟩ := hv
    refine SL.append (cs := is ([] : List Int)) (cs' := is x54) 0 ((([] : List Int) ++ x54).length) (is (([] : List Int) ++ x54)) hS rfl XU22 XE3 (hS.rd (i := 1) rfl) (is_one _) rfl rfl (apk o76).1 (apk o76).2 (is_ap (hS.rd (i := 0) rfl) (hS.rd (i := 1) rfl)) (is_append _ _) rfl ?_
    intro A77 k78 w79 hS
    refine SL.lit1 (vs := [.slice A77 ((([] : List Int) ++ x54).length) k78]) hS XU67 XE22 rfl rfl rfl rfl (by simp [Value.oneCell']) rfl ?_
    intro A80 w81 hS
    obtain ⟨o83, hv⟩ := hv
    have hS := hS.pick [3, 0, 1, 2] rfl
    have hS := hS.pick [1, 2, 0, 3] rfl
    have hS := St.mxOne (hS.rd (i := 1) rfl).ilen.symm hS
    change St _ _ _ _ [mx 22 3 A80 1 1 (fun _ => (A77, k78)) [([] : List Int) ++ x54], mx 22 3 A56 x55.length k57 hs58 x55, .row 3 1 A26 k.toNat k.toNat (is x54)] at hS
    refine SL.appendMx hS XU67 XE22 rfl rfl (apk o83).1 (apk o83).2 rfl ?_
    intro A84 k85 w86 hS
    refine WL.assign rfl rfl <| WL.done <| W.seq <| W.region <| WL.move rfl rfl ?_
    obtain ⟨o87, hv⟩ := hv
    refine WL.sub (r := (k - (1 : Int))) rfl rfl (wr o87) rfl <| WL.assign rfl rfl <| WL.done <| W.seq ?_
    obtain ⟨J90, hv, hk128⟩ := hv
    refine W.cutN (σ := Int × Bool) (fun q w1 => match q with | (z88, b89) => J90 z88 b89 ∧ St TT w none w1 [mx 22 3 A84 ((x55 ++ [([] : List Int) ++ x54]).length) k85 (apHs x55.length hs58 (fun _ => (A77, k78))) (x55 ++ [([] : List Int) ++ x54]), .row 3 1 A26 k.toNat k.toNat (is x54)]) (fun q => match q with | (z88, b89) => [(0, .int .i64 n), (1, .int .i64 k), (4, .slice none 0 0), (5, .int .i64 (0 : Int)), (6, .int .i64 r12), (8, .slice A84 ((x55 ++ [([] : List Int) ++ x54]).length) k85), (9, .slice A26 k.toNat k.toNat), (11, .int .i64 z59), (12, .int .i64 z88), (46, .bool (decide (z59 < r12))), (70, .bool b89)]) ?_ ?_
    ·refine W.block ?_
     obtain ⟨I94, μ95, hv, hk103⟩ := hv
     refine W.loop (σ := Int) (fun z93 w1 => I94 z93 ∧ St TT w none w1 [mx 22 3 A84 ((x55 ++ [([] : List Int) ++ x54]).length) k85 (apHs x55.length hs58 (fun _ => (A77, k78))) (x55 ++ [([] : List Int) ++ x54]), .row 3 1 A26 k.toNat k.toNat (is x54)]) (fun z93 => [(0, .int .i64 n), (1, .int .i64 k), (4, .slice none 0 0), (5, .int .i64 (0 : Int)), (6, .int .i64 r12), (8, .slice A84 ((x55 ++ [([] : List Int) ++ x54]).length) k85), (9, .slice A26 k.toNat k.toNat), (11, .int .i64 z59), (12, .int .i64 z93), (46, .bool (decide (z59 < r12)))]) (fun z93 => μ95 z93) (k - (1 : Int)) ⟨hv, hS⟩ ⟨rfl, rfl, rfl, rfl, rfl, rfl, rfl, rfl, rfl, rfl, trivial⟩ ?_
     rintro z93 w96 ⟨hv, hS⟩
     have hv := hk103 z93 hv
     refine W.seq <| W.seq <| W.region <| WL.move rfl rfl <| WL.geqD rfl rfl rfl <| WL.move rfl rfl ?_
     by_cases g97 : (0 : Int) ≤ z93
     ·have hv := hv.1 g97
      rw [decide_eq_true g97]
      refine WL.take rfl <| WL.move rfl rfl <| WL.take rfl <| WL.move rfl rfl <| WL.take rfl ?_
      obtain ⟨o98, hv⟩ := hv
      refine SL.index XU22 XE3 (hS.rd (i := 1) rfl) rfl rfl o98 rfl <| WL.take rfl <| WL.load XU3 rfl rfl (Rd.gi (hS.rd (i := 1) rfl) o98) rfl <| WL.take rfl <| WL.move rfl rfl <| WL.take rfl <| WL.move rfl rfl <| WL.take rfl ?_
      obtain ⟨o99, hv⟩ := hv
      refine WL.sub (r := (n - k)) rfl rfl (wr o99) rfl <| WL.take rfl <| WL.move rfl rfl <| WL.take rfl ?_
      obtain ⟨o100, hv⟩ := hv
      refine WL.add (r := ((n - k) + z93)) rfl rfl (wr o100) rfl <| WL.take rfl <| WL.eqlD rfl rfl rfl <| WL.pick rfl rfl rfl <| WL.done <| W.cond2 rfl (fun c101 => ?_) (fun c101 => ?_)
      ·have hv := hv.1 (of_decide_eq_true c101)
       refine W.skip <| W.block <| W.region <| WL.move rfl rfl ?_
       obtain ⟨o102, hv⟩ := hv
       refine WL.sub (r := (z93 - (1 : Int))) rfl rfl (wr o102) rfl <| WL.assign rfl rfl <| WL.done ?_
       exact ⟨(z93 - (1 : Int)), ⟨rfl, rfl, rfl, rfl, rfl, rfl, rfl, rfl, rfl, rfl, trivial⟩, hv.2, rfl, hv.1, hS⟩
      have hv := hv.2 (of_decide_eq_false c101)
      refine W.exit ?_
      exact ⟨(z93, (decide ((gi x54 z93) = ((n - k) + z93)))), ⟨rfl, rfl, rfl, rfl, rfl, rfl, rfl, rfl, rfl, rfl, rfl, trivial⟩, rfl, hv, hS⟩
     have hv := hv.2 g97
     rw [decide_eq_false g97]
     refine WL.pass rfl rfl rfl <| WL.pass rfl rfl rfl <| WL.pass rfl rfl rfl <| WL.pass rfl rfl rfl <| WL.pass rfl rfl rfl <| WL.pass rfl rfl rfl <| WL.pass rfl rfl rfl <| WL.pass rfl rfl rfl <| WL.pass rfl rfl rfl <| WL.pass rfl rfl rfl <| WL.pick rfl rfl rfl <| WL.done <| W.condF rfl <| W.exit ?_
     exact ⟨(z93, false), ⟨rfl, rfl, rfl, rfl, rfl, rfl, rfl, rfl, rfl, rfl, rfl, trivial⟩, rfl, hv, hS⟩
    rintro ⟨z88, b89⟩ w104 ⟨hv, hS⟩
    have hv := hk128 z88 b89 hv
    refine W.seq <| W.region <| WL.move rfl rfl <| WL.geqD rfl rfl rfl <| WL.done <| W.cond2 rfl (fun c105 => ?_) (fun c105 => ?_)
    ·have hv := hv.1 (of_decide_eq_true c105)
     refine W.seq <| W.region <| WL.move rfl rfl <| WL.move rfl rfl ?_
     obtain ⟨o106, hv⟩ := hv
     refine SL.index XU22 XE3 (hS.rd (i := 1) rfl) rfl rfl o106 rfl <| WL.load XU3 rfl rfl (Rd.gi (hS.rd (i := 1) rfl) o106) rfl ?_
     obtain ⟨o107, hv⟩ := hv
     refine WL.add (r := ((gi x54 z88) + (1 : Int))) rfl rfl (wr o107) rfl ?_
     obtain ⟨o108, hv⟩ := hv
     refine SL.index XU22 XE3 (hS.rd (i := 1) rfl) rfl rfl o108 rfl <| SL.store (cs' := is (si x54 z88 ((gi x54 z88) + (1 : Int)))) 1 z88.toNat hS rfl XE3 rfl rfl rfl (is_lt (hS.rd (i := 1) rfl) o108) (is_set _ _ _) ?_
     intro w109 hS
     refine WL.done <| W.seq <| W.region <| WL.move rfl rfl ?_
     obtain ⟨o110, hv⟩ := hv
     refine WL.add (r := (z88 + (1 : Int))) rfl rfl (wr o110) rfl <| WL.assign rfl rfl <| WL.done <| W.block ?_
     obtain ⟨I117, μ118, hv, hk127⟩ := hv
     refine W.loop (σ := List Int × Int) (fun q w1 => match q with | (x115, z116) => I117 x115 z116 ∧ St TT w none w1 [mx 22 3 A84 ((x55 ++ [([] : List Int) ++ x54]).length) k85 (apHs x55.length hs58 (fun _ => (A77, k78))) (x55 ++ [([] : List Int) ++ x54]), .row 3 1 A26 k.toNat k.toNat (is x115)]) (fun q => match q with | (x115, z116) => [(0, .int .i64 n), (1, .int .i64 k), (4, .slice none 0 0), (5, .int .i64 (0 : Int)), (6, .int .i64 r12), (8, .slice A84 ((x55 ++ [([] : List Int) ++ x54]).length) k85), (9, .slice A26 k.toNat k.toNat), (11, .int .i64 z59), (12, .int .i64 z88), (13, .int .i64 z116), (46, .bool (decide (z59 < r12))), (70, .bool b89), (74, .bool (decide ((0 : Int) ≤ z88)))]) (fun q => match q with | (x115, z116) => μ118 x115 z116) (si x54 z88 ((gi x54 z88) + (1 : Int)), (z88 + (1 : Int))) ⟨hv, hS⟩ ⟨rfl, rfl, rfl, rfl, rfl, rfl, rfl, rfl, rfl, rfl, rfl, rfl, rfl, trivial⟩ ?_
     rintro ⟨x115, z116⟩ w119 ⟨hv, hS⟩
     have hv := hk127 x115 z116 hv
     refine W.seq <| W.seq <| W.region <| WL.move rfl rfl <| WL.move rfl rfl <| WL.lssD rfl rfl rfl <| WL.done <| W.cond2 rfl (fun c120 => ?_) (fun c120 => ?_)
     ·have hv := hv.1 (of_decide_eq_true c120)
      refine W.skip <| W.seq <| W.block <| W.region <| WL.move rfl rfl <| WL.move rfl rfl <| WL.move rfl rfl <| WL.move rfl rfl ?_
      obtain ⟨o121, hv⟩ := hv
      refine WL.sub (r := (z116 - (1 : Int))) rfl rfl (wr o121) rfl ?_
      obtain ⟨o122, hv⟩ := hv
      refine SL.index XU22 XE3 (hS.rd (i := 1) rfl) rfl rfl o122 rfl <| WL.load XU3 rfl rfl (Rd.gi (hS.rd (i := 1) rfl) o122) rfl ?_
      obtain ⟨o123, hv⟩ := hv
      refine WL.add (r := ((gi x115 (z116 - (1 : Int))) + (1 : Int))) rfl rfl (wr o123) rfl ?_
      obtain ⟨o124, hv⟩ := hv
      refine SL.index XU22 XE3 (hS.rd (i := 1) rfl) rfl rfl o124 rfl <| SL.store (cs' := is (si x115 z116 ((gi x115 (z116 - (1 : Int))) + (1 : Int)))) 1 z116.toNat hS rfl XE3 rfl rfl rfl (is_lt (hS.rd (i := 1) rfl) o124) (is_set _ _ _) ?_
      intro w125 hS
      refine WL.done <| W.region <| WL.move rfl rfl ?_
      obtain ⟨o126, hv⟩ := hv
      refine WL.add (r := (z116 + (1 : Int))) rfl rfl (wr o126) rfl <| WL.assign rfl rfl <| WL.done ?_
      exact ⟨(si x115 z116 ((gi x115 (z116 - (1 : Int))) + (1 : Int)), (z116 + (1 : Int))), ⟨rfl, rfl, rfl, rfl, rfl, rfl, rfl, rfl, rfl, rfl, rfl, rfl, rfl, trivial⟩, hv.2, rfl, hv.1, hS⟩
     have hv := hv.2 (of_decide_eq_false c120)
     refine W.exit ?_
     have hS := hS.pick [1, 0] rfl
     exact ⟨(x115, x55 ++ [([] : List Int) ++ x54], z88, b89, (decide ((0 : Int) ≤ z88)), A84, k85, (apHs x55.length hs58 (fun _ => (A77, k78)))), ⟨rfl, rfl, rfl, rfl, rfl, rfl, rfl, rfl, rfl, rfl, rfl, rfl, trivial⟩, rfl, hv, hS⟩
    have hv := hv.2 (of_decide_eq_false c105)
    refine W.skip ?_
    have hS := hS.pick [1, 0] rfl
    exact ⟨(x54, x55 ++ [([] : List Int) ++ x54], z88, b89, (decide ((0 : Int) ≤ z88)), A84, k85, (apHs x55.length hs58 (fun _ => (A77, k78)))), ⟨rfl, rfl, rfl, rfl, rfl, rfl, rfl, rfl, rfl, rfl, rfl, rfl, trivial⟩, rfl, hv, hS⟩
   rintro ⟨x64, x65, z69, b70, b71, A66, k67, hs68⟩ w129 ⟨hv, hS⟩
   have hv := hk131 x64 x65 z69 b70 b71 hv
   refine W.region <| WL.move rfl rfl ?_
   obtain ⟨o130, hv⟩ := hv
   refine WL.add (r := (z59 + (1 : Int))) rfl rfl (wr o130) rfl <| WL.assign rfl rfl <| WL.done ?_
   exact ⟨(x64, x65, (z59 + (1 : Int)), A66, k67, hs68), ⟨rfl, rfl, rfl, rfl, rfl, rfl, rfl, rfl, trivial⟩, hv.2, rfl, hv.1, hS⟩
  have hv := hv.2 (of_decide_eq_false c63)
  refine W.exit <| W.seq <| W.region <| WL.move rfl rfl <| WL.assign rfl rfl <| WL.assign rfl rfl <| WL.done <| W.ret ?_
  have hS := hS.pick [1, 0] rfl
  change St _ _ _ _ [mx 22 3 A56 x55.length k57 hs58 x55, .row 3 1 A26 k.toNat k.toNat (is x54)] at hS
  refine ⟨_, rfl, Fin.nil ?_⟩
  exact ⟨_, hS.ext, (hS.pick [0] rfl).rows, News.of (hS.pick [0] rfl).rows rfl, ⟨x55, (0 : Int), A56, k57, hs58, rfl, rfl, hv⟩⟩
def V_rSameLists (a : List (List Int)) (b : List (List Int)) (Q : Bool → Prop) : Prop :=
  ((((a.length : Nat) : Int) ≠ ((b.length : Nat) : Int)) → Q false) ∧ (¬ (((a.length : Nat) : Int) ≠ ((b.length : Nat) : Int)) → (∃ (I15 : Int → Prop) (μ16 : Int → Nat), I15 (0 : Int) ∧ ∀ (z14 : Int), (I15 z14 → (((z14 < ((a.length : Nat) : Int)) → ((0 ≤ z14 ∧ z14 < (a.length : Nat)) ∧ ((0 ≤ z14 ∧ z14 < (b.length : Nat)) ∧ (∃ (r30 : Int), V_rCompare (gl a z14) (gl b z14) (fun q => q = r30) ∧ (((r30 ≠ (0 : Int)) → Q false) ∧ (¬ (r30 ≠ (0 : Int)) → ((I64 (z14 + (1 : Int))) ∧ (I15 (z14 + (1 : Int)) ∧ μ16 (z14 + (1 : Int)) < μ16 z14)))))))) ∧ (¬ (z14 < ((a.length : Nat) : Int)) → Q true)))))
theorem ok_rSameLists {w : World} {Q : Bool → Prop} {a : List (List Int)} {b : List (List Int)} {Aa : Option Addr} {na ka : Nat} (ha : Rl w Aa na ka a) {Ab : Option Addr} {nb kb : Nat} (hb : Rl w Ab nb kb b) (hv : V_rSameLists a b Q) :
    Calls Try.prog 49 #[.slice Aa na ka, .slice Ab nb kb] w fun e w' => ∃ v Qr, e = .returned v ∧ w.grownBy w' none ∧ Rows w.heap.size none w' Qr ∧ News w.heap.size Qr ∧ ∃ (r0 : Bool), v = .bool r0 ∧ Qr = [] ∧ Q r0 := by
  have hna := ha.len
  subst hna
  obtain ⟨hsa, hHa⟩ := ha.heads
  have hnb := hb.len
  subst hnb
  obtain ⟨hsb, hHb⟩ := hb.heads
  refine calls_swap <| calls_of_W (vs := [.slice Aa a.length ka, .slice Ab b.length kb]) [4] XF49 rfl rfl rfl rfl ?_
  have hS := St.start w
  unfold V_rSameLists at hv
  refine W.seq <| W.region <| WL.assign rfl rfl <| WL.done <| W.seq <| W.seq <| W.region <| WL.move rfl rfl <| WL.len XU67 rfl rfl <| WL.move rfl rfl <| WL.len XU67 rfl rfl <| WL.neqD rfl rfl rfl <| WL.done <| W.cond2 rfl (fun c11 => ?_) (fun c11 => ?_)
  ·have hv := hv.1 (of_decide_eq_true c11)
   refine W.seq <| W.region <| WL.assign rfl rfl <| WL.done <| W.ret <| ⟨_, rfl, Fin.nil ?_⟩
   exact ⟨_, hS.ext, (hS.pick [] rfl).rows, News.of (hS.pick [] rfl).rows rfl, ⟨false, rfl, rfl, hv⟩⟩
  have hv := hv.2 (of_decide_eq_false c11)
  refine W.skip <| W.seq <| W.seq <| W.region <| WL.assign rfl rfl <| WL.done <| W.block ?_
  obtain ⟨I15, μ16, hv, hk37⟩ := hv
  refine W.loop (σ := Int) (fun z14 w1 => I15 z14 ∧ St TT w none w1 []) (fun z14 => [(0, .slice Aa a.length ka), (1, .slice Ab b.length kb), (4, .bool false), (5, .int .i64 z14)]) (fun z14 => μ16 z14) (0 : Int) ⟨hv, hS⟩ ⟨rfl, rfl, rfl, rfl, trivial⟩ ?_
  rintro z14 w17 ⟨hv, hS⟩
  have hv := hk37 z14 hv
  refine W.seq <| W.seq <| W.region <| WL.move rfl rfl <| WL.move rfl rfl <| WL.len XU67 rfl rfl <| WL.lssD rfl rfl rfl <| WL.done <| W.cond2 rfl (fun c18 => ?_) (fun c18 => ?_)
  ·have hv := hv.1 (of_decide_eq_true c18)
   refine W.skip <| W.seq <| W.block <| W.seq ?_
   obtain ⟨o22, hv⟩ := hv
   obtain ⟨o27, hv⟩ := hv
   obtain ⟨r30, o32, hv⟩ := hv
   refine W.drawV 10 [⟨[], [0], true⟩, ⟨[], [5], true⟩, ⟨[0, 1], [], true⟩, ⟨[2], [], false⟩, ⟨[], [1], true⟩, ⟨[], [5], true⟩, ⟨[4, 5], [], true⟩, ⟨[6], [], false⟩, ⟨[3, 7], [], false⟩, ⟨[8], [], true⟩] [[(0, .slice Aa a.length ka)], [(5, .int .i64 z14)], [], [], [(1, .slice Ab b.length kb)], [(5, .int .i64 z14)], [], [], [], []] [(17, .slice Aa a.length ka), (18, .int .i64 z14), (19, .pointer (some ((adOf Aa).add z14.toNat))), (20, .slice ((hsa z14.toNat).1) ((gl a z14).length) ((hsa z14.toNat).2)), (21, .slice Ab b.length kb), (22, .int .i64 z14), (23, .pointer (some ((adOf Ab).add z14.toNat))), (24, .slice ((hsb z14.toNat).1) ((gl b z14).length) ((hsb z14.toNat).2)), (25, .int .i64 r30), (26, .bool (decide (r30 ≠ (0 : Int))))] Try.mixed (by kernel_rfl) rfl rfl ?_ ?_
   · refine ⟨⟨rfl, ⟨rfl, trivial⟩, fun _ _ _ => WL.move rfl rfl <| WL.done ⟨rfl, rfl⟩⟩, ⟨rfl, ⟨rfl, trivial⟩, fun _ _ _ => WL.move rfl rfl <| WL.done ⟨rfl, rfl⟩⟩, ⟨rfl, trivial, fun _ _ _ => SL.indexR XU67 XE22 hHa rfl rfl o22 rfl <| WL.done ⟨rfl, rfl⟩⟩, ⟨rfl, trivial, fun _ hE _ => have hS := hS.grow (hE rfl); WL.load XU22 rfl rfl (hS.cell (RlH.cell hHa o22)) rfl <| WL.done ⟨rfl, ext_refl _⟩⟩, ⟨rfl, ⟨rfl, trivial⟩, fun _ _ _ => WL.move rfl rfl <| WL.done ⟨rfl, rfl⟩⟩, ⟨rfl, ⟨rfl, trivial⟩, fun _ _ _ => WL.move rfl rfl <| WL.done ⟨rfl, rfl⟩⟩, ⟨rfl, trivial, fun _ _ _ => SL.indexR XU67 XE22 hHb rfl rfl o27 rfl <| WL.done ⟨rfl, rfl⟩⟩, ⟨rfl, trivial, fun _ hE _ => have hS := hS.grow (hE rfl); WL.load XU22 rfl rfl (hS.cell (RlH.cell hHb o27)) rfl <| WL.done ⟨rfl, ext_refl _⟩⟩, ⟨rfl, trivial, ?_⟩, ⟨rfl, trivial, fun _ _ _ => WL.neqD rfl rfl rfl <| WL.done ⟨rfl, rfl⟩⟩, trivial⟩
     intro w29 hE RR
     have hS := hS.grow (hE rfl)
     refine WL.call XF34 rfl XN34 rfl rfl (calls_un (ok_rCompare (hS.ro (RlH.row hHa o22)) (hS.ro (RlH.row hHb o27)) o32)) ?_
     rintro _ w31 ⟨_, hGw31, hRww31, hNww31, r30q, rfl, rfl, he⟩
     subst he
     exact WL.done ⟨rfl, hGw31⟩
   intro w34 hT
   have hS := hS.grow hT
   refine WA.done (by decide +kernel) <| W.cond2 rfl (fun c35 => ?_) (fun c35 => ?_)
   ·have hv := hv.1 (of_decide_eq_true c35)
    refine W.seq <| W.region <| WL.assign rfl rfl <| WL.done <| W.ret <| ⟨_, rfl, Fin.nil ?_⟩
    exact ⟨_, hS.ext, (hS.pick [] rfl).rows, News.of (hS.pick [] rfl).rows rfl, ⟨false, rfl, rfl, hv⟩⟩
   have hv := hv.2 (of_decide_eq_false c35)
   refine W.skip <| W.region <| WL.move rfl rfl ?_
   obtain ⟨o36, hv⟩ := hv
   refine WL.add (r := (z14 + (1 : Int))) rfl rfl (wr o36) rfl <| WL.assign rfl rfl <| WL.done ?_
   exact ⟨(z14 + (1 : Int)), ⟨rfl, rfl, rfl, rfl, trivial⟩, hv.2, rfl, hv.1, hS⟩
  have hv := hv.2 (of_decide_eq_false c18)
  refine W.exit <| W.seq <| W.region <| WL.assign rfl rfl <| WL.done <| W.ret <| ⟨_, rfl, Fin.nil ?_⟩
  exact ⟨_, hS.ext, (hS.pick [] rfl).rows, News.of (hS.pick [] rfl).rows rfl, ⟨true, rfl, rfl, hv⟩⟩
end Go.Proofs.Ytcmfjjbbcfddpaa
set_option linter.unusedVariables false
set_option linter.unusedSimpArgs false
namespace Go.Proofs.Ytcmfjjbbcfddpaa
theorem asd_len (s : List Int) (i : Nat) (x : Int) : (asd s i x).length = s.length := by simp [asd]
theorem asd_at {s : List Int} {i t : Nat} {x : Int} (h : t < s.length) : vo (asd s i x) t = if t < i then vo s t else x + ((t - i : Nat) : Int) := by
  unfold asd
  show List.getD _ _ _ = _
  rw [List.getD_eq_getElem?_getD, List.getElem?_map, List.getElem?_range h]; rfl
/-- what a loop that ascends has done so far -/
def AsI (s : List Int) (i : Nat) (x : Int) (y : List Int) (k : Nat) : Prop := y.length = s.length ∧ ∀ t, t < s.length → vo y t = if t < i then vo s t else if t < i + k then x + ((t - i : Nat) : Int) else vo s t
theorem asi_start (s : List Int) (i : Nat) (x : Int) : AsI s i x s 0 := ⟨rfl, fun t ht => by
  by_cases c : t < i
  · rw [if_pos c]
  · rw [if_neg c, if_neg (by omega)]⟩
theorem asi_step {s y : List Int} {i k : Nat} {x z : Int} (h : AsI s i x y k) (hk : i + k < s.length) (hz : z = x + (k : Int)) : AsI s i x (y.set (i + k) z) (k + 1) := by
  subst hz
  refine ⟨by rw [List.length_set, h.1], fun t ht => ?_⟩
  rw [vo_set, h.2 t ht]
  by_cases e : i + k = t
  · subst e
    rw [if_pos ⟨rfl, by rw [h.1]; exact hk⟩, if_neg (by omega), if_pos (by omega), Nat.add_sub_cancel_left]
  · rw [if_neg (fun c => e c.1)]
    by_cases c : t < i
    · rw [if_pos c, if_pos c]
    · rw [if_neg c, if_neg c]
      by_cases d : t < i + k
      · rw [if_pos d, if_pos (by omega)]
      · rw [if_neg d, if_neg (by omega)]
theorem asi_end {s y : List Int} {i k : Nat} {x : Int} (h : AsI s i x y k) (hk : s.length ≤ i + k) : y = asd s i x :=
  vo_ext (by rw [h.1, asd_len]) fun t ht => by
    rw [h.1] at ht
    rw [h.2 t ht, asd_at ht]
    split
    · rfl
    · rw [if_pos (by omega)]
theorem v_ascend {s : List Int} {o : Nat} {x : Int} {Q : List Int → Prop} (ho : o ≤ s.length) (hl : s.length ≤ 1000) (hx : -1000 ≤ x ∧ x ≤ 1000) (h : Q (asd s o x)) : V_ascend s o x Q := by
  refine ⟨fun y z => ∃ k : Nat, z = k ∧ o + k ≤ s.length ∧ AsI s o x y k, fun y z => (s.length - z).toNat, ⟨0, rfl, by omega, asi_start s o x⟩, ?_⟩
  rintro y _ ⟨k, rfl, hk, hI⟩
  dsimp only
  rw [Int.toNat_natCast, si_nat]
  refine ⟨fun hlt => ⟨⟨by omega, by omega⟩, ⟨by omega, by omega⟩, ⟨by omega, by omega⟩, ⟨k + 1, by push_cast; rfl, by omega, asi_step hI (by omega) rfl⟩, by omega⟩, fun hge => by rw [asi_end hI (by omega)]; exact h⟩
theorem v_ascend0 {s : List Int} {x : Int} {Q : List Int → Prop} (hl : s.length ≤ 1000) (hx : -1000 ≤ x ∧ x ≤ 1000) (h : Q (asd s 0 x)) : V_ascend0 s x Q := by
  refine ⟨fun y z => ∃ k : Nat, z = k ∧ k ≤ s.length ∧ AsI s 0 x y k, fun y z => (s.length - z).toNat, ⟨0, rfl, by omega, asi_start s 0 x⟩, ?_⟩
  rintro y _ ⟨k, rfl, hk, hI⟩
  dsimp only
  rw [si_nat]
  refine ⟨fun hlt => ⟨⟨by omega, by omega⟩, ⟨by omega, by omega⟩, ⟨by omega, by omega⟩, ⟨k + 1, by push_cast; rfl, by omega, ?_⟩, by omega⟩, fun hge => by rw [asi_end hI (by omega)]; exact h⟩
  have := asi_step (z := x + (k : Int)) hI (by omega) rfl
  rwa [Nat.zero_add] at this
def nxt (n : Int) (s : List Int) : List Int := ad n s s.length
def Fit (n : Int) (s : List Int) : Prop := ∀ t, t < s.length → 0 ≤ vo s t ∧ vo s t ≤ n - (s.length : Int) + (t : Int)
theorem v_advance {n : Int} {s : List Int} {Q : List Int → Prop} (hn : 0 ≤ n ∧ n ≤ 64) (hl : s.length ≤ 64) (hf : Fit n s) (h : Q (nxt n s)) : V_advance n s Q := by
  refine ⟨⟨by omega, by omega⟩, fun z => ∃ i : Nat, z = (i : Int) - 1 ∧ i ≤ s.length ∧ nxt n s = ad n s i, fun z => (z + 1).toNat, ⟨s.length, rfl, Nat.le_refl _, rfl⟩, ?_⟩
  rintro _ ⟨i, rfl, hi, hx⟩
  dsimp only
  refine ⟨fun h0 => ?_, fun h0 => ?_⟩
  · obtain ⟨i, rfl⟩ : ∃ j, i = j + 1 := ⟨i - 1, by omega⟩
    rw [show ((i + 1 : Nat) : Int) - 1 = (i : Int) by omega] at h0 ⊢
    rw [gi_nat]
    obtain ⟨f1, f2⟩ := hf i (by omega)
    refine ⟨⟨by omega, by omega⟩, ⟨by omega, by omega⟩, ⟨by omega, by omega⟩, fun c => ⟨⟨by omega, by omega⟩, ⟨by omega, by omega⟩, ⟨by omega, by omega⟩, ?_⟩, fun c => ⟨⟨by omega, by omega⟩, ⟨i, rfl, by omega, ?_⟩, by omega⟩⟩
    · rw [Int.toNat_natCast]
      refine v_ascend (by omega) (by omega) ⟨by omega, by omega⟩ ?_
      rw [hx, ad, if_pos c] at h; exact h
    · rw [hx, ad, if_neg c]
  · obtain rfl : i = 0 := by omega
    rw [hx] at h; exact h
theorem fit_asd {n : Int} {s : List Int} {i : Nat} (hf : Fit n s) (hi : i < s.length) (hc : vo s i < n - (s.length : Int) + (i : Int)) : Fit n (asd s i (vo s i + 1)) := by
  intro t ht
  rw [asd_len] at ht ⊢
  rw [asd_at ht]
  have := hf i hi
  split
  · exact hf t ht
  · omega
theorem fit_ad {n : Int} {s : List Int} (hf : Fit n s) : ∀ i, i ≤ s.length → Fit n (ad n s i) ∧ (ad n s i).length = s.length
  | 0, _ => ⟨hf, rfl⟩
  | i + 1, h => by
    unfold ad
    split
    · rename_i c; exact ⟨fit_asd hf (by omega) c, asd_len _ _ _⟩
    · exact fit_ad hf i (by omega)
def itr (n k : Nat) : Nat → List Int
  | 0 => asd (List.replicate k 0) 0 0
  | t + 1 => nxt n (itr n k t)
theorem itr_fit {n k : Nat} (h : k ≤ n) : ∀ t, Fit n (itr n k t) ∧ (itr n k t).length = k
  | 0 => by
    have hl : (asd (List.replicate k (0 : Int)) 0 0).length = k := by rw [asd_len, List.length_replicate]
    refine ⟨fun t ht => ?_, hl⟩
    unfold itr at ht ⊢
    rw [hl] at ht ⊢
    rw [asd_at (by rw [List.length_replicate]; exact ht), if_neg (by omega)]
    omega
  | t + 1 => by
    obtain ⟨i1, i2⟩ := itr_fit h t
    obtain ⟨f1, f2⟩ := fit_ad i1 _ (Nat.le_refl _)
    exact ⟨f1, f2.trans i2⟩
def subL (n k : Nat) : List (List Int) := (List.range (choose n k)).map (itr n k)
theorem subL_len (n k : Nat) : (subL n k).length = choose n k := by simp [subL]
def subS (n k : Int) : List (List Int) × Int := if k < 0 ∨ n < k ∨ 64 < n then ([], 6) else if 65536 < choose n.toNat k.toNat then ([], 8) else (subL n.toNat k.toNat, 0)
theorem gl_nat (l : List (List Int)) (i : Nat) : gl l (i : Int) = l.getD i [] := rfl
theorem v_Subsets {n k : Int} {Q : List (List Int) × Int → Prop} (hk : k ≤ 9223372036854775807) (h : Q (subS n k)) : V_Subsets n k Q := by
  refine v_countSubsets hk ?_
  unfold subS at h
  unfold csS
  by_cases c : k < 0 ∨ n < k ∨ 64 < n
  · rw [if_pos c]; rw [if_pos c] at h
    exact ⟨fun _ => h, fun e => absurd (by decide) e⟩
  · rw [if_neg c]; rw [if_neg c] at h
    refine ⟨fun e => absurd rfl e, fun _ => ⟨fun e => by rw [if_pos (by omega)] at h; exact h, fun e => ?_⟩⟩
    rw [if_neg (by omega)] at h
    obtain ⟨n, rfl⟩ : ∃ a : Nat, n = a := ⟨n.toNat, by omega⟩
    obtain ⟨k, rfl⟩ : ∃ a : Nat, k = a := ⟨k.toNat, by omega⟩
    simp only [Int.toNat_natCast] at h e ⊢
    refine ⟨⟨by omega, by omega, by omega⟩, ⟨by omega, by omega, by omega⟩, v_ascend0 (by simp; omega) ⟨by omega, by omega⟩ ?_⟩
    generalize hC : choose n k = C at *
    refine ⟨fun s l z => ∃ i : Nat, z = i ∧ i ≤ C ∧ s = itr n k i ∧ l.length = C ∧ ∀ t, t < i → l.getD t [] = itr n k t, fun s l z => (C - z).toNat, ⟨0, rfl, Nat.zero_le _, rfl, by simp, fun t ht => absurd ht (Nat.not_lt_zero _)⟩, ?_⟩
    rintro s l _ ⟨i, rfl, hi, rfl, hl, hv⟩
    dsimp only
    have es : ∀ x, sll l (i : Int) x = l.set i x := fun x => rfl
    simp only [es]
    obtain ⟨f1, f2⟩ := itr_fit (n := n) (k := k) (by omega) i
    refine ⟨fun hlt => v_clone (by rw [f2]; omega) ⟨⟨by omega, by omega⟩, v_advance ⟨by omega, by omega⟩ (by rw [f2]; omega) f1 ⟨⟨by omega, by omega⟩, ⟨i + 1, by push_cast; rfl, by omega, rfl, by rw [List.length_set, hl], fun t ht => ?_⟩, by omega⟩⟩, fun hge => ?_⟩
    · rw [List.getD_eq_getElem?_getD, List.getElem?_set]
      by_cases e : i = t
      · subst e; rw [if_pos rfl, if_pos (by omega)]; rfl
      · rw [if_neg e, ← List.getD_eq_getElem?_getD]; exact hv t (by omega)
    · have : l = subL n k := by
        refine List.ext_getElem (by rw [hl, subL_len, hC]) fun t h1 h2 => ?_
        have := hv t (by omega)
        rw [List.getD_eq_getElem?_getD, List.getElem?_eq_getElem h1] at this
        rw [show l[t] = itr n k t from this]
        simp [subL]
      rw [this]; exact h
theorem v_rSubsets {n k : Int} {Q : List (List Int) × Int → Prop} (h : Q (subS n k)) : V_rSubsets n k Q := by
  refine v_rBinomial ?_
  unfold subS at h
  unfold bS
  by_cases c : n < 0 ∨ 64 < n
  · rw [if_pos c]
    rw [if_pos (by omega)] at h
    exact ⟨fun _ => h, fun e => absurd (by decide) e⟩
  · rw [if_neg c]
    have hh : (k < 0 ∨ n < k ∨ 64 < n) → Q ([], 6) := fun e => by rw [if_pos e] at h; exact h
    by_cases c2 : k < 0
    · rw [if_pos c2]
      exact ⟨fun e => absurd rfl e, fun _ => ⟨fun _ => hh (.inl c2), fun e => absurd c2 e⟩⟩
    · rw [if_neg c2]
      refine ⟨fun e => absurd rfl e, fun _ => ⟨fun e => absurd e c2, fun _ => ⟨fun e => hh (.inr (.inl e)), fun e => ⟨fun e2 => ?_, fun e2 => ?_⟩⟩⟩⟩
      · rw [if_neg (by omega), if_pos (by omega)] at h; exact h
      rw [if_neg (by omega), if_neg (by omega)] at h
      obtain ⟨n, rfl⟩ : ∃ a : Nat, n = a := ⟨n.toNat, by omega⟩
      obtain ⟨k, rfl⟩ : ∃ a : Nat, k = a := ⟨k.toNat, by omega⟩
      simp only [Int.toNat_natCast] at h e2 ⊢
      generalize hC : choose n k = C at *
      have hr : (List.replicate k (0 : Int)).length = k := by simp
      refine ⟨⟨by omega, by omega, by omega⟩, fun y z => ∃ j : Nat, z = j ∧ j ≤ k ∧ AsI (List.replicate k 0) 0 0 y j, fun y z => (k - z).toNat, ⟨0, rfl, Nat.zero_le _, asi_start _ 0 0⟩, ?_⟩
      rintro y _ ⟨j, rfl, hj, hI⟩
      dsimp only
      rw [si_nat]
      refine ⟨fun hlt => ⟨⟨by omega, by omega⟩, ⟨by omega, by omega⟩, ⟨j + 1, by push_cast; rfl, by omega, ?_⟩, by omega⟩, fun hge => ?_⟩
      · have := asi_step (z := (j : Int)) hI (by rw [hr]; omega) (by omega)
        rwa [Nat.zero_add] at this
      · rw [show y = itr n k 0 from asi_end hI (by rw [hr]; omega)]
        clear hI
        refine ⟨fun s l z => ∃ i : Nat, z = i ∧ i ≤ C ∧ s = itr n k i ∧ l = (List.range i).map (itr n k), fun s l z => (C - z).toNat, ⟨0, rfl, Nat.zero_le _, rfl, rfl⟩, ?_⟩
        rintro s l _ ⟨i, rfl, hi, rfl, rfl⟩
        dsimp only
        obtain ⟨f1, f2⟩ := itr_fit (n := n) (k := k) (by omega) i
        have hll : ((List.range i).map (itr n k)).length = i := by simp
        have hsn : (List.range i).map (itr n k) ++ [[] ++ itr n k i] = (List.range (i + 1)).map (itr n k) := by rw [List.range_succ, List.map_append]; rfl
        refine ⟨fun hlt => ⟨fun s l z b b' => s = nxt n (itr n k i) ∧ l = (List.range (i + 1)).map (itr n k), ⟨by omega, by rw [hll]; omega, ⟨by omega, by omega⟩, ?_⟩, fun s l z b b' ⟨hs, hl⟩ => ⟨⟨by omega, by omega⟩, ⟨i + 1, by push_cast; rfl, by omega, hs, hl⟩, by omega⟩⟩, fun hge => ?_⟩
        · have f0 := f2
          have hnx : nxt n (itr n k i) = ad n (itr n k i) k := by unfold nxt; rw [f2]
          generalize itr n k i = s at *
          refine ⟨fun z b => ∃ j : Nat, z = (j : Int) - 1 ∧ j ≤ k ∧ nxt n s = ad n s j ∧ (1 ≤ j → vo s (j - 1) < (n : Int) - (s.length : Int) + ((j - 1 : Nat) : Int)), ⟨fun z => ∃ j : Nat, z = (j : Int) - 1 ∧ j ≤ k ∧ nxt n s = ad n s j, fun z => (z + 1).toNat, ⟨k, rfl, Nat.le_refl _, hnx⟩, ?_⟩, ?_⟩
          · rintro _ ⟨j, rfl, hj, hx⟩
            dsimp only
            refine ⟨fun h0 => ?_, fun h0 => ⟨j, rfl, hj, hx, fun h1 => by omega⟩⟩
            obtain ⟨j, rfl⟩ : ∃ l, j = l + 1 := ⟨j - 1, by omega⟩
            rw [show ((j + 1 : Nat) : Int) - 1 = (j : Int) by omega] at h0 ⊢
            rw [gi_nat]
            obtain ⟨g1, g2⟩ := f1 j (by omega)
            refine ⟨⟨by omega, by omega⟩, ⟨by omega, by omega⟩, ⟨by omega, by omega⟩, fun e3 => ⟨⟨by omega, by omega⟩, ⟨j, rfl, by omega, ?_⟩, by omega⟩, fun e3 => ⟨j + 1, by omega, by omega, hx, fun _ => ?_⟩⟩
            · rw [hx, ad, if_neg (by omega)]
            · rw [Nat.add_sub_cancel]; omega
          · rintro _ b ⟨j, rfl, hj, hx, hlt2⟩
            refine ⟨fun h0 => ?_, fun h0 => ?_⟩
            · obtain ⟨j, rfl⟩ : ∃ l, j = l + 1 := ⟨j - 1, by omega⟩
              rw [show ((j + 1 : Nat) : Int) - 1 = (j : Int) by omega] at h0 ⊢
              rw [gi_nat, si_nat]
              have hlt2 := hlt2 (by omega)
              rw [Nat.add_sub_cancel] at hlt2
              obtain ⟨g1, g2⟩ := f1 j (by omega)
              have hfin : nxt n s = asd s j (vo s j + 1) := by rw [hx, ad, if_pos hlt2]
              refine ⟨⟨by omega, by omega⟩, ⟨by omega, by omega⟩, ⟨by omega, by omega⟩, ⟨by omega, by omega⟩, fun y z => ∃ t : Nat, z = ((j + 1 + t : Nat) : Int) ∧ j + 1 + t ≤ k ∧ AsI s j (vo s j + 1) y (t + 1), fun y z => (k - z).toNat, ⟨0, by push_cast; rfl, by omega, ?_⟩, ?_⟩
              · have := asi_step (z := vo s j + 1) (asi_start s j (vo s j + 1)) (by omega) (by omega)
                rwa [Nat.add_zero] at this
              · rintro y _ ⟨t, rfl, ht, hI⟩
                dsimp only
                have e1 : ((j + 1 + t : Nat) : Int) - 1 = ((j + t : Nat) : Int) := by omega
                rw [e1, gi_nat, si_nat]
                refine ⟨fun h3 => ?_, fun h3 => ⟨by rw [hfin]; exact asi_end hI (by omega), hsn⟩⟩
                have hv := hI.2 (j + t) (by omega)
                rw [if_neg (by omega), if_pos (by omega), Nat.add_sub_cancel_left] at hv
                refine ⟨⟨by omega, by omega⟩, ⟨by omega, by omega⟩, ⟨by omega, by omega⟩, ⟨by omega, by omega⟩, ⟨by omega, by omega⟩, ⟨t + 1, by push_cast; omega, by omega, ?_⟩, by omega⟩
                have := asi_step (z := vo y (j + t) + 1) hI (by omega) (by rw [hv]; push_cast; omega)
                rwa [show j + (t + 1) = j + 1 + t by omega] at this
            · obtain rfl : j = 0 := by omega
              exact ⟨hx.symm, hsn⟩
        · obtain rfl : i = C := by omega
          rw [← hC]; exact h
theorem v_rSameLists {a b : List (List Int)} {Q : Bool → Prop} (hl : a.length ≤ 100000000) (hs : ∀ x ∈ a, x.length ≤ 100000000) (h : Q (decide (a = b))) : V_rSameLists a b Q := by
  refine ⟨fun e => ?_, fun e => ?_⟩
  · rw [decide_eq_false (fun c => e (by rw [c]))] at h; exact h
  refine ⟨fun z => ∃ k : Nat, z = k ∧ k ≤ a.length ∧ ∀ t, t < k → a.getD t [] = b.getD t [], fun z => (a.length - z).toNat, ⟨0, rfl, Nat.zero_le _, fun t ht => absurd ht (Nat.not_lt_zero _)⟩, ?_⟩
  rintro _ ⟨k, rfl, hk, hv⟩
  dsimp only
  rw [gl_nat, gl_nat]
  refine ⟨fun hlt => ⟨⟨by omega, by omega⟩, ⟨by omega, by omega⟩, _, v_rCompare ?_ rfl, fun c => ?_, fun c => ⟨⟨by omega, by omega⟩, ⟨k + 1, by push_cast; rfl, by omega, fun t ht => ?_⟩, by omega⟩⟩, fun hge => ?_⟩
  · have hka : k < a.length := by omega
    rw [List.getD_eq_getElem?_getD, List.getElem?_eq_getElem hka]
    have := hs _ (List.getElem_mem hka)
    exact Nat.le_trans this (by decide)
  · rw [decide_eq_false (fun e => c (by rw [e]; exact lex_self _))] at h; exact h
  · by_cases e : t = k
    · subst e; exact lex_eq (Decidable.not_not.1 c)
    · exact hv t (by omega)
  · have : a = b := by
      refine List.ext_getElem (by omega) fun t h1 h2 => ?_
      have := hv t (by omega)
      rw [List.getD_eq_getElem?_getD, List.getElem?_eq_getElem h1, List.getD_eq_getElem?_getD, List.getElem?_eq_getElem h2] at this
      exact this
    rw [decide_eq_true this] at h; exact h
end Go.Proofs.Ytcmfjjbbcfddpaa
set_option linter.unusedSimpArgs false
set_option linter.unusedVariables false
set_option maxRecDepth 4000
set_option maxHeartbeats 4000000
namespace Go.Proofs.Ytcmfjjbbcfddpaa
open Go.RowKit
def V_LSubsets (n : Int) (k : Int) (Q : Bool → Prop) : Prop :=
  V_Subsets n k (fun q => match q with | (x12, r13) => V_rSubsets n k (fun q => match q with | (x19, r20) => ((r13 ≠ r20) → Q false) ∧ (¬ (r13 ≠ r20) → (V_rSameLists x12 x19 (fun r27 => (((!r27) = true) → Q false) ∧ ((!r27) = false → (V_Subsets (3 : Int) (2 : Int) (fun q => match q with | (x30, r31) => ((r31 = (0 : Int)) → (((((x30.length : Nat) : Int) = (3 : Int)) → ((0 ≤ (1 : Int) ∧ (1 : Int) < (x30.length : Nat)) ∧ (V_rwSame (gl x30 (1 : Int)) ([(0 : Int), (2 : Int)] : List Int) (fun r43 => Q r43)))) ∧ (¬ (((x30.length : Nat) : Int) = (3 : Int)) → Q false))) ∧ (¬ (r31 = (0 : Int)) → Q false)))))))))
theorem ok_LSubsets {w : World} {Q : Bool → Prop} {n : Int} {k : Int}  (hv : V_LSubsets n k Q) :
    Calls Try.prog 14 #[.int .i64 n, .int .i64 k] w fun e w' => ∃ v Qr, e = .returned v ∧ w.grownBy w' none ∧ Rows w.heap.size none w' Qr ∧ News w.heap.size Qr ∧ ∃ (r0 : Bool), v = .bool r0 ∧ Qr = [] ∧ Q r0 := by
  refine calls_swap <| calls_of_W (vs := [.int .i64 n, .int .i64 k]) [4] XF14 rfl rfl rfl rfl ?_
  have hS := St.start w
  unfold V_LSubsets at hv
  refine W.seq <| W.region <| WL.assign rfl rfl <| WL.done <| W.seq <| W.region <| WL.move rfl rfl <| WL.move rfl rfl <| SL.call hS (ok_Subsets  hv) XF47 rfl XN47 rfl rfl ?_
  rintro _ _ w11 ⟨x12, r13, A14, k15, hs16, rfl, rfl, hv⟩ hGw11 hS
  have hS := hS.n1
  refine WL.move rfl rfl <| WL.extract rfl rfl rfl <| WL.extract rfl rfl rfl <| WL.assign rfl rfl <| WL.assign rfl rfl <| WL.done <| W.seq <| W.region <| WL.move rfl rfl <| WL.move rfl rfl <| SL.call hS (ok_rSubsets  hv) XF48 rfl XN48 rfl rfl ?_
  rintro _ _ w18 ⟨x19, r20, A21, k22, hs23, rfl, rfl, hv⟩ hGw18 hS
  have hS := hS.n1
  refine WL.move rfl rfl <| WL.extract rfl rfl rfl <| WL.extract rfl rfl rfl <| WL.assign rfl rfl <| WL.assign rfl rfl <| WL.done <| W.seq <| W.seq <| W.region <| WL.move rfl rfl <| WL.move rfl rfl <| WL.neqD rfl rfl rfl <| WL.move rfl rfl ?_
  by_cases g25 : r13 ≠ r20
  ·have hv := hv.1 g25
   rw [decide_eq_true g25]
   refine WL.pass rfl rfl rfl <| WL.pass rfl rfl rfl <| WL.pass rfl rfl rfl <| WL.pass rfl rfl rfl <| WL.pick rfl rfl rfl <| WL.done <| W.condT rfl <| W.seq <| W.region <| WL.assign rfl rfl <| WL.done <| W.ret <| ⟨_, rfl, Fin.nil ?_⟩
   exact ⟨_, hS.ext, (hS.pick [] rfl).rows, News.of (hS.pick [] rfl).rows rfl, ⟨false, rfl, rfl, hv⟩⟩
  have hv := hv.2 g25
  rw [decide_eq_false g25]
  refine WL.take rfl <| WL.move rfl rfl <| WL.take rfl <| WL.move rfl rfl <| WL.take rfl <| SL.call hS (ok_rSameLists (hS.rl (i := 1) rfl) (hS.rl (i := 0) rfl) hv) XF49 rfl XN49 rfl rfl ?_
  rintro _ _ w26 ⟨r27, rfl, rfl, hv⟩ hGw26 hS
  have hS := hS.n0
  refine WL.take rfl <| WL.not rfl rfl <| WL.pick rfl rfl rfl <| WL.done <| W.cond2 rfl (fun c28 => ?_) (fun c28 => ?_)
  ·have hv := hv.1 (c28)
   refine W.seq <| W.region <| WL.assign rfl rfl <| WL.done <| W.ret <| ⟨_, rfl, Fin.nil ?_⟩
   exact ⟨_, hS.ext, (hS.pick [] rfl).rows, News.of (hS.pick [] rfl).rows rfl, ⟨false, rfl, rfl, hv⟩⟩
  have hv := hv.2 (c28)
  refine W.skip <| W.seq <| W.region <| SL.call hS (ok_Subsets  hv) XF47 rfl XN47 rfl rfl ?_
  rintro _ _ w29 ⟨x30, r31, A32, k33, hs34, rfl, rfl, hv⟩ hGw29 hS
  have hS := hS.n1
  refine WL.move rfl rfl <| WL.extract rfl rfl rfl <| WL.extract rfl rfl rfl <| WL.assign rfl rfl <| WL.assign rfl rfl <| WL.done <| W.seq <| W.region <| WL.move rfl rfl <| WL.eqlD rfl rfl rfl <| WL.move rfl rfl ?_
  by_cases g36 : r31 = (0 : Int)
  ·have hv := hv.1 g36
   rw [decide_eq_true g36]
   refine WL.take rfl <| WL.move rfl rfl <| WL.take rfl <| WL.len XU67 rfl rfl <| WL.take rfl <| WL.eqlD rfl rfl rfl <| WL.pick rfl rfl rfl <| WL.move rfl rfl ?_
   by_cases g37 : ((x30.length : Nat) : Int) = (3 : Int)
   ·have hv := hv.1 g37
    rw [decide_eq_true g37]
    refine WL.take rfl <| WL.move rfl rfl <| WL.take rfl ?_
    obtain ⟨o38, hv⟩ := hv
    refine SL.indexMx 0 XU67 XE22 hS rfl rfl rfl o38 rfl <| WL.take rfl <| WL.load XU22 rfl rfl (hS.mxcell (i := 0) rfl o38) rfl <| WL.take rfl <| SL.lit1 (vs := is ([(0 : Int), (2 : Int)] : List Int)) hS XU22 XE3 rfl rfl rfl rfl (is_one _) rfl ?_
    intro A39 w40 hS
    refine WL.take rfl <| SL.call hS (ok_rwSame (hS.mxrd (i := 1) rfl o38) (hS.rd (i := 0) rfl) hv) XF18 rfl XN18 rfl rfl ?_
    rintro _ _ w42 ⟨r43, rfl, rfl, hv⟩ hGw42 hS
    have hS := hS.n0
    refine WL.pick rfl rfl rfl <| WL.assign rfl rfl <| WL.done <| W.ret <| ⟨_, rfl, Fin.nil ?_⟩
    exact ⟨_, hS.ext, (hS.pick [] rfl).rows, News.of (hS.pick [] rfl).rows rfl, ⟨r43, rfl, rfl, hv⟩⟩
   have hv := hv.2 g37
   rw [decide_eq_false g37]
   refine WL.pass rfl rfl rfl <| WL.pass rfl rfl rfl <| WL.pass rfl rfl rfl <| WL.pass rfl rfl rfl <| WL.pass rfl rfl rfl <| WL.pick rfl rfl rfl <| WL.assign rfl rfl <| WL.done <| W.ret <| ⟨_, rfl, Fin.nil ?_⟩
   exact ⟨_, hS.ext, (hS.pick [] rfl).rows, News.of (hS.pick [] rfl).rows rfl, ⟨false, rfl, rfl, hv⟩⟩
  have hv := hv.2 g36
  rw [decide_eq_false g36]
  refine WL.pass rfl rfl rfl <| WL.pass rfl rfl rfl <| WL.pass rfl rfl rfl <| WL.pick rfl rfl rfl <| WL.move rfl rfl <| WL.pass rfl rfl rfl <| WL.pass rfl rfl rfl <| WL.pass rfl rfl rfl <| WL.pass rfl rfl rfl <| WL.pass rfl rfl rfl <| WL.pick rfl rfl rfl <| WL.assign rfl rfl <| WL.done <| W.ret <| ⟨_, rfl, Fin.nil ?_⟩
  exact ⟨_, hS.ext, (hS.pick [] rfl).rows, News.of (hS.pick [] rfl).rows rfl, ⟨false, rfl, rfl, hv⟩⟩
end Go.Proofs.Ytcmfjjbbcfddpaa
set_option linter.unusedVariables false
set_option linter.unusedSimpArgs false
namespace Go.Proofs.Ytcmfjjbbcfddpaa
theorem v_SubsetsP {n k : Int} (hk : k ≤ 9223372036854775807) {Q : List (List Int) × Int → Prop} (h : ∀ a b, subS n k = (a, b) → Q (a, b)) : V_Subsets n k Q := v_Subsets hk (pairE h)
theorem v_rSubsetsP {n k : Int} {Q : List (List Int) × Int → Prop} (h : ∀ a b, subS n k = (a, b) → Q (a, b)) : V_rSubsets n k Q := v_rSubsets (pairE h)
section
variable {P M : Int} {mf : List Int}
end
theorem law_WordSubsets {n k : Int} (hk : k ≤ 9223372036854775807) : V_LSubsets n k (fun b => b = true) := by
  refine v_SubsetsP hk (fun r1 r2 hr => v_rSubsetsP (fun s1 s2 hs => ?_))
  obtain ⟨rfl, rfl⟩ := pairQ hr hs
  have hlen : (subS n k).1.length ≤ 100000000 ∧ ∀ x ∈ (subS n k).1, x.length ≤ 100000000 := by
    unfold subS
    split
    · simp
    · split
      · simp
      · rename_i h1 h2
        refine ⟨by rw [subL_len]; omega, fun x hx => ?_⟩
        obtain ⟨t, _, rfl⟩ := List.mem_map.1 hx
        rw [(itr_fit (by omega) t).2]; omega
  rw [hr] at hlen
  dsimp only at hlen
  refine ⟨fun e => absurd rfl e, fun _ => v_rSameLists hlen.1 hlen.2 ?_⟩
  rw [decide_eq_true rfl]
  refine ⟨fun h => absurd h (by decide), fun _ => v_Subsets (by decide) ?_⟩
  rw [show subS 3 2 = ([[0, 1], [0, 2], [1, 2]], 0) from by decide +kernel]
  exact ⟨fun _ => ⟨fun _ => ⟨⟨by decide, by decide⟩, v_rwSame (by decide) (by decide)⟩, fun c => absurd rfl c⟩, fun c => absurd rfl c⟩
end Go.Proofs.Ytcmfjjbbcfddpaa
