/- Contracts of functions of the program, and what they lean on: Nt, Xl, Draw11, Xm, Bl2, Xo, Xp, Facts, Ab, D1, It, Gf, D2, D3. -/
import Derived.Test.YtjgpkljepgcekaaClassicRootG2
import Derived.Test.YtjgpkljepgcekaaProg
set_option linter.unusedSimpArgs false
set_option linter.unusedVariables false
namespace Go.Proofs.Ytjgpkljepgcekaa
open Go.RowKit
/-! ### shorter words for values and pieces -/
abbrev nI (x : Int) : Value := .int .i64 x
abbrev nA (g : Nat) : Option Addr := some ⟨g, 0, none⟩
abbrev nP (g : Nat) : Value := .pointer (some ⟨g, 0, none⟩)
abbrev nS {α : Type} (A : Option Addr) (x : List α) (k : Nat) : Value := .slice A x.length k
abbrev nR (e : Nat) (A : Option Addr) (x : LI) (k : Nat) : Rw := .row e 1 A x.length k (is x)
abbrev nV (e g : Nat) (v : Value) : Rw := .row e 1 (some ⟨g, 0, none⟩) 1 1 [v]
section
variable {P : Program} {n : Nat} {ro : Option Nat} {df : List Deferred} {N : J0} {L : Fr} {w w0 : World} {ops : Array Oper} {rest : List Oper}
variable {d : Nat} {ty : TypeId} {pos : String} {af : Array Edge} {X : World -> Prop} {mr : Option Nat} {R : List Rw}
/-- A part of a variable of the call's own is loaded. -/
theorem Jm (i j : Nat) {x : Operand} {t e z g : Nat} {D : TypeDesc} {cs : List Value} {v : Value} (hu : P.underlying t = some D) (hS : St X w0 mr w R) (hr : R[i]? = some (.row e z (some ⟨g, 0, none⟩) 1 1 cs)) (hx : ev L x = some (.pointer (some ((⟨g, 0, none⟩ : Addr).add j)))) (hc : cs[j]? = some v)
    (hq : (match D with | .struct _ | .array _ _ => true | _ => false) = false /\ Nat.blt d n = true) (h : WL P n ro df ops rest N ((d, v) :: L) w) : WL P n ro df ops (⟨some d, .load t x, ty, pos, af, none⟩ :: rest) N L w :=
  Jj hu hq.1 hx (JC (hS.own hr) j v hc) hq.2 h
theorem JI (i : Nat) {x : Operand} {t e z z' by_ g : Nat} {zero : Value} {cs : List Value} (he : Elem P t z by_ zero) (hag : Jiv P t = true) (hS : St X w0 mr w R) (hr : R[i]? = some (.row e z' (some ⟨g, 0, none⟩) 1 1 cs)) (hq : cs.length = z /\ Nat.blt d n = true) (hx : ev L x = some (.pointer (some ⟨g, 0, none⟩)))
  (h : WL P n ro df ops rest N ((d, .agg cs.toArray) :: L) w) : WL P n ro df ops (⟨some d, .load t x, ty, pos, af, none⟩ :: rest) N L w :=
 Q4 he hag hx hq.1 (JC (hS.own hr)) hq.2 h
end
/-! ### plain operations of a pool, by their value -/
def Jjq (all : Array Oper) (n : Nat) (L : Fr) : Oper -> Option (Nat × Value)
  | ⟨some d, op, _, _, _, some (j, want)⟩ => match (all[j]?.bind (·.dst)).bind (lk L) with
    | some (.bool b) => bif b == want then (opv L op).bind (fun v => bif Nat.blt d n then some (d, v) else none) else bif Nat.blt d n then some (d, undef) else none
    | some (.tuple ⟨[]⟩) => bif Nat.blt d n then some (d, undef) else none
    | _ => none
  | ⟨some d, op, _, _, _, none⟩ => (opv L op).bind fun v => bif Nat.blt d n then some (d, v) else none
  | _ => none
theorem Jlr {P : Program} {n : Nat} {ro : Option Nat} {df : List Deferred} {N : J0} {L : Fr} {w : World} {all : Array Oper} {o : Oper} {q : Nat × Value} (h : Jjq all n L o = some q) (hN : N df (q :: L) w) : WL P n ro df all [o] N L w := by
 obtain ⟨dst, op, ty, ps, af, g⟩ := o; cases dst with
 | none => simp [Jjq] at h
 | some d =>
  cases g with
  | none =>
   simp only [Jjq] at h; cases hv : opv L op with
   | none => rw [hv] at h; simp at h
   | some v =>
    rw [hv] at h; cases hn : Nat.blt d n <;> simp [hn] at h; subst h; exact Jb0 hv hn (Ja hN)
  | some jw =>
   obtain ⟨j, want⟩ := jw; simp only [Jjq] at h; split at h
   .rename_i b hb
    cases hbw : (b == want) <;> rw [hbw] at h
    .cases hn : Nat.blt d n <;> simp [hn] at h; subst h; exact Jmu hb hbw hn (Ja hN)
    .have e : b = want := by simpa using hbw
     subst e; simp only [cond_true] at h; cases hv : opv L op with
     | none => rw [hv] at h; simp at h
     | some v =>
      rw [hv] at h; cases hn : Nat.blt d n <;> simp [hn] at h; subst h; exact WL.take hb (Jb0 hv hn (Ja hN))
   .rename_i hb
    cases hn : Nat.blt d n <;> simp [hn] at h; subst h; exact JY hb hn (Ja hN)
   .cases h
theorem oA {P : Program} {n : Nat} {ro : Option Nat} {df : List Deferred} {l : List Oper} {F : Fr} {w0 : World} {i : Nat} {o : Oper} {p : Plan} {b : Fr} (h : ∀ R, Jjq l.toArray n (Jeo F p.on b ++ R) o = some (F.getD i F0)) : obV P n ro df l F w0 i o p b := fun w _ R => Jlr (h R) ⟨rfl, by
 cases p.pure
 .exact Jd _
 .rfl⟩
def ekV : Ent -> Option (Nat × Value)
  | .k d v => some (d, v)
  | _ => none
def tolF (F : List Ent) : List Nat -> Fr -> Option Fr
  | [], A => some A
  | j :: js, A => match F.getD j E0 with
    | .k d v => tolF F js ((d, v) :: A)
    | _ => none
theorem Jlo {F : List Ent} {w : World} {K : Fr -> Prop} : ∀ (js : List Nat) (A B : Fr), tolF F js A = some B -> K B -> Z4 F w K js A
 | [], _, _, h, hk => by cases h; exact hk
 | j :: js, A, B, h, hk => by
  unfold tolF at h; unfold Z4; cases e : F.getD j E0 with
  | k d v => rw [e] at h; exact Jlo js _ _ h hk
  | m d Pr hh => rw [e] at h; cases h
/-- the value by the frame that it is Jnf -/
def stpB (l : List Oper) (n : Nat) (F : List Ent) (o : Oper) (on : List Nat) (b R : Fr) : Option (Nat × Value) := (tolF F on b).bind fun A => Jjq l.toArray n (A ++ R) o
def isK : Option (Nat × Value) -> Bool
  | some _ => true
  | none => false
theorem oB {P : Program} {n : Nat} {ro : Option Nat} {df : List Deferred} {l : List Oper} {al : Nat -> Bool} {cp : Nat -> Option Nat} {ph : Nat -> Value -> Value -> Prop} {F : List Ent} {D : Nat -> Value -> World -> Nat -> Prop} {w0 : World} {i : Nat} {o : Oper} {p : Plan} {b : Fr}
  (h : ∀ R, stpB l n F o p.on b R = ekV (F.getD i E0)) (hk : isK (ekV (F.getD i E0)) = true) : obY P n ro df l al cp ph F D w0 i o p b := fun w _ => by
 cases e : F.getD i E0 with
 | m d Pr hh => rw [e] at hk; cases hk
 | k d v =>
  cases hA : tolF F p.on b with
  | none =>
   have := h []; rw [e] at this; unfold stpB at this; rw [hA] at this; cases this
  | some A =>
   refine Jlo _ _ _ hA fun R => ?_; have := h R; rw [e] at this; unfold stpB at this; rw [hA] at this; exact Jlr this ⟨rfl, by
    cases p.pure
    .exact Jd _
    .rfl⟩
/-- The first of the pieces in another order. -/
theorem St.pickN {X : World -> Prop} {w0 w : World} {mr : Option Nat} {R : List Rw} (k : Nat) (is : List Nat) (hn : Jbo is = true) (h : St X w0 mr w R) : St X w0 mr w ((is.filterMap fun i => (R.take k)[i]?) ++ R.drop k) :=
  Jsc (T := R.drop k) (R.take k) is hn (by rw [List.take_append_drop]; exact h)
theorem St.fin {w0 w : World} {R : List Rw} {K : List Rw -> Prop} (h : St TT w0 none w R) (hr : R.all (fun r => !r.isRo) = true) (hk : K R) : ∃ Q, w0.grownBy w none /\ Rows w0.heap.size none w Q /\ News w0.heap.size Q /\ K Q := ⟨R, h.ext, h.rows, Qa h.rows hr, hk⟩
theorem oT {p : Prop} [Decidable p] (h : decide p = true) : p := of_decide_eq_true h
theorem oF {p : Prop} [Decidable p] (h : decide p = false) : ¬ p := of_decide_eq_false h
theorem oC {P : Program} {n : Nat} {ro : Option Nat} {df : List Deferred} {l : List Oper} {al : Nat -> Bool} {cp : Nat -> Option Nat} {ph : Nat -> Value -> Value -> Prop} {F : List Ent} {D : Nat -> Value -> World -> Nat -> Prop} {w0 : World} {i : Nat} {o : Oper} {p : Plan} {b : Fr}
 (h : ∀ R, stpB l n F o p.on b R = ekV (F.getD i E0) := by exact fun _ => rfl) (hk : isK (ekV (F.getD i E0)) = true := by exact rfl) : obY P n ro df l al cp ph F D w0 i o p b := oB h hk
theorem og {X : World -> Prop} {w0 wa : World} {mr : Option Nat} {R : List Rw} {G : World -> Fr -> Prop} (hS : St X w0 mr wa R) (h : ∀ w B, St X w0 mr w R -> G w B) : ∀ w, (false = false -> wa.grownBy w none) -> ∀ B, G w B := fun w hE B => h w B (hS.grow (hE rfl))
theorem oD {P : Program} {n : Nat} {ro : Option Nat} {df : List Deferred} {l : List Oper} {F : Fr} {w0 : World} {i : Nat} {o : Oper} {p : Plan} {b : Fr} (h : ∀ R, Jjq l.toArray n (Jeo F p.on b ++ R) o = some (F.getD i F0) := by exact fun _ => rfl) : obV P n ro df l F w0 i o p b := oA h
end Go.Proofs.Ytjgpkljepgcekaa
namespace Go.Proofs.Ytjgpkljepgcekaa
open Go.RowKit
/-! ### lists of lists some of whose rows came in -/
/-- The rows by themselves. -/
def RlR (w : World) (hs : Hs) (ls : LL) : Prop := ∀ i, i < ls.length -> ∃ B, Rd B w 1 (hs i).1 (ls.getD i []).length (hs i).2 (is (ls.getD i []))
theorem RlR.ext {w w' : World} {hs : Hs} {ls : LL} (h : RlR w hs ls) (hg : w.grownBy w' none) : RlR w' hs ls := fun i hi => by obtain ⟨B, h2⟩ := h i hi; exact ⟨B, h2.ext hg⟩
theorem RlR.nil (w : World) (hs : Hs) : RlR w hs [] := fun i hi => absurd hi (Nat.not_lt_zero i)
theorem RlR.append {w : World} {hs hs' : Hs} {ls ls' : LL} (h : RlR w hs ls) (h' : RlR w hs' ls') : RlR w (Jd1 ls.length hs hs') (ls ++ ls') := fun i hi => by
 rw [List.length_append] at hi; rcases Nat.lt_or_ge i ls.length with hl | hl
 .have e1 : (ls ++ ls').getD i [] = ls.getD i [] := by rw [List.getD_eq_getElem?_getD, List.getElem?_append_left hl, <- List.getD_eq_getElem?_getD]
  have e2 : Jd1 ls.length hs hs' i = hs i := by unfold Jd1; rw [if_pos hl]
  rw [e1, e2]; exact h i hl
 .have e1 : (ls ++ ls').getD i [] = ls'.getD (i - ls.length) [] := by rw [List.getD_eq_getElem?_getD, List.getElem?_append_right hl, <- List.getD_eq_getElem?_getD]
  have e2 : Jd1 ls.length hs hs' i = hs' (i - ls.length) := by unfold Jd1; rw [if_neg (by omega)]
  rw [e1, e2]; exact h' _ (by omega)
theorem RlR.rl {w : World} {A : Option Addr} {n k B : Nat} {hs : Hs} {ls : LL} (h : RlR w hs ls) (hA : Rd B w 1 A n k (JB hs ls)) : Rl w A n k ls := RlH.rl ⟨⟨B, hA⟩, h⟩
theorem RlH.rows {w : World} {A : Option Addr} {n k : Nat} {hs : Hs} {ls : LL} (h : RlH w A n k hs ls) : RlR w hs ls := h.at__
theorem RlR.inr {w : World} {eI : Nat} {hs : Hs} {ls : LL} (h : Rows 0 none w (inr eI hs ls)) : RlR w hs ls := fun i hi => by
 have := (h.get (Zb eI hs ls hi)).1.rd; exact ⟨_, this⟩
section
variable {P : Program} {n : Nat} {ro : Option Nat} {df : List Deferred} {N : J0} {L : Fr} {w w0 : World} {ops : Array Oper} {rest : List Oper}
variable {d : Nat} {ty : TypeId} {pos : String} {af : Array Edge} {X : World -> Prop} {mr : Option Nat} {R : List Rw} {eI m c : Nat} {A : Option Addr} {hs : Hs} {ls : LL}
end
/-! ### lists of lists of lists -/
abbrev HZ := Nat -> (Option Addr × Nat) × Hs
def zcells (H : HZ) (zs : List LL) : List Value := zs.mapIdx fun i l => .slice (H i).1.1 l.length (H i).1.2
structure Rll (w : World) (A : Option Addr) (n k : Nat) (H : HZ) (zs : List LL) : Prop where
  out : ∃ B, Rd B w 1 A n k (zcells H zs)
  at__ : ∀ i, i < zs.length -> RlH w (H i).1.1 (zs.getD i []).length (H i).1.2 (H i).2 (zs.getD i [])
theorem Rll.ext {w w' : World} {A : Option Addr} {n k : Nat} {H : HZ} {zs : List LL} (h : Rll w A n k H zs) (hg : w.grownBy w' none) : Rll w' A n k H zs := by
 obtain ⟨B, h1⟩ := h.out; exact ⟨⟨B, h1.ext hg⟩, fun i hi => (h.at__ i hi).ext hg⟩
theorem Rll.two {w : World} {A A1 A2 : Option Addr} {B k m1 k1 m2 k2 : Nat} {hs1 hs2 : Hs} {l1 l2 : LL} (hA : Rd B w 1 A 2 k [.slice A1 m1 k1, .slice A2 m2 k2]) (h1 : RlH w A1 m1 k1 hs1 l1) (h2 : RlH w A2 m2 k2 hs2 l2) :
  Rll w A 2 k (fun i => if i = 0 then ((A1, k1), hs1) else ((A2, k2), hs2)) [l1, l2] := by
 obtain rfl := h1.len; obtain rfl := h2.len; refine ⟨⟨B, hA⟩, fun i hi => ?_⟩
 match i, hi with
 | 0, _ => exact h1
 | 1, _ => exact h2
end Go.Proofs.Ytjgpkljepgcekaa
namespace Go.Proofs.Ytjgpkljepgcekaa
open Go.RowKit
theorem WA.sub {P : Program} {n : Nat} {ro : Option Nat} {df : List Deferred} {l : List Oper} {N : J0} {q : Nat} {li : List Bool} {L M : Fr} {w : World} (hs : sub M L) (h : WA P n ro df l N q li M w) : WA P n ro df l N q li L w := ⟨fun a ha B => h.out a (ha.sub hs) B⟩
end Go.Proofs.Ytjgpkljepgcekaa
namespace Go.Proofs.Ytjgpkljepgcekaa
open Go.RowKit
/-! ### what is behind a place of a list of lists -/
theorem Al.drop {w : World} : ∀ {vs : List Value} {ls : LL} (k : Nat), Al w vs ls -> Al w (vs.drop k) (ls.drop k)
  | [], [], k, _ => by simp [Al]
  | v :: vs, l :: ls, 0, h => h
  | v :: vs, l :: ls, k + 1, h => Al.drop (vs := vs) (ls := ls) k h.2
  | [], _ :: _, _, h => h.elim
  | _ :: _, [], _, h => h.elim
theorem Rl.drop {w : World} {A : Option Addr} {n k : Nat} {ls : LL} (h : Rl w A n k ls) {J : Int} (hJ : 0 <= J /\ J <= (n : Nat)) : Rl w (if k = J.toNat then A else A.map (·.add (J.toNat * 1))) (n - J.toNat) (k - J.toNat) (ls.drop J.toNat) := by
 obtain ⟨B, cs, h1, h2⟩ := h.ex; have h3 := h1.drop (k := J.toNat) (by omega); have e : cs.drop (J.toNat * 1) = cs.drop J.toNat := by rw [Nat.mul_one]
 rw [e] at h3; exact ⟨B, _, h3, h2.drop _⟩
end Go.Proofs.Ytjgpkljepgcekaa
namespace Go.Proofs.Ytjgpkljepgcekaa
open Go.RowKit
def Jkg (x y : Int) : Int := ((x.toNat &&& y.toNat : Nat) : Int)
theorem Jpz {P : Program} {w : World} {x y : Int} (h : 0 <= x /\ x < 9223372036854775808 /\ 0 <= y /\ y < 9223372036854775808) : (Op.intBits .and .i64 x y).run P w = .ok (.int .i64 (Jkg x y)) w := by
 obtain ⟨h1, h2, h3, h4⟩ := h; obtain ⟨a, rfl⟩ := Int.eq_ofNat_of_zero_le h1; obtain ⟨b, rfl⟩ := Int.eq_ofNat_of_zero_le h3; have ha : a < 2 ^ 63 := by omega
 have hb : b < 2 ^ 63 := by omega
 have hab : a &&& b < 2 ^ 63 := Nat.and_lt_two_pow a hb; have e1 : (BitVec.ofInt 64 (a : Int) &&& BitVec.ofInt 64 (b : Int)).toNat = a &&& b := by
  rw [BitVec.ofInt_natCast, BitVec.ofInt_natCast, BitVec.toNat_and, BitVec.toNat_ofNat, BitVec.toNat_ofNat, Nat.mod_eq_of_lt (by omega), Nat.mod_eq_of_lt (by omega)]
 have e2 : IntKind.i64.wrap ((a &&& b : Nat) : Int) = ((a &&& b : Nat) : Int) := Jm6 (by omega) (by omega) rfl; show Result.ok (Value.int .i64 (IntKind.i64.wrap ((BitVec.ofInt 64 (a : Int) &&& BitVec.ofInt 64 (b : Int)).toNat : Int))) w = Result.ok (Value.int .i64 (((a : Int).toNat &&& (b : Int).toNat : Nat) : Int)) w; rw [e1, e2]; rfl
end Go.Proofs.Ytjgpkljepgcekaa
namespace Go.Proofs.Ytjgpkljepgcekaa
open Go.RowKit
end Go.Proofs.Ytjgpkljepgcekaa
namespace Go.Proofs.Ytjgpkljepgcekaa
open Go.RowKit
/-! ### shifts to the left, or; arrays of ints by an index; a row that grows within a list of lists -/
def QK (x y : Int) : Int := x * 2 ^ min y.toNat IntKind.i64.bits
def ior (x y : Int) : Int := ((x.toNat ||| y.toNat : Nat) : Int)
theorem Jsw {P : Program} {w : World} {x y : Int} (h : 0 <= x /\ x < 9223372036854775808 /\ 0 <= y /\ y < 9223372036854775808) : (Op.intBits .or .i64 x y).run P w = .ok (.int .i64 (ior x y)) w := by
 obtain ⟨h1, h2, h3, h4⟩ := h; obtain ⟨a, rfl⟩ := Int.eq_ofNat_of_zero_le h1; obtain ⟨b, rfl⟩ := Int.eq_ofNat_of_zero_le h3; have ha : a < 2 ^ 63 := by omega
 have hb : b < 2 ^ 63 := by omega
 have hab := Nat.or_lt_two_pow ha hb; have e1 : (BitVec.ofInt 64 (a : Int) ||| BitVec.ofInt 64 (b : Int)).toNat = a ||| b := by
  rw [BitVec.ofInt_natCast, BitVec.ofInt_natCast, BitVec.toNat_or, BitVec.toNat_ofNat, BitVec.toNat_ofNat, Nat.mod_eq_of_lt (by omega), Nat.mod_eq_of_lt (by omega)]
 have e2 : IntKind.i64.wrap ((a ||| b : Nat) : Int) = ((a ||| b : Nat) : Int) := Jm6 (by omega) (by omega) rfl; show Result.ok (Value.int .i64 (IntKind.i64.wrap ((BitVec.ofInt 64 (a : Int) ||| BitVec.ofInt 64 (b : Int)).toNat : Int))) w = Result.ok (Value.int .i64 (((a : Int).toNat ||| (b : Int).toNat : Nat) : Int)) w; rw [e1, e2]; rfl
theorem agi {l : LI} {J : Int} (h : 0 <= J /\ J < (l.length : Nat)) : (is l).toArray[J.toNat]? = some (.int .i64 (gi l J)) := by
 have := Jmc (l := l) (j := J.toNat) (by omega); rw [List.getElem?_toArray]; exact this
section
variable {P : Program} {n : Nat} {ro : Option Nat} {df : List Deferred} {N : J0} {L : Fr} {w w0 : World} {ops : Array Oper} {rest : List Oper}
variable {d : Nat} {ty : TypeId} {pos : String} {af : Array Edge} {X : World -> Prop} {mr : Option Nat} {R : List Rw} {eS eI m c : Nat} {A : Option Addr} {hs : Hs} {ls : LL}
theorem Jd5 {x i : Operand} {t k : Nat} {l : LI} {J : Int} (hA : Jol P t k = true) (hx : ev L x = some (.agg (is l).toArray)) (hi : ev L i = some (.int .i64 J)) (hl : l.length = k) (hJ : 0 <= J /\ J < (k : Nat)) (hn : Nat.blt d n = true)
  (h : WL P n ro df ops rest N ((d, .int .i64 (gi l J)) :: L) w) : WL P n ro df ops (⟨some d, .index t x i, ty, pos, af, none⟩ :: rest) N L w :=
 Jos J.toNat hA hx hi (by omega) (by omega) (agi (by omega)) hn h
end
end Go.Proofs.Ytjgpkljepgcekaa
namespace Go.Proofs.Ytjgpkljepgcekaa
open Go.RowKit
theorem Try.mixed : Try.prog.follows .mixedOrders = true := by kernel_rfl
theorem Try.el3 : Elem Try.prog 3 1 8 (.int .i64 0) := .mk' (by kernel_rfl) rfl (by decide)
theorem Try.el4 : Elem Try.prog 4 1 1 (.bool false) := .mk' (by kernel_rfl) rfl (by decide)
theorem Try.el22 : Elem Try.prog 22 1 24 (.slice none 0 0) := .mk' (by kernel_rfl) rfl (by decide)
theorem Try.el118 : Elem Try.prog 118 1 24 (.slice none 0 0) := .mk' (by kernel_rfl) rfl (by decide)
theorem Try.el70 : Elem Try.prog 70 2 32 (.agg #[.int .i64 0, .slice none 0 0]) := .mk' (by kernel_rfl) rfl (by decide)
theorem Try.fla70_0 : Z2 Try.prog 70 0 0 = true := by kernel_rfl
theorem Try.fla70_1 : Z2 Try.prog 70 1 1 = true := by kernel_rfl
theorem Try.bld70 : Jok Try.prog 70 [(0, 1), (1, 1)] #[.int .i64 0, .slice none 0 0] := ⟨by kernel_rfl, _, Try.underlying70, by kernel_rfl⟩
theorem Try.el33 : Elem Try.prog 33 5 72 (.agg #[.int .i64 0, .int .i64 0, .slice none 0 0, .int .i64 0, .slice none 0 0]) := .mk' (by kernel_rfl) rfl (by decide)
theorem Try.fla33_0 : Z2 Try.prog 33 0 0 = true := by kernel_rfl
theorem Try.fla33_1 : Z2 Try.prog 33 1 3 = true := by kernel_rfl
theorem Try.fla33_2 : Z2 Try.prog 33 2 4 = true := by kernel_rfl
theorem Try.bld33 : Jok Try.prog 33 [(0, 3), (3, 1), (4, 1)] #[.int .i64 0, .int .i64 0, .slice none 0 0, .int .i64 0, .slice none 0 0] := ⟨by kernel_rfl, _, Try.underlying33, by kernel_rfl⟩
theorem Try.el24 : Elem Try.prog 24 3 40 (.agg #[.int .i64 0, .int .i64 0, .slice none 0 0]) := .mk' (by kernel_rfl) rfl (by decide)
theorem Try.agg24 : Jiv Try.prog 24 = true := by kernel_rfl
theorem Try.agg70 : Jiv Try.prog 70 = true := by kernel_rfl
theorem Try.agg33 : Jiv Try.prog 33 = true := by kernel_rfl
theorem Try.fla24_0 : Z2 Try.prog 24 0 0 = true := by kernel_rfl
theorem Try.fla24_1 : Z2 Try.prog 24 1 1 = true := by kernel_rfl
theorem Try.fla24_2 : Z2 Try.prog 24 2 2 = true := by kernel_rfl
theorem Try.bld24 : Jok Try.prog 24 [(0, 1), (1, 1), (2, 1)] #[.int .i64 0, .int .i64 0, .slice none 0 0] := ⟨by kernel_rfl, _, Try.underlying24, by kernel_rfl⟩
theorem Try.fla90_0 : Z2 Try.prog 90 0 0 = true := by kernel_rfl
theorem Try.fla90_1 : Z2 Try.prog 90 1 3 = true := by kernel_rfl
theorem Try.fla90_2 : Z2 Try.prog 90 2 4 = true := by kernel_rfl
theorem Try.fla90_3 : Z2 Try.prog 90 3 5 = true := by kernel_rfl
theorem Try.fla90_4 : Z2 Try.prog 90 4 6 = true := by kernel_rfl
theorem Try.bld90 : Jok Try.prog 90 [(0, 3), (3, 1), (4, 1), (5, 1), (6, 1)] #[.int .i64 0, .int .i64 0, .slice none 0 0, .int .i64 0, .slice none 0 0, .slice none 0 0, .slice none 0 0] := ⟨by kernel_rfl, _, Try.underlying90, by kernel_rfl⟩
theorem Try.arr132 : Jol Try.prog 132 3 = true := by kernel_rfl
theorem Try.arr133 : Jol Try.prog 133 8 = true := by kernel_rfl
theorem Try.nm16 : (Try.f16.name == "runtime.NumGoroutine") = false := by kernel_rfl
theorem Try.nm18 : (Try.f18.name == "runtime.NumGoroutine") = false := by kernel_rfl
theorem Try.nm20 : (Try.f20.name == "runtime.NumGoroutine") = false := by kernel_rfl
theorem Try.nm23 : (Try.f23.name == "runtime.NumGoroutine") = false := by kernel_rfl
theorem Try.nm26 : (Try.f26.name == "runtime.NumGoroutine") = false := by kernel_rfl
theorem Try.nm35 : (Try.f35.name == "runtime.NumGoroutine") = false := by kernel_rfl
theorem Try.nm37 : (Try.f37.name == "runtime.NumGoroutine") = false := by kernel_rfl
theorem Try.nm38 : (Try.f38.name == "runtime.NumGoroutine") = false := by kernel_rfl
theorem Try.nm42 : (Try.f42.name == "runtime.NumGoroutine") = false := by kernel_rfl
theorem Try.nm46 : (Try.f46.name == "runtime.NumGoroutine") = false := by kernel_rfl
theorem Try.nm48 : (Try.f48.name == "runtime.NumGoroutine") = false := by kernel_rfl
theorem Try.nm52 : (Try.f52.name == "runtime.NumGoroutine") = false := by kernel_rfl
theorem Try.nm54 : (Try.f54.name == "runtime.NumGoroutine") = false := by kernel_rfl
theorem Try.nm56 : (Try.f56.name == "runtime.NumGoroutine") = false := by kernel_rfl
theorem Try.nm58 : (Try.f58.name == "runtime.NumGoroutine") = false := by kernel_rfl
theorem Try.nm60 : (Try.f60.name == "runtime.NumGoroutine") = false := by kernel_rfl
theorem Try.nm64 : (Try.f64.name == "runtime.NumGoroutine") = false := by kernel_rfl
theorem Try.nm66 : (Try.f66.name == "runtime.NumGoroutine") = false := by kernel_rfl
theorem Try.nm67 : (Try.f67.name == "runtime.NumGoroutine") = false := by kernel_rfl
theorem Try.nm68 : (Try.f68.name == "runtime.NumGoroutine") = false := by kernel_rfl
theorem Try.nm71 : (Try.f71.name == "runtime.NumGoroutine") = false := by kernel_rfl
theorem Try.nm72 : (Try.f72.name == "runtime.NumGoroutine") = false := by kernel_rfl
theorem Try.nm73 : (Try.f73.name == "runtime.NumGoroutine") = false := by kernel_rfl
theorem Try.nm74 : (Try.f74.name == "runtime.NumGoroutine") = false := by kernel_rfl
theorem Try.nm75 : (Try.f75.name == "runtime.NumGoroutine") = false := by kernel_rfl
theorem Try.nm76 : (Try.f76.name == "runtime.NumGoroutine") = false := by kernel_rfl
theorem Try.nm77 : (Try.f77.name == "runtime.NumGoroutine") = false := by kernel_rfl
theorem Try.nm78 : (Try.f78.name == "runtime.NumGoroutine") = false := by kernel_rfl
theorem Try.nm79 : (Try.f79.name == "runtime.NumGoroutine") = false := by kernel_rfl
theorem Try.nm80 : (Try.f80.name == "runtime.NumGoroutine") = false := by kernel_rfl
theorem Try.nm85 : (Try.f85.name == "runtime.NumGoroutine") = false := by kernel_rfl
theorem Try.nm86 : (Try.f86.name == "runtime.NumGoroutine") = false := by kernel_rfl
theorem Try.nm87 : (Try.f87.name == "runtime.NumGoroutine") = false := by kernel_rfl
theorem Try.nm90 : (Try.f90.name == "runtime.NumGoroutine") = false := by kernel_rfl
theorem Try.nm92 : (Try.f92.name == "runtime.NumGoroutine") = false := by kernel_rfl
theorem Try.nm95 : (Try.f95.name == "runtime.NumGoroutine") = false := by kernel_rfl
theorem Try.nm98 : (Try.f98.name == "runtime.NumGoroutine") = false := by kernel_rfl
theorem Try.nm99 : (Try.f99.name == "runtime.NumGoroutine") = false := by kernel_rfl
theorem Try.nm100 : (Try.f100.name == "runtime.NumGoroutine") = false := by kernel_rfl
theorem Try.nm101 : (Try.f101.name == "runtime.NumGoroutine") = false := by kernel_rfl
theorem Try.nm102 : (Try.f102.name == "runtime.NumGoroutine") = false := by kernel_rfl
theorem Try.nm103 : (Try.f103.name == "runtime.NumGoroutine") = false := by kernel_rfl
theorem Try.nm104 : (Try.f104.name == "runtime.NumGoroutine") = false := by kernel_rfl
theorem Try.nm105 : (Try.f105.name == "runtime.NumGoroutine") = false := by kernel_rfl
theorem Try.nm106 : (Try.f106.name == "runtime.NumGoroutine") = false := by kernel_rfl
theorem Try.nm107 : (Try.f107.name == "runtime.NumGoroutine") = false := by kernel_rfl
theorem Try.nm108 : (Try.f108.name == "runtime.NumGoroutine") = false := by kernel_rfl
theorem Try.nm109 : (Try.f109.name == "runtime.NumGoroutine") = false := by kernel_rfl
theorem Try.nm110 : (Try.f110.name == "runtime.NumGoroutine") = false := by kernel_rfl
theorem Try.nm111 : (Try.f111.name == "runtime.NumGoroutine") = false := by kernel_rfl
theorem Try.nm115 : (Try.f115.name == "runtime.NumGoroutine") = false := by kernel_rfl
theorem Try.nm116 : (Try.f116.name == "runtime.NumGoroutine") = false := by kernel_rfl
theorem Try.nm117 : (Try.f117.name == "runtime.NumGoroutine") = false := by kernel_rfl
theorem Try.nm118 : (Try.f118.name == "runtime.NumGoroutine") = false := by kernel_rfl
theorem Try.nm120 : (Try.f120.name == "runtime.NumGoroutine") = false := by kernel_rfl
theorem Try.nm121 : (Try.f121.name == "runtime.NumGoroutine") = false := by kernel_rfl
theorem Try.nm124 : (Try.f124.name == "runtime.NumGoroutine") = false := by kernel_rfl
theorem Try.nm125 : (Try.f125.name == "runtime.NumGoroutine") = false := by kernel_rfl
theorem Try.nm126 : (Try.f126.name == "runtime.NumGoroutine") = false := by kernel_rfl
theorem Try.nm127 : (Try.f127.name == "runtime.NumGoroutine") = false := by kernel_rfl
theorem Try.nm128 : (Try.f128.name == "runtime.NumGoroutine") = false := by kernel_rfl
theorem Try.nm129 : (Try.f129.name == "runtime.NumGoroutine") = false := by kernel_rfl
theorem Try.nm130 : (Try.f130.name == "runtime.NumGoroutine") = false := by kernel_rfl
theorem Try.nm131 : (Try.f131.name == "runtime.NumGoroutine") = false := by kernel_rfl
theorem Try.nm132 : (Try.f132.name == "runtime.NumGoroutine") = false := by kernel_rfl
theorem Try.nm133 : (Try.f133.name == "runtime.NumGoroutine") = false := by kernel_rfl
theorem Try.nm134 : (Try.f134.name == "runtime.NumGoroutine") = false := by kernel_rfl
theorem Try.nm135 : (Try.f135.name == "runtime.NumGoroutine") = false := by kernel_rfl
theorem Try.nm137 : (Try.f137.name == "runtime.NumGoroutine") = false := by kernel_rfl
theorem Try.nm138 : (Try.f138.name == "runtime.NumGoroutine") = false := by kernel_rfl
theorem Try.nm139 : (Try.f139.name == "runtime.NumGoroutine") = false := by kernel_rfl
theorem Try.nm140 : (Try.f140.name == "runtime.NumGoroutine") = false := by kernel_rfl
theorem Try.nm141 : (Try.f141.name == "runtime.NumGoroutine") = false := by kernel_rfl
theorem Try.nm142 : (Try.f142.name == "runtime.NumGoroutine") = false := by kernel_rfl
theorem Try.nm143 : (Try.f143.name == "runtime.NumGoroutine") = false := by kernel_rfl
theorem Try.nm144 : (Try.f144.name == "runtime.NumGoroutine") = false := by kernel_rfl
theorem Try.nm145 : (Try.f145.name == "runtime.NumGoroutine") = false := by kernel_rfl
theorem Try.nm146 : (Try.f146.name == "runtime.NumGoroutine") = false := by kernel_rfl
theorem Try.nm147 : (Try.f147.name == "runtime.NumGoroutine") = false := by kernel_rfl
theorem Try.nm148 : (Try.f148.name == "runtime.NumGoroutine") = false := by kernel_rfl
theorem Try.nm149 : (Try.f149.name == "runtime.NumGoroutine") = false := by kernel_rfl
theorem Try.nm150 : (Try.f150.name == "runtime.NumGoroutine") = false := by kernel_rfl
theorem Try.nm152 : (Try.f152.name == "runtime.NumGoroutine") = false := by kernel_rfl
theorem Try.nm153 : (Try.f153.name == "runtime.NumGoroutine") = false := by kernel_rfl
theorem Try.nm154 : (Try.f154.name == "runtime.NumGoroutine") = false := by kernel_rfl
theorem Try.nm155 : (Try.f155.name == "runtime.NumGoroutine") = false := by kernel_rfl
theorem Try.nm156 : (Try.f156.name == "runtime.NumGoroutine") = false := by kernel_rfl
theorem Try.nm157 : (Try.f157.name == "runtime.NumGoroutine") = false := by kernel_rfl
theorem Try.nm158 : (Try.f158.name == "runtime.NumGoroutine") = false := by kernel_rfl
theorem Try.nm159 : (Try.f159.name == "runtime.NumGoroutine") = false := by kernel_rfl
theorem Try.nm160 : (Try.f160.name == "runtime.NumGoroutine") = false := by kernel_rfl
end Go.Proofs.Ytjgpkljepgcekaa
namespace Go.Proofs.Ytjgpkljepgcekaa
open Go.RowKit
/-! ### short names -/
abbrev JV := Try.fla24_0
abbrev J8 := Try.fla24_1
abbrev QL := Try.fla24_2
abbrev Jd3 := Try.fla33_0
abbrev Jgp := Try.fla33_1
abbrev Jk7 := Try.fla33_2
abbrev Q9 := Try.fla70_0
abbrev QV := Try.fla70_1
abbrev Jk6 := Try.fla90_0
abbrev Jaj := Try.fla90_1
abbrev Jgo := Try.fla90_2
abbrev YQ := Try.fla90_3
abbrev Jk5 := Try.fla90_4
abbrev XB24 := Try.bld24
abbrev XB33 := Try.bld33
abbrev Jop := Try.bld70
abbrev XB90 := Try.bld90
abbrev XE118 := Try.el118
abbrev Ju := Try.el22
abbrev JZ := Try.el24
abbrev XE3 := Try.el3
abbrev QO := Try.el33
abbrev XE4 := Try.el4
abbrev Qd := Try.el70
abbrev XF100 := Try.func100
abbrev XF101 := Try.func101
abbrev Jr2 := Try.func102
abbrev XF103 := Try.func103
abbrev Jr1 := Try.func104
abbrev Jr0 := Try.func105
abbrev XF106 := Try.func106
abbrev XF107 := Try.func107
abbrev XF108 := Try.func108
abbrev XF109 := Try.func109
abbrev XF11 := Try.func11
abbrev XF110 := Try.func110
abbrev Jrz := Try.func111
abbrev Jry := Try.func115
abbrev XF116 := Try.func116
abbrev Jrx := Try.func117
abbrev XF118 := Try.func118
abbrev XF120 := Try.func120
abbrev XF121 := Try.func121
abbrev Jrw := Try.func124
abbrev XF126 := Try.func126
abbrev XF127 := Try.func127
abbrev Jmt := Try.func128
abbrev XF129 := Try.func129
abbrev XF130 := Try.func130
abbrev XF131 := Try.func131
abbrev Jms := Try.func132
abbrev XF133 := Try.func133
abbrev XF134 := Try.func134
abbrev XF135 := Try.func135
abbrev Jiy := Try.func137
abbrev Jrv := Try.func138
abbrev XF139 := Try.func139
abbrev XF140 := Try.func140
abbrev XF141 := Try.func141
abbrev XF142 := Try.func142
abbrev XF143 := Try.func143
abbrev Je1 := Try.func144
abbrev XF145 := Try.func145
abbrev Jmr := Try.func146
abbrev XF147 := Try.func147
abbrev Jmq := Try.func148
abbrev Jru := Try.func149
abbrev Jmp := Try.func150
abbrev Je0 := Try.func152
abbrev Jmo := Try.func153
abbrev XF154 := Try.func154
abbrev XF155 := Try.func155
abbrev XF156 := Try.func156
abbrev Jmn := Try.func157
abbrev Jrt := Try.func158
abbrev XF159 := Try.func159
abbrev XF16 := Try.func16
abbrev XF160 := Try.func160
abbrev XF18 := Try.func18
abbrev XF20 := Try.func20
abbrev XF23 := Try.func23
abbrev XF26 := Try.func26
abbrev XF35 := Try.func35
abbrev XF37 := Try.func37
abbrev XF38 := Try.func38
abbrev XF42 := Try.func42
abbrev XF46 := Try.func46
abbrev XF48 := Try.func48
abbrev XF52 := Try.func52
abbrev XF54 := Try.func54
abbrev Joo := Try.func56
abbrev XF58 := Try.func58
abbrev XF60 := Try.func60
abbrev XF64 := Try.func64
abbrev XF66 := Try.func66
abbrev XF67 := Try.func67
abbrev XF68 := Try.func68
abbrev XF71 := Try.func71
abbrev XF72 := Try.func72
abbrev XF73 := Try.func73
abbrev XF74 := Try.func74
abbrev Jon := Try.func75
abbrev XF76 := Try.func76
abbrev XF77 := Try.func77
abbrev XF78 := Try.func78
abbrev XF79 := Try.func79
abbrev XF80 := Try.func80
abbrev XF85 := Try.func85
abbrev XF86 := Try.func86
abbrev XF87 := Try.func87
abbrev XF90 := Try.func90
abbrev XF92 := Try.func92
abbrev XF95 := Try.func95
abbrev XF98 := Try.func98
abbrev XF99 := Try.func99
abbrev J1 := Try.agg24
abbrev Ja4 := Try.agg33
abbrev Yr := Try.agg70
abbrev XN100 := Try.nm100
abbrev XN101 := Try.nm101
abbrev XN102 := Try.nm102
abbrev XN103 := Try.nm103
abbrev XN104 := Try.nm104
abbrev XN105 := Try.nm105
abbrev XN106 := Try.nm106
abbrev XN107 := Try.nm107
abbrev XN108 := Try.nm108
abbrev XN109 := Try.nm109
abbrev XN110 := Try.nm110
abbrev XN111 := Try.nm111
abbrev XN115 := Try.nm115
abbrev XN116 := Try.nm116
abbrev XN117 := Try.nm117
abbrev XN118 := Try.nm118
abbrev XN120 := Try.nm120
abbrev XN121 := Try.nm121
abbrev XN124 := Try.nm124
abbrev XN126 := Try.nm126
abbrev XN127 := Try.nm127
abbrev Jrr := Try.nm128
abbrev XN129 := Try.nm129
abbrev XN130 := Try.nm130
abbrev XN131 := Try.nm131
abbrev Jrq := Try.nm132
abbrev XN133 := Try.nm133
abbrev XN134 := Try.nm134
abbrev XN135 := Try.nm135
abbrev Jmm := Try.nm137
abbrev XN138 := Try.nm138
abbrev XN139 := Try.nm139
abbrev XN140 := Try.nm140
abbrev XN141 := Try.nm141
abbrev XN142 := Try.nm142
abbrev XN143 := Try.nm143
abbrev Jrp := Try.nm144
abbrev XN145 := Try.nm145
abbrev XN146 := Try.nm146
abbrev XN147 := Try.nm147
abbrev XN148 := Try.nm148
abbrev XN149 := Try.nm149
abbrev XN150 := Try.nm150
abbrev Jix := Try.nm152
abbrev Jro := Try.nm153
abbrev XN154 := Try.nm154
abbrev XN155 := Try.nm155
abbrev XN156 := Try.nm156
abbrev Jrn := Try.nm157
abbrev XN158 := Try.nm158
abbrev XN159 := Try.nm159
abbrev XN16 := Try.nm16
abbrev XN160 := Try.nm160
abbrev XN18 := Try.nm18
abbrev XN20 := Try.nm20
abbrev XN23 := Try.nm23
abbrev XN26 := Try.nm26
abbrev XN35 := Try.nm35
abbrev XN37 := Try.nm37
abbrev XN38 := Try.nm38
abbrev XN42 := Try.nm42
abbrev XN46 := Try.nm46
abbrev XN48 := Try.nm48
abbrev XN52 := Try.nm52
abbrev XN54 := Try.nm54
abbrev XN56 := Try.nm56
abbrev XN58 := Try.nm58
abbrev XN60 := Try.nm60
abbrev XN64 := Try.nm64
abbrev XN66 := Try.nm66
abbrev XN67 := Try.nm67
abbrev XN68 := Try.nm68
abbrev XN71 := Try.nm71
abbrev XN72 := Try.nm72
abbrev XN73 := Try.nm73
abbrev XN74 := Try.nm74
abbrev XN75 := Try.nm75
abbrev XN76 := Try.nm76
abbrev XN77 := Try.nm77
abbrev XN78 := Try.nm78
abbrev XN79 := Try.nm79
abbrev XN80 := Try.nm80
abbrev XN85 := Try.nm85
abbrev XN86 := Try.nm86
abbrev XN87 := Try.nm87
abbrev XN90 := Try.nm90
abbrev XN92 := Try.nm92
abbrev XN95 := Try.nm95
abbrev XN98 := Try.nm98
abbrev XN99 := Try.nm99
abbrev Jd2 := Try.underlying118
abbrev Jiw := Try.underlying126
abbrev Jo := Try.underlying22
abbrev Jw := Try.underlying25
abbrev XU3 := Try.underlying3
abbrev XU4 := Try.underlying4
abbrev Jcj := Try.underlying59
end Go.Proofs.Ytjgpkljepgcekaa
set_option maxRecDepth 4000
set_option maxHeartbeats 4000000
namespace Go.Proofs.Ytjgpkljepgcekaa
open Go.RowKit
def Jd9 (b : Bool) (Q : Int -> Prop) : Prop :=
  ((b = true) -> (Q 0)) /\ (b = false -> (Q 1))
theorem Jl0 {w : World} {Q : Int -> Prop} {b : Bool}  (hv : Jd9 b Q) :
   Calls Try.prog 104 #[.bool b] w <| Rt w fun v Qr => ∃ (r0 : Int), v = .int .i64 r0 /\ Qr = [] /\ Q r0 := by
 refine Jk <| Jh (vs := [.bool b]) [2] Jr1 rfl rfl rfl rfl ?_; have hS := Jp w; unfold Jd9 at hv; refine Jc 9 <| Jg rfl (fun c11 => ?_) (fun c11 => ?_)
 .have hv := hv.1 (c11); refine Jc 4 <| W.ret <| ⟨_, rfl, Fin.nil ?_⟩
  exact (hS.pick [] rfl).fin rfl ⟨(0 : Int), rfl, rfl, hv⟩
 have hv := hv.2 (c11); refine Ji <| Jc 4 <| W.ret <| ⟨_, rfl, Fin.nil ?_⟩
 exact (hS.pick [] rfl).fin rfl ⟨(1 : Int), rfl, rfl, hv⟩
def Q5 (x : Int) (Q : Int -> Prop) : Prop :=
  ∃ (I14 : Int -> Prop) (μ15 : Int -> Nat), I14 2 /\ ∀ (z13 : Int), (I14 z13 -> ((I64 (z13 * z13)) /\ ((((z13 * z13) <= x) -> ((z13 ≠ 0) /\ ((((x.tmod z13) = (0 : Int)) -> Q z13) /\ (¬ ((x.tmod z13) = (0 : Int)) -> ((I64 (z13 + 1)) /\ (I14 (z13 + 1) /\ μ15 (z13 + 1) < μ15 z13)))))) /\ (¬ ((z13 * z13) <= x) -> Q x))))
theorem Jcf {w : World} {Q : Int -> Prop} {x : Int}  (hv : Q5 x Q) :
   Calls Try.prog 129 #[.int .i64 x] w <| Rt w fun v Qr => ∃ (r0 : Int), v = .int .i64 r0 /\ Qr = [] /\ Q r0 := by
 refine Jk <| Jh (vs := [nI x]) [2] XF129 rfl rfl rfl rfl ?_; have hS := Jp w; unfold Q5 at hv; refine Jc 9 <| W.block ?_; obtain ⟨I14, μ15, hv, hk22⟩ := hv; refine Jv (σ := Int) (fun z13 w1 => I14 z13 /\ St TT w none w1 []) (fun z13 => [(0, nI x), (2, nI 0), (3, nI z13)]) (fun z13 => μ15 z13) (2 : Int) ⟨hv, hS⟩ ⟨rfl, rfl, rfl, trivial⟩ ?_; rintro z13 w16 ⟨hv, hS⟩; have hv := hk22 z13 hv; refine Jc 5 ?_; obtain ⟨o17, hv⟩ := hv; refine WL.mul (r := (z13 * z13)) rfl rfl (wr o17) rfl <| Jb 3 <| Jg rfl (fun c18 => ?_) (fun c18 => ?_)
 .have hv := hv.1 (oT c18); refine Ji <| Jr <| W.block <| Jc 4 ?_; obtain ⟨o19, hv⟩ := hv; refine J4 (r := (x.tmod z13)) rfl rfl o19 rfl rfl <| Jb 2 <| Jg rfl (fun c20 => ?_) (fun c20 => ?_)
  .have hv := hv.1 (oT c20); refine Jc 5 <| W.ret <| ⟨_, rfl, Fin.nil ?_⟩
   exact (hS.pick [] rfl).fin rfl ⟨z13, rfl, rfl, hv⟩
  have hv := hv.2 (oF c20); refine Ji <| Jc 2 ?_; obtain ⟨o21, hv⟩ := hv; refine WL.add (r := (z13 + 1)) rfl rfl (wr o21) rfl <| Jb 2 ?_; exact ⟨(z13 + 1), sp rfl, hv.2, rfl, hv.1, hS⟩
 have hv := hv.2 (oF c18); refine Jt <| Jc 5 <| W.ret <| ⟨_, rfl, Fin.nil ?_⟩
 exact (hS.pick [] rfl).fin rfl ⟨x, rfl, rfl, hv⟩
def ZW (x : Int) (Q : Bool -> Prop) : Prop :=
  (((2 : Int) <= x) -> (Q5 x (fun r13 => Q (decide (r13 = x))))) /\ (¬ ((2 : Int) <= x) -> Q false)
theorem Jj5 {w : World} {Q : Bool -> Prop} {x : Int}  (hv : ZW x Q) :
   Calls Try.prog 103 #[.int .i64 x] w <| Rt w fun v Qr => ∃ (r0 : Bool), v = .bool r0 /\ Qr = [] /\ Q r0 := by
 refine Jk <| Jh (vs := [nI x]) [2] XF103 rfl rfl rfl rfl ?_; have hS := Jp w; unfold ZW at hv; refine Jc 8 <| Jl rfl rfl ?_; by_cases g11 : (2 : Int) <= x
 .have hv := hv.1 g11; rw [decide_eq_true g11]; refine Jb 3 <| SL.call hS (Jcf  hv) XF129 rfl XN129 rfl rfl ?_; rintro _ _ w12 ⟨r13, rfl, rfl, hv⟩ hGw12 hS; have hS := hS.n0; refine Jb 7 <| W.ret <| ⟨_, rfl, Fin.nil ?_⟩
  exact (hS.pick [] rfl).fin rfl ⟨(decide (r13 = x)), rfl, rfl, hv⟩
 have hv := hv.2 g11; rw [decide_eq_false g11]; refine Jb 7 <| W.ret <| ⟨_, rfl, Fin.nil ?_⟩
 exact (hS.pick [] rfl).fin rfl ⟨false, rfl, rfl, hv⟩
def Zg (Pf : Int) (Mf : Int) (mf : LI) (Q : Int -> Prop) : Prop :=
  ∃ J14 : Int -> Prop, (∃ (I21 : Int -> Int -> Prop) (μ22 : Int -> Int -> Nat), I21 1 (0 : Int) /\ ∀ (z19 : Int) (z20 : Int), (I21 z19 z20 -> (((z20 < Mf) -> (((z19 <= 256) -> ((I64 (z19 * Pf)) /\ ((I64 (z20 + 1)) /\ (I21 (z19 * Pf) (z20 + 1) /\ μ22 (z19 * Pf) (z20 + 1) < μ22 z19 z20)))) /\ (¬ (z19 <= 256) -> J14 z19))) /\ (¬ (z20 < Mf) -> J14 z19)))) /\ ∀ (z13 : Int), (J14 z13 -> Q z13)
theorem Zq {w : World} {Q : Int -> Prop} {Pf : Int} {Mf : Int} {mf : LI} {Bf : Nat} {Af : Option Addr} {nf kf : Nat} (hf : Rd Bf w 1 Af nf kf (is mf)) (hv : Zg Pf Mf mf Q) :
   Calls Try.prog 75 #[.agg #[.int .i64 Pf, .int .i64 Mf, .slice Af nf kf]] w <| Rt w fun v Qr => ∃ (r0 : Int), v = .int .i64 r0 /\ Qr = [] /\ Q r0 := by
 have hnf := hf.ilen; subst hnf; refine Jk <| Jh (vs := [.agg #[nI Pf, nI Mf, nS Af mf kf]]) [2] Jon rfl rfl rfl rfl ?_; have hS := Jp w; unfold Zg at hv; refine Jc 2 <| JF (z := 3) (cs := [nI Pf, nI Mf, nS Af mf kf]) hS rfl rfl rfl rfl ?_; intro g11 w12 hS; refine Jb 2 <| Jc 9 ?_; obtain ⟨J14, hv, hk30⟩ := hv; refine J5 (σ := Int) (fun z13 w1 => J14 z13 /\ St TT w none w1 [.row 24 3 (nA g11) 1 1 [nI Pf, nI Mf, nS Af mf kf]]) (fun z13 => [(2, nI 0), (3, nI z13)]) ?_ ?_
 .refine W.block ?_; obtain ⟨I21, μ22, hv, hk28⟩ := hv; refine Jv (σ := Int × Int) (fun q w1 => match q with | (z19, z20) => I21 z19 z20 /\ St TT w none w1 [.row 24 3 (nA g11) 1 1 [nI Pf, nI Mf, nS Af mf kf]]) (fun (z19, z20) => [(1, nP g11), (2, nI 0), (3, nI z19), (4, nI z20)]) (fun (z19, z20) => μ22 z19 z20) ((1 : Int), (0 : Int)) ⟨hv, hS⟩ ⟨rfl, rfl, rfl, rfl, trivial⟩ ?_; rintro ⟨z19, z20⟩ w23 ⟨hv, hS⟩; have hv := hk28 z19 z20 hv; refine Jc 4 <| Je (off := 1) J8 rfl rfl <| Jm 0 1 XU3 hS rfl rfl rfl ⟨rfl, rfl⟩ <| Ql rfl rfl rfl <| Jl rfl rfl ?_; by_cases g24 : z20 < Mf
  .have hv := hv.1 g24; rw [decide_eq_true g24]; refine Jb 6 <| Jg rfl (fun c25 => ?_) (fun c25 => ?_)
   .have hv := hv.1 (oT c25); refine Ji <| Jr <| W.block <| Jc 2 <| Je (off := 0) JV rfl rfl <| Jm 0 0 XU3 hS rfl rfl rfl ⟨rfl, rfl⟩ ?_; obtain ⟨o26, hv⟩ := hv; refine WL.mul (r := (z19 * Pf)) rfl rfl (wr o26) rfl <| Jb 2 <| Jc 2 ?_; obtain ⟨o27, hv⟩ := hv; refine WL.add (r := (z20 + 1)) rfl rfl (wr o27) rfl <| Jb 2 ?_; exact ⟨((z19 * Pf), (z20 + 1)), sp rfl, hv.2, rfl, hv.1, hS⟩
   have hv := hv.2 (oF c25); refine Jt ?_; exact ⟨z19, ⟨rfl, rfl, trivial⟩, rfl, hv, hS⟩
  have hv := hv.2 g24; rw [decide_eq_false g24]; refine Jb 4 <| Qt rfl <| Jt ?_; exact ⟨z19, ⟨rfl, rfl, trivial⟩, rfl, hv, hS⟩
 rintro z13 w29 ⟨hv, hS⟩; have hv := hk30 z13 hv; refine Jc 5 <| W.ret <| ⟨_, rfl, Fin.nil ?_⟩
 exact (hS.pick [] rfl).fin rfl ⟨z13, rfl, rfl, hv⟩
def Y0 (p : Int) (n : Int) (x : Int) (Q : LI -> Prop) : Prop :=
  (0 <= n /\ n * 8 <= 281474976710656 /\ n <= 281474976710656) /\ (∃ (I24 : LI -> Int -> Int -> Prop) (μ25 : LI -> Int -> Int -> Nat), I24 (List.replicate n.toNat (0 : Int)) x (0 : Int) /\ ∀ (x21 : LI) (z22 : Int) (z23 : Int), (I24 x21 z22 z23 -> (((z23 < ((n.toNat : Nat) : Int)) -> ((p ≠ 0) /\ ((0 <= z23 /\ z23 < (n.toNat : Nat)) /\ ((p ≠ 0 /\ I64 (z22.tdiv p)) /\ ((I64 (z23 + 1)) /\ (I24 (si x21 z23 (z22.tmod p)) (z22.tdiv p) (z23 + 1) /\ μ25 (si x21 z23 (z22.tmod p)) (z22.tdiv p) (z23 + 1) < μ25 x21 z22 z23)))))) /\ (¬ (z23 < ((n.toNat : Nat) : Int)) -> Q x21))))
theorem Jbm {w : World} {Q : LI -> Prop} {p : Int} {n : Int} {x : Int}  (hv : Y0 p n x Q) :
  Calls Try.prog 132 #[.int .i64 p, .int .i64 n, .int .i64 x] w <| Rt w fun v Qr => ∃ (x : LI)  (A : Option Addr) (c : Nat), v = .slice A x.length c /\ Qr = [.row 3 1 A x.length c (is x)] /\ Q x := by
 refine Jk <| Jh (vs := [nI p, nI n, nI x]) [6] Jms rfl rfl rfl rfl ?_; have hS := Jp w; unfold Y0 at hv; refine Jc 7 ?_; obtain ⟨o11, hv⟩ := hv; refine Qm (J := n) hS Jo XE3 rfl rfl o11 (Qw _) rfl ?_; intro A12 w13 hS; refine Jb 2 <| Jc 4 <| WL.len Jo rfl rfl <| Jb 2 <| W.block ?_; obtain ⟨I24, μ25, hv, hk33⟩ := hv; refine Jv (σ := LI × Int × Int) (fun q w1 => match q with | (x21, z22, z23) => I24 x21 z22 z23 /\ St TT w none w1 [.row 3 1 A12 n.toNat n.toNat (is x21)]) (fun (x21, z22, z23) => [(0, nI p), (2, nI z22), (6, .slice none 0 0), (7, .slice A12 n.toNat n.toNat), (12, nI ((n.toNat : Nat) : Int)), (13, nI z23)]) (fun (x21, z22, z23) => μ25 x21 z22 z23) (List.replicate n.toNat (0 : Int), x, (0 : Int)) ⟨hv, hS⟩ ⟨rfl, rfl, rfl, rfl, rfl, rfl, trivial⟩ ?_; rintro ⟨x21, z22, z23⟩ w26 ⟨hv, hS⟩; have hv := hk33 x21 z22 z23 hv; refine Jc 5 <| Jg rfl (fun c27 => ?_) (fun c27 => ?_)
 .have hv := hv.1 (oT c27); refine Ji <| Jr <| W.block <| Jc 11 ?_; obtain ⟨o28, hv⟩ := hv; refine J4 (r := (z22.tmod p)) rfl rfl o28 rfl rfl ?_; obtain ⟨o29, hv⟩ := hv; refine Jf Jo XE3 (hS.rd (i := 0) rfl) rfl rfl o29 rfl <| Jz (cs' := is (si x21 z23 (z22.tmod p))) 0 z23.toNat hS rfl XE3 rfl rfl rfl (Qp (hS.rd (i := 0) rfl) o29) (J7 _ _ _) ?_; intro w30 hS; refine Ja <| Jc 3 ?_; obtain ⟨o31, hv⟩ := hv; refine Jk8 (r := (z22.tdiv p)) rfl rfl o31.1 (wr o31.2) rfl <| Jb 2 <| Js ?_; obtain ⟨o32, hv⟩ := hv; refine WL.add (r := (z23 + 1)) rfl rfl (wr o32) rfl <| Jb 2 ?_; exact ⟨(si x21 z23 (z22.tmod p), (z22.tdiv p), (z23 + 1)), sp rfl, hv.2, rfl, hv.1, hS⟩
 have hv := hv.2 (oF c27); refine Jt <| Jc 5 <| W.ret ?_; have hm := (hS.rd (i := 0) rfl).ilen; have hS := hS.relen (i := 0) rfl hm.symm; refine ⟨_, rfl, Fin.nil ?_⟩; exact ⟨_, hS.ext, (hS.pick [0] rfl).rows, Qa (hS.pick [0] rfl).rows rfl, ⟨x21, A12, n.toNat, (by rw [hm]), rfl, hv⟩⟩
def YF (Pf : Int) (Mf : Int) (mf : LI) (x : Int) (Q : Int -> Prop) : Prop :=
  (Pf ≠ 0) /\ ((I64 (Pf - 1)) /\ ((((x.tmod Pf) = (Pf - 1)) -> ((Pf ≠ 0) /\ ((I64 (x - (x.tmod Pf))) /\ (Q (x - (x.tmod Pf)))))) /\ (¬ ((x.tmod Pf) = (Pf - 1)) -> ((I64 (x + 1)) /\ (Q (x + 1))))))
theorem Jfr {w : World} {Q : Int -> Prop} {Pf : Int} {Mf : Int} {mf : LI} {x : Int} {Bf : Nat} {Af : Option Addr} {nf kf : Nat} (hf : Rd Bf w 1 Af nf kf (is mf)) (hv : YF Pf Mf mf x Q) :
   Calls Try.prog 77 #[.agg #[.int .i64 Pf, .int .i64 Mf, .slice Af nf kf], .int .i64 x] w <| Rt w fun v Qr => ∃ (r0 : Int), v = .int .i64 r0 /\ Qr = [] /\ Q r0 := by
 have hnf := hf.ilen; subst hnf; refine Jk <| Jh (vs := [.agg #[nI Pf, nI Mf, nS Af mf kf], nI x]) [4] XF77 rfl rfl rfl rfl ?_; have hS := Jp w; unfold YF at hv; refine Jc 2 <| JF (z := 3) (cs := [nI Pf, nI Mf, nS Af mf kf]) hS rfl rfl rfl rfl ?_; intro g11 w12 hS; refine Jb 2 <| Jc 2 ?_; obtain ⟨o17, hv⟩ := hv; obtain ⟨o21, hv⟩ := hv; refine JQ 8 [⟨[], [1], true⟩, ⟨[], [2], true⟩, ⟨[1], [], false⟩, ⟨[0, 2], [], true⟩, ⟨[], [2], true⟩, ⟨[4], [], false⟩, ⟨[5], [], true⟩, ⟨[3, 6], [], true⟩] [(5, nI x), (6, nP g11), (7, nI Pf), (8, nI (x.tmod Pf)), (9, nP g11), (10, nI Pf), (11, nI (Pf - 1)), (12, .bool (decide ((x.tmod Pf) = (Pf - 1))))] Try.mixed (by kernel_rfl) rfl rfl ?_ ?_
 . refine ⟨oD, fun _ _ _ => Je (off := 0) JV rfl rfl <| Ja ⟨rfl, rfl⟩, og hS fun _ _ hS => Jm 0 0 XU3 hS rfl rfl rfl ⟨rfl, rfl⟩ <| Ja ⟨rfl, Jd _⟩, fun _ _ _ => J4 (r := (x.tmod Pf)) rfl rfl o17 rfl rfl <| Ja ⟨rfl, rfl⟩, fun _ _ _ => Je (off := 0) JV rfl rfl <| Ja ⟨rfl, rfl⟩, og hS fun _ _ hS => Jm 0 0 XU3 hS rfl rfl rfl ⟨rfl, rfl⟩ <| Ja ⟨rfl, Jd _⟩, fun _ _ _ => WL.sub (r := (Pf - 1)) rfl rfl (wr o21) rfl <| Ja ⟨rfl, rfl⟩, oD, trivial⟩
 intro w23 hT; have hS := hS.grow hT; refine JK <| Jg rfl (fun c24 => ?_) (fun c24 => ?_)
 .have hv := hv.1 (oT c24); refine Jc 4 <| Je (off := 0) JV rfl rfl <| Jm 0 0 XU3 hS rfl rfl rfl ⟨rfl, rfl⟩ ?_; obtain ⟨o25, hv⟩ := hv; refine J4 (r := (x.tmod Pf)) rfl rfl o25 rfl rfl ?_; obtain ⟨o26, hv⟩ := hv; refine WL.sub (r := (x - (x.tmod Pf))) rfl rfl (wr o26) rfl <| Jb 2 <| W.ret <| ⟨_, rfl, Fin.nil ?_⟩
  exact (hS.pick [] rfl).fin rfl ⟨(x - (x.tmod Pf)), rfl, rfl, hv⟩
 have hv := hv.2 (oF c24); refine Ji <| Jc 3 ?_; obtain ⟨o27, hv⟩ := hv; refine WL.add (r := (x + 1)) rfl rfl (wr o27) rfl <| Jb 2 <| W.ret <| ⟨_, rfl, Fin.nil ?_⟩
 exact (hS.pick [] rfl).fin rfl ⟨(x + 1), rfl, rfl, hv⟩
def YL (l : LI) (Q : LI -> Prop) : Prop :=
  ∀ b11 : Bool, (b11 = true -> l = []) -> (((b11 = true) -> (Q ([] : LI))) /\ (b11 = false -> ((((0 : Nat) + (l.length : Nat) : Int) * 8 <= 140737488355328) /\ (Q (([] : LI) ++ l)))))
theorem Zr {w : World} {Q : LI -> Prop} {l : LI} {Bl : Nat} {Al : Option Addr} {nl kl : Nat} (hl : Rd Bl w 1 Al nl kl (is l)) (hv : YL l Q) :
  Calls Try.prog 56 #[.slice Al nl kl] w <| Rt w fun v Qr => ∃ (x : LI)  (A : Option Addr) (c : Nat), v = .slice A x.length c /\ Qr = [.row 3 1 A x.length c (is x)] /\ Q x := by
 have hnl := hl.ilen; subst hnl; refine Jk <| Jh (vs := [nS Al l kl]) [2] Joo rfl rfl rfl rfl ?_; have hS := Jp w; unfold YL at hv; refine Jc 8 ?_; obtain ⟨b11, hb11⟩ : ∃ b, Al.isNone = b := ⟨_, rfl⟩
 have hv := hv b11 (fun h => Jou (hS.ro hl) (hb11.trans h)); refine Jot hb11 Jo rfl rfl rfl <| Ja <| Jg rfl (fun c12 => ?_) (fun c12 => ?_)
 .have hv := hv.1 (c12); refine Jc 4 <| W.ret ?_; have hS := hS.nil (e := 3) (z := 1); refine ⟨_, rfl, Fin.nil ?_⟩; exact (hS.pick [0] rfl).fin rfl ⟨([] : LI), none, 0, rfl, rfl, hv⟩
 have hv := hv.2 (c12); refine Ji <| Jc 2 <| QI (vs := is ([] : LI)) hS Jo XE3 rfl rfl rfl rfl (Qb _) rfl ?_; intro A13 w14 hS; refine Jl rfl rfl ?_; obtain ⟨o16, hv⟩ := hv; refine SL.append (cs := is ([] : LI)) (cs' := is l) 0 ((([] : LI) ++ l).length) (is (([] : LI) ++ l)) hS rfl Jo XE3 (hS.ro hl) (Qb _) rfl rfl (apk o16).1 (apk o16).2 (Zt (hS.rd (i := 0) rfl) (hS.ro hl)) (J9 _ _) rfl ?_; intro A17 k18 w19 hS; refine Jb 2 <| W.ret <| ⟨_, rfl, Fin.nil ?_⟩
 exact (hS.pick [0] rfl).fin rfl ⟨([] : LI) ++ l, A17, k18, rfl, rfl, hv⟩
def Yu (Pf : Int) (Mf : Int) (mf : LI) (Q : Int -> Prop) : Prop :=
  ((Pf < 2) -> (Q 0)) /\ (¬ (Pf < 2) -> (((Mf < 1) -> (Q 0)) /\ (¬ (Mf < 1) -> ((((8 : Int) < Mf) -> (Q 0)) /\ (¬ ((8 : Int) < Mf) -> (∃ (I22 : Int -> Int -> Prop) (μ23 : Int -> Int -> Nat), I22 1 (0 : Int) /\ ∀ (z20 : Int) (z21 : Int), (I22 z20 z21 -> (((z21 < Mf) -> ((Pf ≠ 0 /\ I64 ((256 : Int).tdiv Pf)) /\ (((((256 : Int).tdiv Pf) < z20) -> (Q 0)) /\ (¬ (((256 : Int).tdiv Pf) < z20) -> ((I64 (z20 * Pf)) /\ ((I64 (z21 + 1)) /\ (I22 (z20 * Pf) (z21 + 1) /\ μ23 (z20 * Pf) (z21 + 1) < μ23 z20 z21))))))) /\ (¬ (z21 < Mf) -> Q z20)))))))))
theorem ZI {w : World} {Q : Int -> Prop} {Pf : Int} {Mf : Int} {mf : LI} {Bf : Nat} {Af : Option Addr} {nf kf : Nat} (hf : Rd Bf w 1 Af nf kf (is mf)) (hv : Yu Pf Mf mf Q) :
   Calls Try.prog 20 #[.agg #[.int .i64 Pf, .int .i64 Mf, .slice Af nf kf]] w <| Rt w fun v Qr => ∃ (r0 : Int), v = .int .i64 r0 /\ Qr = [] /\ Q r0 := by
 have hnf := hf.ilen; subst hnf; refine Jk <| Jh (vs := [.agg #[nI Pf, nI Mf, nS Af mf kf]]) [2] XF20 rfl rfl rfl rfl ?_; have hS := Jp w; unfold Yu at hv; refine Jc 2 <| JF (z := 3) (cs := [nI Pf, nI Mf, nS Af mf kf]) hS rfl rfl rfl rfl ?_; intro g11 w12 hS; refine Jb 2 <| Jc 3 <| Je (off := 0) JV rfl rfl <| Jm 0 0 XU3 hS rfl rfl rfl ⟨rfl, rfl⟩ <| Ql rfl rfl rfl <| Jl rfl rfl ?_; by_cases g13 : Pf < 2
 .have hv := hv.1 g13; rw [decide_eq_true g13]; refine Jb 10 <| J3 rfl <| Jc 4 <| W.ret <| ⟨_, rfl, Fin.nil ?_⟩
  exact (hS.pick [] rfl).fin rfl ⟨(0 : Int), rfl, rfl, hv⟩
 have hv := hv.2 g13; rw [decide_eq_false g13]; refine WL.take rfl <| Je (off := 1) J8 rfl rfl <| WL.take rfl <| Jm 0 1 XU3 hS rfl rfl rfl ⟨rfl, rfl⟩ <| Jb 3 <| Jl rfl rfl ?_; by_cases g14 : Mf < 1
 .have hv := hv.1 g14; rw [decide_eq_true g14]; refine Jb 5 <| J3 rfl <| Jc 4 <| W.ret <| ⟨_, rfl, Fin.nil ?_⟩
  exact (hS.pick [] rfl).fin rfl ⟨(0 : Int), rfl, rfl, hv⟩
 have hv := hv.2 g14; rw [decide_eq_false g14]; refine WL.take rfl <| Je (off := 1) J8 rfl rfl <| WL.take rfl <| Jm 0 1 XU3 hS rfl rfl rfl ⟨rfl, rfl⟩ <| Jb 4 <| Jg rfl (fun c15 => ?_) (fun c15 => ?_)
 .have hv := hv.1 (oT c15); refine Jc 4 <| W.ret <| ⟨_, rfl, Fin.nil ?_⟩
  exact (hS.pick [] rfl).fin rfl ⟨(0 : Int), rfl, rfl, hv⟩
 have hv := hv.2 (oF c15); refine Ji <| Jc 9 <| W.block ?_; obtain ⟨I22, μ23, hv, hk30⟩ := hv; refine Jv (σ := Int × Int) (fun q w1 => match q with | (z20, z21) => I22 z20 z21 /\ St TT w none w1 [.row 24 3 (nA g11) 1 1 [nI Pf, nI Mf, nS Af mf kf]]) (fun (z20, z21) => [(1, nP g11), (2, nI 0), (3, nI z20), (4, nI z21)]) (fun (z20, z21) => μ23 z20 z21) ((1 : Int), (0 : Int)) ⟨hv, hS⟩ ⟨rfl, rfl, rfl, rfl, trivial⟩ ?_; rintro ⟨z20, z21⟩ w24 ⟨hv, hS⟩; have hv := hk30 z20 z21 hv; refine Jc 4 <| Je (off := 1) J8 rfl rfl <| Jm 0 1 XU3 hS rfl rfl rfl ⟨rfl, rfl⟩ <| Jb 2 <| Jg rfl (fun c25 => ?_) (fun c25 => ?_)
 .have hv := hv.1 (oT c25); refine Ji <| Jr <| W.block <| Jc 4 <| Je (off := 0) JV rfl rfl <| Jm 0 0 XU3 hS rfl rfl rfl ⟨rfl, rfl⟩ ?_; obtain ⟨o26, hv⟩ := hv; refine Jk8 (r := ((256 : Int).tdiv Pf)) rfl rfl o26.1 (wr o26.2) rfl <| Jb 2 <| Jg rfl (fun c27 => ?_) (fun c27 => ?_)
  .have hv := hv.1 (oT c27); refine Jc 4 <| W.ret <| ⟨_, rfl, Fin.nil ?_⟩
   exact (hS.pick [] rfl).fin rfl ⟨(0 : Int), rfl, rfl, hv⟩
  have hv := hv.2 (oF c27); refine Ji <| Jc 2 <| Je (off := 0) JV rfl rfl <| Jm 0 0 XU3 hS rfl rfl rfl ⟨rfl, rfl⟩ ?_; obtain ⟨o28, hv⟩ := hv; refine WL.mul (r := (z20 * Pf)) rfl rfl (wr o28) rfl <| Jb 2 <| Jc 2 ?_; obtain ⟨o29, hv⟩ := hv; refine WL.add (r := (z21 + 1)) rfl rfl (wr o29) rfl <| Jb 2 ?_; exact ⟨((z20 * Pf), (z21 + 1)), sp rfl, hv.2, rfl, hv.1, hS⟩
 have hv := hv.2 (oF c25); refine Jt <| Jc 5 <| W.ret <| ⟨_, rfl, Fin.nil ?_⟩
 exact (hS.pick [] rfl).fin rfl ⟨z20, rfl, rfl, hv⟩
def Ja7 (x : Int) (Q : Bool -> Prop) : Prop :=
  ∃ (I14 : Int -> Prop) (μ15 : Int -> Nat), I14 2 /\ ∀ (z13 : Int), (I14 z13 -> (((z13 < x) -> ((z13 ≠ 0) /\ ((((x.tmod z13) = (0 : Int)) -> Q false) /\ (¬ ((x.tmod z13) = (0 : Int)) -> ((I64 (z13 + 1)) /\ (I14 (z13 + 1) /\ μ15 (z13 + 1) < μ15 z13)))))) /\ (¬ (z13 < x) -> Q true)))
theorem Jnl {w : World} {Q : Bool -> Prop} {x : Int}  (hv : Ja7 x Q) :
   Calls Try.prog 78 #[.int .i64 x] w <| Rt w fun v Qr => ∃ (r0 : Bool), v = .bool r0 /\ Qr = [] /\ Q r0 := by
 refine Jk <| Jh (vs := [nI x]) [2] XF78 rfl rfl rfl rfl ?_; have hS := Jp w; unfold Ja7 at hv; refine Jc 9 <| W.block ?_; obtain ⟨I14, μ15, hv, hk21⟩ := hv; refine Jv (σ := Int) (fun z13 w1 => I14 z13 /\ St TT w none w1 []) (fun z13 => [(0, nI x), (2, .bool false), (3, nI z13)]) (fun z13 => μ15 z13) (2 : Int) ⟨hv, hS⟩ ⟨rfl, rfl, rfl, trivial⟩ ?_; rintro z13 w16 ⟨hv, hS⟩; have hv := hk21 z13 hv; refine Jc 7 <| Jg rfl (fun c17 => ?_) (fun c17 => ?_)
 .have hv := hv.1 (oT c17); refine Ji <| Jr <| W.block <| Jc 4 ?_; obtain ⟨o18, hv⟩ := hv; refine J4 (r := (x.tmod z13)) rfl rfl o18 rfl rfl <| Jb 2 <| Jg rfl (fun c19 => ?_) (fun c19 => ?_)
  .have hv := hv.1 (oT c19); refine Jc 4 <| W.ret <| ⟨_, rfl, Fin.nil ?_⟩
   exact (hS.pick [] rfl).fin rfl ⟨false, rfl, rfl, hv⟩
  have hv := hv.2 (oF c19); refine Ji <| Jc 2 ?_; obtain ⟨o20, hv⟩ := hv; refine WL.add (r := (z13 + 1)) rfl rfl (wr o20) rfl <| Jb 2 ?_; exact ⟨(z13 + 1), sp rfl, hv.2, rfl, hv.1, hS⟩
 have hv := hv.2 (oF c17); refine Jt <| Jc 4 <| W.ret <| ⟨_, rfl, Fin.nil ?_⟩
 exact (hS.pick [] rfl).fin rfl ⟨true, rfl, rfl, hv⟩
def YW (x : Int) (p : Int) (n : Int) (Q : LI -> Prop) : Prop :=
  (0 <= n /\ n * 8 <= 281474976710656 /\ n <= 281474976710656) /\ (∃ (I24 : LI -> Int -> Int -> Prop) (μ25 : LI -> Int -> Int -> Nat), I24 (List.replicate n.toNat (0 : Int)) x (0 : Int) /\ ∀ (x21 : LI) (z22 : Int) (z23 : Int), (I24 x21 z22 z23 -> (((z23 < n) -> ((p ≠ 0) /\ ((0 <= z23 /\ z23 < (n.toNat : Nat)) /\ ((p ≠ 0 /\ I64 (z22.tdiv p)) /\ ((I64 (z23 + 1)) /\ (I24 (si x21 z23 (z22.tmod p)) (z22.tdiv p) (z23 + 1) /\ μ25 (si x21 z23 (z22.tmod p)) (z22.tdiv p) (z23 + 1) < μ25 x21 z22 z23)))))) /\ (¬ (z23 < n) -> Q x21))))
theorem Jdl {w : World} {Q : LI -> Prop} {x : Int} {p : Int} {n : Int}  (hv : YW x p n Q) :
  Calls Try.prog 111 #[.int .i64 x, .int .i64 p, .int .i64 n] w <| Rt w fun v Qr => ∃ (x : LI)  (A : Option Addr) (c : Nat), v = .slice A x.length c /\ Qr = [.row 3 1 A x.length c (is x)] /\ Q x := by
 refine Jk <| Jh (vs := [nI x, nI p, nI n]) [6] Jrz rfl rfl rfl rfl ?_; have hS := Jp w; unfold YW at hv; refine Jc 7 ?_; obtain ⟨o11, hv⟩ := hv; refine Qm (J := n) hS Jo XE3 rfl rfl o11 (Qw _) rfl ?_; intro A12 w13 hS; refine Jb 2 <| Jc 5 <| W.block ?_; obtain ⟨I24, μ25, hv, hk33⟩ := hv; refine Jv (σ := LI × Int × Int) (fun q w1 => match q with | (x21, z22, z23) => I24 x21 z22 z23 /\ St TT w none w1 [.row 3 1 A12 n.toNat n.toNat (is x21)]) (fun (x21, z22, z23) => [(0, nI z22), (1, nI p), (2, nI n), (6, .slice none 0 0), (7, .slice A12 n.toNat n.toNat), (8, nI z23)]) (fun (x21, z22, z23) => μ25 x21 z22 z23) (List.replicate n.toNat (0 : Int), x, (0 : Int)) ⟨hv, hS⟩ ⟨rfl, rfl, rfl, rfl, rfl, rfl, trivial⟩ ?_; rintro ⟨x21, z22, z23⟩ w26 ⟨hv, hS⟩; have hv := hk33 x21 z22 z23 hv; refine Jc 7 <| Jg rfl (fun c27 => ?_) (fun c27 => ?_)
 .have hv := hv.1 (oT c27); refine Ji <| Jr <| W.block <| Jc 6 ?_; obtain ⟨o28, hv⟩ := hv; refine J4 (r := (z22.tmod p)) rfl rfl o28 rfl rfl ?_; obtain ⟨o29, hv⟩ := hv; refine Jf Jo XE3 (hS.rd (i := 0) rfl) rfl rfl o29 rfl <| Jz (cs' := is (si x21 z23 (z22.tmod p))) 0 z23.toNat hS rfl XE3 rfl rfl rfl (Qp (hS.rd (i := 0) rfl) o29) (J7 _ _ _) ?_; intro w30 hS; refine Ja <| Jc 3 ?_; obtain ⟨o31, hv⟩ := hv; refine Jk8 (r := (z22.tdiv p)) rfl rfl o31.1 (wr o31.2) rfl <| Jb 2 <| Jc 2 ?_; obtain ⟨o32, hv⟩ := hv; refine WL.add (r := (z23 + 1)) rfl rfl (wr o32) rfl <| Jb 2 ?_; exact ⟨(si x21 z23 (z22.tmod p), (z22.tdiv p), (z23 + 1)), sp rfl, hv.2, rfl, hv.1, hS⟩
 have hv := hv.2 (oF c27); refine Jt <| Jc 5 <| W.ret ?_; have hm := (hS.rd (i := 0) rfl).ilen; have hS := hS.relen (i := 0) rfl hm.symm; refine ⟨_, rfl, Fin.nil ?_⟩; exact ⟨_, hS.ext, (hS.pick [0] rfl).rows, Qa (hS.pick [0] rfl).rows rfl, ⟨x21, A12, n.toNat, (by rw [hm]), rfl, hv⟩⟩
end Go.Proofs.Ytjgpkljepgcekaa
namespace Go.Proofs.Ytjgpkljepgcekaa
open Go.RowKit
/-! ### the iterators of the program -/
theorem Jgl {w : World} {p : Addr} {A : Option Addr} {m c : Nat} (hm : m <= 9223372036854775807) :
    SeqJ Try.prog 160 #[.pointer (some p)] (fun w1 => w1.cell? p = some (.slice A m c) /\ ∃ l : LI, ∃ B, Rd B w1 1 A m c (is l)) (fun i x w1 => ∃ v : Int, x = #[.int .i64 ((m - 1 - i : Nat) : Int), .int .i64 v] /\ w1.cell? ((JH A).add (m - 1 - i)) = some (.int .i64 v)) m w := by
  intro l J Jx Wn hW hJ hJx hM hY h0
  refine Jh (vs := [.func (.yield l) #[] #[], .pointer (some p)]) (R := fun _ w' => J m w' ∨ ∃ i, i <= m /\ Jx i w') [] Try.func160 rfl rfl rfl rfl ?_
  have hM0 := hM 0 Wn h0
  refine Jr ?_
  refine Js ?_
  refine Jj Try.underlying22 rfl rfl hM0.1 rfl ?_
  refine WL.len Try.underlying22 rfl rfl ?_
  refine WL.sub (r := (m : Int) - 1) rfl rfl (Jm6 (by omega) (by omega) rfl) rfl ?_
  refine JR rfl rfl ?_
  refine Ja ?_
  refine W.block ?_
  refine Jv (σ := Nat) (fun i w1 => J i w1 /\ i <= m) (fun i => [(0, .func (.yield l) #[] #[]), (1, .pointer (some p)), (3, .int .i64 ((m : Int) - 1 - i))]) (fun i => m - i) 0 ⟨h0, Nat.zero_le _⟩ ⟨rfl, rfl, iv (by omega), trivial⟩ ?_
  rintro i w1 ⟨hi, hle⟩
  obtain ⟨hMp, xs, Bx, hR⟩ := hM i w1 hi
  refine Jr ?_
  refine Jr ?_
  refine Js ?_
  refine Jl rfl rfl ?_
  refine Jgt rfl rfl rfl ?_
  refine Ja ?_
  refine Jg rfl (fun c => ?_) (fun c => ?_)
  . have c := of_decide_eq_true c
    have hj : (m : Int) - 1 - i = ((m - 1 - i : Nat) : Int) := by omega
    rw [hj]
    refine Ji ?_
    refine Jr ?_
    refine W.block ?_
    refine Jr ?_
    refine Js ?_
    refine Jl rfl rfl ?_
    refine Jl rfl rfl ?_
    refine Jj Try.underlying22 rfl rfl hMp rfl ?_
    refine Jl rfl rfl ?_
    refine ZQ (m - 1 - i) Try.underlying22 Try.el3 rfl rfl rfl (by omega) hR rfl ?_
    have hcell := hR.at_ (Jmc (show m - 1 - i < xs.length by have := hR.ilen; omega))
    refine Jj Try.underlying3 rfl rfl hcell rfl ?_
    refine Jiz (vs := [.int .i64 ((m - 1 - i : Nat) : Int), .int .i64 (xs.getD (m - 1 - i) 0)]) rfl rfl rfl (hY i #[.int .i64 ((m - 1 - i : Nat) : Int), .int .i64 (xs.getD (m - 1 - i) 0)] w1 hi (by omega) ⟨_, rfl, hcell⟩) (fun e w' h => by rcases h with ⟨h, _⟩ | ⟨h, _⟩ <;> exact ⟨_, h⟩) ?_
    rintro v w2 (⟨hv, h⟩ | ⟨hv, h⟩)
    . cases hv
      refine Jb1 rfl rfl ?_
      refine Ja ?_
      refine Qt rfl ?_
      refine Ji ?_
      refine Js ?_
      refine Jl rfl rfl ?_
      refine WL.sub (r := (m : Int) - 1 - ((i + 1 : Nat) : Int)) rfl rfl (Jm6 (by omega) (by omega) (by omega)) rfl ?_
      refine JR rfl rfl ?_
      refine Ja ?_
      exact ⟨i + 1, ⟨rfl, rfl, rfl, trivial⟩, by omega, rfl, h, by omega⟩
    . cases hv
      refine Jb1 rfl rfl ?_
      refine Ja ?_
      refine J3 rfl ?_
      refine W.ret ?_
      exact ⟨_, rfl, Fin.nil (.inr ⟨i + 1, by omega, h⟩)⟩
  . have c := of_decide_eq_false c
    refine Jt ?_
    have : i = m := by omega
    subst this
    exact ⟨_, rfl, Fin.nil (.inl hi)⟩
theorem Jgf {w : World} {p ad : Addr} {q : Int} (hq : I64 q) (hp : w.cell? p = some (.pointer (some ad))) (ha : w.cell? (ad.add 3) = some (.int .i64 q)) :
  SeqJ Try.prog 133 #[.pointer (some p)] (fun _ => True) (fun i x _ => x = #[.int .i64 (i : Int)]) q.toNat w := by
 intro l J Jx Wn hW hJ hJx _ hY h0; have hp' : Wn.cell? p = some (.pointer (some ad)) := (hW.cell (World.block_lt_of_cell? w _ hp)).trans hp; have ha' : Wn.cell? (ad.add 3) = some (.int .i64 q) := (hW.cell (World.block_lt_of_cell? w _ ha)).trans ha; refine Jh (vs := [.func (.yield l) #[] #[], .pointer (some p)]) (R := fun _ w' => J q.toNat w' ∨ ∃ i, i <= q.toNat /\ Jx i w') [] Try.func133 rfl rfl rfl rfl ?_; refine Jr ?_; refine Js ?_; refine Jj Try.underlying59 rfl rfl hp' rfl ?_; refine QA rfl rfl ?_; refine Je (off := 3) Try.fla90_1 rfl rfl ?_; refine Jj Try.underlying3 rfl rfl ha' rfl ?_; refine Jl rfl rfl ?_; refine Ja ?_; refine W.block ?_; refine Jv (σ := Nat) (fun i w1 => J i w1 /\ i <= q.toNat) (fun i => [(0, .func (.yield l) #[] #[]), (7, .int .i64 q), (8, .int .i64 (i : Int))]) (fun i => q.toNat - i) 0 ⟨h0, Nat.zero_le _⟩ ⟨rfl, rfl, rfl, trivial⟩ ?_; rintro i w1 ⟨hi, hle⟩; refine Jr ?_; refine Js ?_; refine Ql rfl rfl rfl ?_; refine Ja ?_; refine Jr ?_; refine Jg rfl (fun c => ?_) (fun c => ?_)
 .have c := of_decide_eq_true c; refine Ji ?_; refine Jr ?_; refine W.block ?_; refine Jr ?_; refine Js ?_; refine Jl rfl rfl ?_; refine JR rfl rfl ?_; refine Ja ?_; refine Jr ?_; refine Js ?_; refine Jl rfl rfl ?_; refine Jl rfl rfl ?_; refine Jiz (vs := [.int .i64 (i : Int)]) rfl rfl rfl (hY i #[.int .i64 (i : Int)] w1 hi (by omega) rfl) (fun e w' h => by rcases h with ⟨h, _⟩ | ⟨h, _⟩ <;> exact ⟨_, h⟩) ?_; rintro v w2 (⟨hv, h⟩ | ⟨hv, h⟩)
  .cases hv; refine Jb1 rfl rfl ?_; refine Ja ?_; refine Qt rfl ?_; refine Ji ?_; refine Js ?_; refine WL.add (r := ((i + 1 : Nat) : Int)) rfl rfl (Jm6 (by omega) (by have := hq.2; omega) (by omega)) rfl ?_; refine Jl rfl rfl ?_; refine Ja ?_; exact ⟨i + 1, ⟨rfl, rfl, rfl, trivial⟩, by omega, rfl, h, by omega⟩
  .cases hv; refine Jb1 rfl rfl ?_; refine Ja ?_; refine J3 rfl ?_; refine W.ret ?_; exact ⟨_, rfl, Fin.nil (.inr ⟨i + 1, by omega, h⟩)⟩
 .have c := of_decide_eq_false c; refine Jt ?_; have : i = q.toNat := by omega
  subst this; exact ⟨_, rfl, Fin.nil (.inl hi)⟩
end Go.Proofs.Ytjgpkljepgcekaa
namespace Go.Proofs.Ytjgpkljepgcekaa
open Go.RowKit
/-! ### a field in memory -/
structure GFv where
  P : Int
  M : Int
  mod : LI
  q : Int
  exp : LI
  log : LI
  above : LI
def GFR (B : Nat) (w : World) (ad : Addr) (F : GFv) : Prop := ∃ A1 k1 A2 k2 A3 k3 A4 k4,
  Rd B w 7 (some ad) 1 1 [.int .i64 F.P, .int .i64 F.M, .slice A1 F.mod.length k1, .int .i64 F.q, .slice A2 F.exp.length k2, .slice A3 F.log.length k3, .slice A4 F.above.length k4] /\
  Rd B w 1 A1 F.mod.length k1 (is F.mod) /\ Rd B w 1 A2 F.exp.length k2 (is F.exp) /\ Rd B w 1 A3 F.log.length k3 (is F.log) /\ Rd B w 1 A4 F.above.length k4 (is F.above)
theorem GFR.ext {B : Nat} {w w' : World} {ad : Addr} {F : GFv} (h : GFR B w ad F) (hg : w.grownBy w' none) : GFR B w' ad F := by
 obtain ⟨A1, k1, A2, k2, A3, k3, A4, k4, h1, h2, h3, h4, h5⟩ := h; exact ⟨A1, k1, A2, k2, A3, k3, A4, k4, h1.ext hg, h2.ext hg, h3.ext hg, h4.ext hg, h5.ext hg⟩
/-- A field that lies between two blocks. -/
def GFX (lo B : Nat) (w : World) (ad : Addr) (F : GFv) : Prop := ∃ A1 k1 A2 k2 A3 k3 A4 k4,
  (Rd B w 7 (some ad) 1 1 [.int .i64 F.P, .int .i64 F.M, .slice A1 F.mod.length k1, .int .i64 F.q, .slice A2 F.exp.length k2, .slice A3 F.log.length k3, .slice A4 F.above.length k4] /\ lo <= ad.block) /\
  (Rd B w 1 A1 F.mod.length k1 (is F.mod) /\ ∀ g, bl A1 = some g -> lo <= g) /\ (Rd B w 1 A2 F.exp.length k2 (is F.exp) /\ ∀ g, bl A2 = some g -> lo <= g) /\ (Rd B w 1 A3 F.log.length k3 (is F.log) /\ ∀ g, bl A3 = some g -> lo <= g) /\ (Rd B w 1 A4 F.above.length k4 (is F.above) /\ ∀ g, bl A4 = some g -> lo <= g)
theorem GFX.gfr {lo B : Nat} {w : World} {ad : Addr} {F : GFv} (h : GFX lo B w ad F) : GFR B w ad F := by
 obtain ⟨A1, k1, A2, k2, A3, k3, A4, k4, h1, h2, h3, h4, h5⟩ := h; exact ⟨A1, k1, A2, k2, A3, k3, A4, k4, h1.1, h2.1, h3.1, h4.1, h5.1⟩
theorem Rd.steady {lo B : Nat} {w w' : World} {z : Nat} {A : Option Addr} {m c : Nat} {cs : List Value} (h : Rd B w z A m c cs) (hl : ∀ g, bl A = some g -> lo <= g) (hw : ∀ k, lo <= k -> k < B -> w'.heap[k]? = w.heap[k]?) : Rd B w' z A m c cs :=
 ⟨h.len, h.cap, h.max, fun hm => by
  obtain ⟨ad, e1, e2, e3⟩ := h.cells hm; refine ⟨ad, e1, e2, fun j u hu => (World.cell?_of_block (hw _ ?_ ?_)).trans (e3 j u hu)⟩
  .rw [QG]; exact hl _ (by rw [e1]; rfl)
  .rw [QG]; exact e2⟩
theorem GFX.steady {lo B : Nat} {ad : Addr} {F : GFv} : Jsb lo B (fun w => GFX lo B w ad F) := by
 rintro w w' hw ⟨A1, k1, A2, k2, A3, k3, A4, k4, h1, h2, h3, h4, h5⟩; exact ⟨A1, k1, A2, k2, A3, k3, A4, k4, ⟨h1.1.steady (fun g hg => by cases hg; exact h1.2) hw, h1.2⟩, ⟨h2.1.steady h2.2 hw, h2.2⟩, ⟨h3.1.steady h3.2 hw, h3.2⟩, ⟨h4.1.steady h4.2 hw, h4.2⟩, ⟨h5.1.steady h5.2 hw, h5.2⟩⟩
theorem gfx_mk {lo B : Nat} {w : World} {ad : Addr} {F : GFv} {A1 A2 A3 A4 : Option Addr} {k1 k2 k3 k4 n1 n2 n3 n4 : Nat}
  (h : Rd B w 7 (some ad) 1 1 [.int .i64 F.P, .int .i64 F.M, .slice A1 n1 k1, .int .i64 F.q, .slice A2 n2 k2, .slice A3 n3 k3, .slice A4 n4 k4]) (hl : lo <= ad.block)
  (h1 : Rd B w 1 A1 n1 k1 (is F.mod) /\ ∀ g, bl A1 = some g -> lo <= g) (h2 : Rd B w 1 A2 n2 k2 (is F.exp) /\ ∀ g, bl A2 = some g -> lo <= g) (h3 : Rd B w 1 A3 n3 k3 (is F.log) /\ ∀ g, bl A3 = some g -> lo <= g) (h4 : Rd B w 1 A4 n4 k4 (is F.above) /\ ∀ g, bl A4 = some g -> lo <= g) : GFX lo B w ad F := by
 have e1 := h1.1.ilen; have e2 := h2.1.ilen; have e3 := h3.1.ilen; have e4 := h4.1.ilen; subst e1; subst e2; subst e3; subst e4; exact ⟨A1, k1, A2, k2, A3, k3, A4, k4, ⟨h, hl⟩, h1, h2, h3, h4⟩
theorem St.base {X : World -> Prop} {w0 w : World} {R : List Rw} {i e z m c : Nat} {A : Option Addr} {cs : List Value} (h : St X w0 none w R) (hi : R[i]? = some (.row e z A m c cs)) : ∀ g, bl A = some g -> w0.heap.size <= g := fun g hg => ((h.rows.get hi).2 g hg).resolve_right (by simp)
theorem GFR.norm {B : Nat} {w : World} {ad : Addr} {F : GFv} (h : GFR B w ad F) : GFR w.heap.size w ad F := by
 obtain ⟨A1, k1, A2, k2, A3, k3, A4, k4, h1, h2, h3, h4, h5⟩ := h; exact ⟨A1, k1, A2, k2, A3, k3, A4, k4, h1.norm, h2.norm, h3.norm, h4.norm, h5.norm⟩
end Go.Proofs.Ytjgpkljepgcekaa
namespace Go.Proofs.Ytjgpkljepgcekaa
open Go.RowKit
def Jea (x : Int) (Pf : Int) (Mf : Int) (mf : LI) (Q : Bool -> Prop) : Prop :=
  ((x < 0) -> Q true) /\ (¬ (x < 0) -> (Q (decide (Pf <= x))))
theorem Jnr {w : World} {Q : Bool -> Prop} {x : Int} {Pf : Int} {Mf : Int} {mf : LI} {af : Addr} {Bf Cf : Nat} {Af : Option Addr} {nf kf : Nat} (hcf : Rd Cf w 3 (some af) 1 1 [.int .i64 Pf, .int .i64 Mf, .slice Af nf kf]) (hmf : Rd Bf w 1 Af nf kf (is mf)) (hv : Jea x Pf Mf mf Q) :
   Calls Try.prog 106 #[.int .i64 x, .pointer (some af)] w <| Rt w fun v Qr => ∃ (r0 : Bool), v = .bool r0 /\ Qr = [] /\ Q r0 := by
 have hnf := hmf.ilen; subst hnf; refine Jk <| Jh (vs := [nI x, .pointer (some af)]) [3] XF106 rfl rfl rfl rfl ?_; have hS := Jp w; unfold Jea at hv; refine Jc 8 <| Jl rfl rfl ?_; by_cases g11 : x < 0
 .have hv := hv.1 g11; rw [decide_eq_true g11]; refine Jb 7 <| W.ret <| ⟨_, rfl, Fin.nil ?_⟩
  exact (hS.pick [] rfl).fin rfl ⟨true, rfl, rfl, hv⟩
 have hv := hv.2 g11; rw [decide_eq_false g11]; refine Jb 3 <| Je (off := 0) JV rfl rfl <| WL.take rfl <| Jj XU3 rfl rfl (Rd.at_ (hS.ro hcf) (j := 0) rfl) rfl <| Jb 5 <| W.ret <| ⟨_, rfl, Fin.nil ?_⟩
 exact (hS.pick [] rfl).fin rfl ⟨(decide (Pf <= x)), rfl, rfl, hv⟩
def Jal (x : Int) (Q : Bool -> Prop) : Prop :=
  Q (decide (x ≠ 0))
theorem Jhv {w : World} {Q : Bool -> Prop} {x : Int}  (hv : Jal x Q) :
  Calls Try.prog 154 #[.int .i64 x] w <| Rt w fun v Qr => ∃ (r0 : Bool), v = .bool r0 /\ Qr = [] /\ Q r0 := by
 refine Jk <| Jh (vs := [nI x]) [2] XF154 rfl rfl rfl rfl ?_; have hS := Jp w; unfold Jal at hv; refine Jc 10 <| W.ret <| ⟨_, rfl, Fin.nil ?_⟩
 exact (hS.pick [] rfl).fin rfl ⟨(decide (x ≠ 0)), rfl, rfl, hv⟩
def Jgy (l : LI) (p : Int -> (Bool -> Prop) -> Prop) (Q : Int -> Prop) : Prop :=
  ∃ (I14 : Int -> Prop) (μ15 : Int -> Nat), I14 0 /\ ∀ (z13 : Int), (I14 z13 -> (((z13 < (l.length : Int)) -> ((0 <= z13 /\ z13 < (l.length : Nat)) /\ (p (gi l z13) (fun b20 => ((b20 = true) -> Q z13) /\ (b20 = false -> ((I64 (z13 + 1)) /\ (I14 (z13 + 1) /\ μ15 (z13 + 1) < μ15 z13))))))) /\ (¬ (z13 < (l.length : Int)) -> (Q (-1 : Int)))))
theorem Jqb {w : World} {Q : Int -> Prop} {l : LI} {p : Int -> (Bool -> Prop) -> Prop} {Bl : Nat} {Al : Option Addr} {nl kl : Nat} (hl : Rd Bl w 1 Al nl kl (is l)) {cfp : Nat} {cgp : Func} {ccp : Code} {csp : List Value} (hcfp : Try.prog.funcs[cfp]? = some cgp) (hcbp : cgp.body = some ccp) (hcnp : (cgp.name == "runtime.NumGoroutine") = false) (hclp : ∀ (wc : World) (xc : Int) (Qc : Bool -> Prop), w.grownBy wc none -> p xc Qc -> Calls Try.prog cfp (.int .i64 xc :: csp).toArray wc fun e w' => ∃ v Qr, e = .returned v /\ wc.grownBy w' none /\ Rows wc.heap.size none w' Qr /\ News wc.heap.size Qr /\ ∃ b : Bool, v = .bool b /\ Qr = [] /\ Qc b) (hv : Jgy l p Q) :
   Calls Try.prog 130 #[.slice Al nl kl, .func (.func cfp) #[] csp.toArray] w <| Rt w fun v Qr => ∃ (r0 : Int), v = .int .i64 r0 /\ Qr = [] /\ Q r0 := by
 have hnl := hl.ilen; subst hnl; refine Jk <| Jh (vs := [nS Al l kl, .func (.func cfp) #[] csp.toArray]) [4] XF130 rfl rfl rfl rfl ?_; have hS := Jp w; unfold Jgy at hv; refine Jc 8 <| WL.len Jo rfl rfl <| Jb 2 <| W.block ?_; obtain ⟨I14, μ15, hv, hk23⟩ := hv; refine Jv (σ := Int) (fun z13 w1 => I14 z13 /\ St TT w none w1 []) (fun z13 => [(0, nS Al l kl), (1, .func (.func cfp) #[] csp.toArray), (4, nI 0), (7, nI (l.length : Int)), (8, nI z13)]) (fun z13 => μ15 z13) (0 : Int) ⟨hv, hS⟩ ⟨rfl, rfl, rfl, rfl, rfl, trivial⟩ ?_; rintro z13 w16 ⟨hv, hS⟩; have hv := hk23 z13 hv; refine Jc 5 <| Jg rfl (fun c17 => ?_) (fun c17 => ?_)
 .have hv := hv.1 (oT c17); refine Ji <| Jr <| W.block <| Jc 10 ?_; obtain ⟨o18, hv⟩ := hv; refine Jf Jo XE3 (hS.ro hl) rfl rfl o18 rfl <| Jj XU3 rfl rfl (JD (hS.ro hl) o18) rfl <| Jsh (vs := [nI (gi l z13)]) (cs := csp) hS (hclp _ _ _ hS.ext hv) rfl hcfp hcbp hcnp rfl rfl ?_; rintro _ _ w19 ⟨b20, rfl, rfl, hv⟩ hGw19 hS
  change St _ _ _ _ [] at hS
  refine Ja <| Jg rfl (fun c21 => ?_) (fun c21 => ?_)
  .have hv := hv.1 (c21); refine Jc 5 <| W.ret <| ⟨_, rfl, Fin.nil ?_⟩
   exact (hS.pick [] rfl).fin rfl ⟨z13, rfl, rfl, hv⟩
  have hv := hv.2 (c21); refine Ji <| Js ?_; obtain ⟨o22, hv⟩ := hv; refine WL.add (r := (z13 + 1)) rfl rfl (wr o22) rfl <| Jb 2 ?_; exact ⟨(z13 + 1), sp rfl, hv.2, rfl, hv.1, hS⟩
 have hv := hv.2 (oF c17); refine Jt <| Jc 4 <| W.ret <| ⟨_, rfl, Fin.nil ?_⟩
 exact (hS.pick [] rfl).fin rfl ⟨(-1 : Int), rfl, rfl, hv⟩
def Yy (l : LI) (p : Int -> (Bool -> Prop) -> Prop) (Q : Bool -> Prop) : Prop :=
  Jgy l p (fun r12 => Q (decide ((0 : Int) <= r12)))
theorem Jcc {w : World} {Q : Bool -> Prop} {l : LI} {p : Int -> (Bool -> Prop) -> Prop} {Bl : Nat} {Al : Option Addr} {nl kl : Nat} (hl : Rd Bl w 1 Al nl kl (is l)) {cfp : Nat} {cgp : Func} {ccp : Code} {csp : List Value} (hcfp : Try.prog.funcs[cfp]? = some cgp) (hcbp : cgp.body = some ccp) (hcnp : (cgp.name == "runtime.NumGoroutine") = false) (hclp : ∀ (wc : World) (xc : Int) (Qc : Bool -> Prop), w.grownBy wc none -> p xc Qc -> Calls Try.prog cfp (.int .i64 xc :: csp).toArray wc fun e w' => ∃ v Qr, e = .returned v /\ wc.grownBy w' none /\ Rows wc.heap.size none w' Qr /\ News wc.heap.size Qr /\ ∃ b : Bool, v = .bool b /\ Qr = [] /\ Qc b) (hv : Yy l p Q) :
  Calls Try.prog 105 #[.slice Al nl kl, .func (.func cfp) #[] csp.toArray] w <| Rt w fun v Qr => ∃ (r0 : Bool), v = .bool r0 /\ Qr = [] /\ Q r0 := by
 have hnl := hl.ilen; subst hnl; refine Jk <| Jh (vs := [nS Al l kl, .func (.func cfp) #[] csp.toArray]) [4] Jr0 rfl rfl rfl rfl ?_; have hS := Jp w; unfold Yy at hv; refine Jc 8 <| SL.call hS (Jqb (hS.ro hl) hcfp hcbp hcnp (fun wc xc Qc hg hv => hclp wc xc Qc (Jbt hS.ext hg) hv) hv) XF130 rfl XN130 rfl rfl ?_; rintro _ _ w11 ⟨r12, rfl, rfl, hv⟩ hGw11 hS; have hS := hS.n0; refine Jb 3 <| W.ret <| ⟨_, rfl, Fin.nil ?_⟩
 exact (hS.pick [] rfl).fin rfl ⟨(decide ((0 : Int) <= r12)), rfl, rfl, hv⟩
def YZ (p : Int) (l : LI) (o : LI) (Q : Bool -> Prop) : Prop :=
  YL o (fun x12 => (I64 ((x12.length : Int) - (1 : Int))) /\ (∃ (I23 : LI -> Int -> Prop) (μ24 : LI -> Int -> Nat), I23 x12 ((x12.length : Int) - (1 : Int)) /\ ∀ (x21 : LI) (z22 : Int), (I23 x21 z22 -> ((((l.length : Int) <= z22) -> (∃ (I33 : LI -> Int -> Prop) (μ34 : LI -> Int -> Nat), I33 x21 (0 : Int) /\ ∀ (x31 : LI) (z32 : Int), (I33 x31 z32 -> (((z32 < (l.length : Int)) -> ((0 <= z32 /\ z32 < (l.length : Nat)) /\ ((I64 (z22 - (l.length : Int))) /\ ((I64 ((z22 - (l.length : Int)) + z32)) /\ ((0 <= ((z22 - (l.length : Int)) + z32) /\ ((z22 - (l.length : Int)) + z32) < (x12.length : Nat)) /\ ((I64 (p - (gi l z32))) /\ ((0 <= z22 /\ z22 < (x12.length : Nat)) /\ ((I64 ((p - (gi l z32)) * (gi x31 z22))) /\ ((I64 ((gi x31 ((z22 - (l.length : Int)) + z32)) + ((p - (gi l z32)) * (gi x31 z22)))) /\ ((p ≠ 0) /\ ((0 <= ((z22 - (l.length : Int)) + z32) /\ ((z22 - (l.length : Int)) + z32) < (x12.length : Nat)) /\ ((I64 (z32 + 1)) /\ (I33 (si x31 ((z22 - (l.length : Int)) + z32) (((gi x31 ((z22 - (l.length : Int)) + z32)) + ((p - (gi l z32)) * (gi x31 z22))).tmod p)) (z32 + 1) /\ μ34 (si x31 ((z22 - (l.length : Int)) + z32) (((gi x31 ((z22 - (l.length : Int)) + z32)) + ((p - (gi l z32)) * (gi x31 z22))).tmod p)) (z32 + 1) < μ34 x31 z32))))))))))))) /\ (¬ (z32 < (l.length : Int)) -> ((I64 (z22 - 1)) /\ (I23 x31 (z22 - 1) /\ μ24 x31 (z22 - 1) < μ24 x21 z22))))))) /\ (¬ ((l.length : Int) <= z22) -> ((0 <= (l.length : Int) /\ (l.length : Int) <= (x12.length : Nat)) /\ (Yy (x21.take (l.length : Int).toNat) (fun xc Qc => Jal xc  Qc) (fun r71 => Q (!r71)))))))))
theorem Jj6 {w : World} {Q : Bool -> Prop} {p : Int} {l : LI} {o : LI} {Bl : Nat} {Al : Option Addr} {nl kl : Nat} (hl : Rd Bl w 1 Al nl kl (is l)) {Bo : Nat} {Ao : Option Addr} {no ko : Nat} (ho : Rd Bo w 1 Ao no ko (is o)) (hv : YZ p l o Q) :
   Calls Try.prog 131 #[.int .i64 p, .slice Al nl kl, .slice Ao no ko] w <| Rt w fun v Qr => ∃ (r0 : Bool), v = .bool r0 /\ Qr = [] /\ Q r0 := by
 have hnl := hl.ilen; subst hnl; have hno := ho.ilen; subst hno; refine Jk <| Jh (vs := [nI p, nS Al l kl, nS Ao o ko]) [6] XF131 rfl rfl rfl rfl ?_; have hS := Jp w; unfold YZ at hv; refine Jc 7 <| SL.call hS (Zr (hS.ro ho) hv) Joo rfl XN56 rfl rfl ?_; rintro _ _ w11 ⟨x12, A13, k14, rfl, rfl, hv⟩ hGw11 hS; have hS := hS.n1; refine Jb 2 <| Jc 4 <| WL.len Jo rfl rfl ?_; obtain ⟨o16, hv⟩ := hv; refine WL.sub (r := ((x12.length : Int) - (1 : Int))) rfl rfl (wr o16) rfl <| Jb 2 <| W.block ?_; obtain ⟨I23, μ24, hv, hk72⟩ := hv; refine Jv (σ := LI × Int) (fun q w1 => match q with | (x21, z22) => I23 x21 z22 /\ St TT w none w1 [.row 3 1 A13 x12.length k14 (is x21)]) (fun (x21, z22) => [(0, nI p), (1, nS Al l kl), (6, .bool false), (7, nS A13 x12 k14), (8, nI z22)]) (fun (x21, z22) => μ24 x21 z22) (x12, ((x12.length : Int) - (1 : Int))) ⟨hv, hS⟩ ⟨rfl, rfl, rfl, rfl, rfl, trivial⟩ ?_; rintro ⟨x21, z22⟩ w25 ⟨hv, hS⟩; have hv := hk72 x21 z22 hv; refine Jc 5 <| WL.len Jo rfl rfl <| Jb 2 <| Jg rfl (fun c26 => ?_) (fun c26 => ?_)
 .have hv := hv.1 (oT c26); refine Ji <| Jr <| W.block <| Jc 3 <| WL.len Jo rfl rfl <| Jb 2 <| W.block ?_; obtain ⟨I33, μ34, hv, hk68⟩ := hv; refine Jv (σ := LI × Int) (fun q w1 => match q with | (x31, z32) => I33 x31 z32 /\ St TT w none w1 [.row 3 1 A13 x12.length k14 (is x31)]) (fun (x31, z32) => [(0, nI p), (1, nS Al l kl), (6, .bool false), (7, nS A13 x12 k14), (8, nI z22), (20, .bool (decide ((l.length : Int) <= z22))), (23, nS Al l kl), (24, nI (l.length : Int)), (25, nI z32)]) (fun (x31, z32) => μ34 x31 z32) (x21, (0 : Int)) ⟨hv, hS⟩ ⟨rfl, rfl, rfl, rfl, rfl, rfl, rfl, rfl, rfl, trivial⟩ ?_; rintro ⟨x31, z32⟩ w35 ⟨hv, hS⟩; have hv := hk68 x31 z32 hv; refine Jc 5 <| Jg rfl (fun c36 => ?_) (fun c36 => ?_)
  .have hv := hv.1 (oT c36); refine Ji <| Jr <| W.block <| Jc 3 ?_; obtain ⟨o37, hv⟩ := hv; refine Jf Jo XE3 (hS.ro hl) rfl rfl o37 rfl <| Jj XU3 rfl rfl (JD (hS.ro hl) o37) rfl <| Jb 3 <| Jc 4 <| WL.len Jo rfl rfl ?_; obtain ⟨o38, hv⟩ := hv; refine WL.sub (r := (z22 - (l.length : Int))) rfl rfl (wr o38) rfl <| Jl rfl rfl ?_; obtain ⟨o39, hv⟩ := hv; refine WL.add (r := ((z22 - (l.length : Int)) + z32)) rfl rfl (wr o39) rfl <| Jb 2 ?_; obtain ⟨o45, hv⟩ := hv; obtain ⟨o50, hv⟩ := hv; obtain ⟨o54, hv⟩ := hv; obtain ⟨o57, hv⟩ := hv; obtain ⟨o59, hv⟩ := hv; obtain ⟨o62, hv⟩ := hv; refine JQ 17 [⟨[], [7], true⟩, ⟨[], [11], true⟩, ⟨[], [7], true⟩, ⟨[], [11], true⟩, ⟨[2, 3], [], true⟩, ⟨[4], [], false⟩, ⟨[], [0], true⟩, ⟨[], [10], true⟩, ⟨[6, 7], [], true⟩, ⟨[], [7], true⟩, ⟨[], [8], true⟩, ⟨[9, 10], [], true⟩, ⟨[11], [], false⟩, ⟨[8, 12], [], true⟩, ⟨[5, 13], [], true⟩, ⟨[], [0], true⟩, ⟨[14, 15], [], true⟩] [(36, nS A13 x12 k14), (37, nI ((z22 - (l.length : Int)) + z32)), (38, nS A13 x12 k14), (39, nI ((z22 - (l.length : Int)) + z32)), (40, .pointer (some ((JH A13).add (((z22 - (l.length : Int)) + z32).toNat)))), (41, nI (gi x31 ((z22 - (l.length : Int)) + z32))), (42, nI p), (43, nI (gi l z32)), (44, nI (p - (gi l z32))), (45, nS A13 x12 k14), (46, nI z22), (47, .pointer (some ((JH A13).add z22.toNat))), (48, nI (gi x31 z22)), (49, nI ((p - (gi l z32)) * (gi x31 z22))), (50, nI ((gi x31 ((z22 - (l.length : Int)) + z32)) + ((p - (gi l z32)) * (gi x31 z22)))), (51, nI p), (52, nI (((gi x31 ((z22 - (l.length : Int)) + z32)) + ((p - (gi l z32)) * (gi x31 z22))).tmod p))] Try.mixed (by kernel_rfl) rfl rfl ?_ ?_
   .refine ⟨oD, oD, oD, oD, fun _ _ _ => Jf Jo XE3 (hS.rd (i := 0) rfl) rfl rfl o45 rfl <| Ja ⟨rfl, rfl⟩, og hS fun _ _ hS => Jj XU3 rfl rfl (JD (hS.rd (i := 0) rfl) o45) rfl <| Ja ⟨rfl, Jd _⟩, oD, oD, fun _ _ _ => WL.sub (r := (p - (gi l z32))) rfl rfl (wr o50) rfl <| Ja ⟨rfl, rfl⟩, oD, oD, fun _ _ _ => Jf Jo XE3 (hS.rd (i := 0) rfl) rfl rfl o54 rfl <| Ja ⟨rfl, rfl⟩, og hS fun _ _ hS => Jj XU3 rfl rfl (JD (hS.rd (i := 0) rfl) o54) rfl <| Ja ⟨rfl, Jd _⟩, fun _ _ _ => WL.mul (r := ((p - (gi l z32)) * (gi x31 z22))) rfl rfl (wr o57) rfl <| Ja ⟨rfl, rfl⟩, fun _ _ _ => WL.add (r := ((gi x31 ((z22 - (l.length : Int)) + z32)) + ((p - (gi l z32)) * (gi x31 z22)))) rfl rfl (wr o59) rfl <| Ja ⟨rfl, rfl⟩, oD, fun _ _ _ => J4 (r := (((gi x31 ((z22 - (l.length : Int)) + z32)) + ((p - (gi l z32)) * (gi x31 z22))).tmod p)) rfl rfl o62 rfl rfl <| Ja ⟨rfl, rfl⟩, trivial⟩
   intro w63 hT; have hS := hS.grow hT; refine Jn 17 rfl ?_; obtain ⟨o64, hv⟩ := hv; refine Jf Jo XE3 (hS.rd (i := 0) rfl) rfl rfl o64 rfl <| Ja <| Jn 18 rfl <| Jz (cs' := is (si x31 ((z22 - (l.length : Int)) + z32) (((gi x31 ((z22 - (l.length : Int)) + z32)) + ((p - (gi l z32)) * (gi x31 z22))).tmod p))) 0 ((z22 - (l.length : Int)) + z32).toNat hS rfl XE3 rfl rfl rfl (Qp (hS.rd (i := 0) rfl) o64) (J7 _ _ _) ?_; intro w65 hS; refine Ja <| JK <| Js ?_; obtain ⟨o66, hv⟩ := hv; refine WL.add (r := (z32 + 1)) rfl rfl (wr o66) rfl <| Jb 2 ?_; exact ⟨(si x31 ((z22 - (l.length : Int)) + z32) (((gi x31 ((z22 - (l.length : Int)) + z32)) + ((p - (gi l z32)) * (gi x31 z22))).tmod p), (z32 + 1)), sp rfl, hv.2, rfl, hv.1, hS⟩
  have hv := hv.2 (oF c36); refine Jt <| Jc 2 ?_; obtain ⟨o67, hv⟩ := hv; refine WL.sub (r := (z22 - 1)) rfl rfl (wr o67) rfl <| Jb 2 ?_; exact ⟨(x31, (z22 - 1)), sp rfl, hv.2, rfl, hv.1, hS⟩
 have hv := hv.2 (oF c26); refine Jt <| Jc 4 <| WL.len Jo rfl rfl ?_; obtain ⟨o69, hv⟩ := hv; refine Zk Jo XE3 (hS.rd (i := 0) rfl) rfl rfl o69 rfl (x21.take (l.length : Int).toNat).length (Jcs (hS.rd (i := 0) rfl) o69) <| SL.call hS (Jcc (Jle (hS.rd (i := 0) rfl) o69) XF154 rfl XN154 (fun wc xc Qc hg hv => Jhv  hv) hv) Jr0 rfl XN105 rfl rfl ?_; rintro _ _ w70 ⟨r71, rfl, rfl, hv⟩ hGw70 hS; have hS := hS.n0; refine Jb 3 <| W.ret <| ⟨_, rfl, Fin.nil ?_⟩
 exact (hS.pick [] rfl).fin rfl ⟨(!r71), rfl, rfl, hv⟩
def QS (Pf : Int) (Mf : Int) (mf : LI) (Q : Bool -> Prop) : Prop :=
  YL mf (fun x14 => (((x14.length : Nat) + (1 : Nat) : Int) * 8 <= 140737488355328) /\ (∃ (I36 : Int -> Int -> Prop) (μ37 : Int -> Int -> Nat), I36 1 Pf /\ ∀ (z34 : Int) (z35 : Int), (I36 z34 z35 -> ((I64 ((2 : Int) * z34)) /\ (((((2 : Int) * z34) <= Mf) -> (∃ (I44 : Int -> Prop) (μ45 : Int -> Nat), I44 0 /\ ∀ (z43 : Int), (I44 z43 -> (((z43 < z35) -> (∃ (x55 : LI), Y0 Pf z34 z43 (fun q => q = x55) /\ (∃ (r65 : Bool), YZ Pf x55 (x14 ++ ([(1 : Int)] : LI)) (fun q => q = r65) /\ (((r65 = true) -> Q false) /\ (r65 = false -> ((I64 (z43 + 1)) /\ (I44 (z43 + 1) /\ μ45 (z43 + 1) < μ45 z43))))))) /\ (¬ (z43 < z35) -> ((I64 (z34 + 1)) /\ ((I64 (z35 * Pf)) /\ (I36 (z34 + 1) (z35 * Pf) /\ μ37 (z34 + 1) (z35 * Pf) < μ37 z34 z35)))))))) /\ (¬ (((2 : Int) * z34) <= Mf) -> Q true))))))
theorem Jbl {w : World} {Q : Bool -> Prop} {Pf : Int} {Mf : Int} {mf : LI} {Bf : Nat} {Af : Option Addr} {nf kf : Nat} (hf : Rd Bf w 1 Af nf kf (is mf)) (hv : QS Pf Mf mf Q) :
   Calls Try.prog 107 #[.agg #[.int .i64 Pf, .int .i64 Mf, .slice Af nf kf]] w <| Rt w fun v Qr => ∃ (r0 : Bool), v = .bool r0 /\ Qr = [] /\ Q r0 := by
 have hnf := hf.ilen; subst hnf; refine Jk <| Jh (vs := [.agg #[nI Pf, nI Mf, nS Af mf kf]]) [2] XF107 rfl rfl rfl rfl ?_; have hS := Jp w; unfold QS at hv; refine Jc 2 <| JF (z := 3) (cs := [nI Pf, nI Mf, nS Af mf kf]) hS rfl rfl rfl rfl ?_; intro g11 w12 hS; refine Jb 2 <| Jc 2 <| Je (off := 2) QL rfl rfl <| Jm 0 2 Jo hS rfl rfl rfl ⟨rfl, rfl⟩ <| SL.call hS (Zr (hS.ro hf) hv) Joo rfl XN56 rfl rfl ?_; rintro _ _ w13 ⟨x14, A15, k16, rfl, rfl, hv⟩ hGw13 hS; have hS := hS.n1; refine QI (vs := is ([(1 : Int)] : LI)) hS Jo XE3 rfl rfl rfl rfl (Qb _) rfl ?_; intro A18 w19 hS; obtain ⟨o21, hv⟩ := hv; refine SL.append (cs := is x14) (cs' := is ([(1 : Int)] : LI)) 1 ((x14 ++ ([(1 : Int)] : LI)).length) (is (x14 ++ ([(1 : Int)] : LI))) hS rfl Jo XE3 (hS.rd (i := 0) rfl) (Qb _) rfl rfl (apk o21).1 (apk o21).2 (Zt (hS.rd (i := 1) rfl) (hS.rd (i := 0) rfl)) (J9 _ _) rfl ?_; intro A22 k23 w24 hS; refine Jb 2 <| Jc 2 <| JQ 4 [⟨[], [1], true⟩, ⟨[0], [], false⟩, ⟨[], [], true⟩, ⟨[1], [], true⟩] [(12, nP g11), (13, nI Pf), (4, nI 1), (5, nI Pf)] Try.mixed (by kernel_rfl) rfl rfl ?_ ?_
 . refine ⟨fun _ _ _ => Je (off := 0) JV rfl rfl <| Ja ⟨rfl, rfl⟩, og hS fun _ _ hS => Jm 2 0 XU3 hS rfl rfl rfl ⟨rfl, rfl⟩ <| Ja ⟨rfl, Jd _⟩, oD, oD, trivial⟩
 intro w29 hT; have hS := hS.grow hT; refine JK <| W.block ?_; obtain ⟨I36, μ37, hv, hk83⟩ := hv; refine Jv (σ := Int × Int) (fun q w1 => match q with | (z34, z35) => I36 z34 z35 /\ St TT w none w1 [.row 3 1 A18 1 1 (is ([(1 : Int)] : LI)), .row 3 1 A22 ((x14 ++ ([(1 : Int)] : LI)).length) k23 (is (x14 ++ ([(1 : Int)] : LI))), .row 24 3 (nA g11) 1 1 [nI Pf, nI Mf, nS Af mf kf]]) (fun (z34, z35) => [(1, nP g11), (2, .bool false), (3, .slice A22 ((x14 ++ ([(1 : Int)] : LI)).length) k23), (4, nI z34), (5, nI z35)]) (fun (z34, z35) => μ37 z34 z35) ((1 : Int), Pf) ⟨hv, hS⟩ ⟨rfl, rfl, rfl, rfl, rfl, trivial⟩ ?_; rintro ⟨z34, z35⟩ w38 ⟨hv, hS⟩; have hv := hk83 z34 z35 hv; refine Jc 4 ?_; obtain ⟨o39, hv⟩ := hv; refine WL.mul (r := ((2 : Int) * z34)) rfl rfl (wr o39) rfl <| Je (off := 1) J8 rfl rfl <| Jm 2 1 XU3 hS rfl rfl rfl ⟨rfl, rfl⟩ <| Jb 2 <| Jg rfl (fun c40 => ?_) (fun c40 => ?_)
 .have hv := hv.1 (oT c40); refine Ji <| Jr <| W.block <| Jc 5 <| W.block ?_; obtain ⟨I44, μ45, hv, hk82⟩ := hv; refine Jv (σ := Int) (fun z43 w1 => I44 z43 /\ St TT w none w1 [.row 3 1 A18 1 1 (is ([(1 : Int)] : LI)), .row 3 1 A22 ((x14 ++ ([(1 : Int)] : LI)).length) k23 (is (x14 ++ ([(1 : Int)] : LI))), .row 24 3 (nA g11) 1 1 [nI Pf, nI Mf, nS Af mf kf]]) (fun z43 => [(1, nP g11), (2, .bool false), (3, .slice A22 ((x14 ++ ([(1 : Int)] : LI)).length) k23), (4, nI z34), (5, nI z35), (18, .bool (decide (((2 : Int) * z34) <= Mf))), (25, nI z35), (26, nI z43)]) (fun z43 => μ45 z43) (0 : Int) ⟨hv, hS⟩ ⟨rfl, rfl, rfl, rfl, rfl, rfl, rfl, rfl, trivial⟩ ?_; rintro z43 w46 ⟨hv, hS⟩; have hv := hk82 z43 hv; refine Jc 5 <| Jg rfl (fun c47 => ?_) (fun c47 => ?_)
  .have hv := hv.1 (oT c47); refine Ji <| Jr <| W.block <| Jc 6 ?_; obtain ⟨x55, o62, hv⟩ := hv; obtain ⟨r65, o67, hv⟩ := hv; have hS0 := hS; refine QD 9 (fun iA => [false, false, false, false, false, false, true, false, false].getD iA false) (fun _ => none) (fun _ v u => u = v) [⟨[], [1], true⟩, ⟨[0], [], false⟩, ⟨[], [1], true⟩, ⟨[2], [], false⟩, ⟨[], [4], true⟩, ⟨[], [6], true⟩, ⟨[3, 4, 5], [], false⟩, ⟨[], [3], true⟩, ⟨[1, 6, 7], [], false⟩] [.k 29 (nP g11), .k 30 (nI Pf), .k 31 (nP g11), .k 32 (nI Pf), .k 33 (nI z34), .k 34 (nI z43), eS w46 35 3 x55.length (is x55), .k 36 (.slice A22 ((x14 ++ ([(1 : Int)] : LI)).length) k23), .k 37 (.bool r65)] (fun _ => vbD) Try.mixed (by kernel_rfl) rfl rfl (fun _ _ _ _ _ _ _ h => h) ?_ ?_
   . refine ⟨fun _ _ _ => Je (off := 0) JV rfl rfl <| Ja ⟨rfl, rfl⟩, og hS fun _ _ hS => Jm 2 0 XU3 hS rfl rfl rfl ⟨rfl, rfl⟩ <| Ja ⟨rfl, Jd _⟩, fun _ _ _ => Je (off := 0) JV rfl rfl <| Ja ⟨rfl, rfl⟩, og hS fun _ _ hS => Jm 2 0 XU3 hS rfl rfl rfl ⟨rfl, rfl⟩ <| Ja ⟨rfl, Jd _⟩, oC, oC, ?_, oC, ?_, trivial⟩
     .intro w54 hE; have hE := hE rfl; have hS := hS.grow hE; intro RR; refine WL.call Jms rfl Jrq rfl rfl (JO (Jbm  o62)) ?_; rintro _ w59 ⟨_, hGw59, hRww59, hNww59, x55q, A56, k57, rfl, rfl, he⟩; subst he; have hO60 := (hRww59.get (i := 0) rfl).1; have hN61 : ∀ g, bl A56 = some g -> _ <= g := fun g hg => Nat.le_trans hE.size (hNww59.1 g hg); exact Ja ⟨_, rfl, hGw59, ⟨A56, k57, rfl, hO60, hN61⟩, (fun _ => fun g hg => ⟨hNww59.1 g hg, (hO60.bl_ge g hg).2⟩), (fun j h => by cases h)⟩
     intro w64 hE; have hS := hS.grow (hE rfl); rintro _ ⟨A56_6, k57_6, rfl, hO60_6, hN61_6⟩; intro RR; refine WL.call XF131 rfl XN131 rfl rfl (JO (Jj6 hO60_6.rd (hS.rd (i := 1) rfl) o67)) ?_; rintro _ w66 ⟨_, hGw66, hRww66, hNww66, r65q, rfl, rfl, he⟩; subst he; exact Ja ⟨rfl, hGw66⟩
   intro vals w68 hT hVs hAp hCp; have hS := hS.grow hT; obtain ⟨A56_6, k57_6, hv6, hO60_6, hN61_6⟩ := hVs 6 (by decide); refine YV [(6, nS A56_6 x55 k57_6)] ⟨hv6, trivial⟩ <| JK <| Jg rfl (fun c69 => ?_) (fun c69 => ?_)
   .have hv := hv.1 (c69); refine Jc 4 <| W.ret <| ⟨_, rfl, Fin.nil ?_⟩
    exact (hS.pick [] rfl).fin rfl ⟨false, rfl, rfl, hv⟩
   have hv := hv.2 (c69); refine Ji <| Js ?_; obtain ⟨o70, hv⟩ := hv; refine WL.add (r := (z43 + 1)) rfl rfl (wr o70) rfl <| Jb 2 ?_; exact ⟨(z43 + 1), sp rfl, hv.2, rfl, hv.1, hS⟩
  have hv := hv.2 (oF c47); refine Jt ?_; obtain ⟨o73, hv⟩ := hv; obtain ⟨o78, hv⟩ := hv; refine JQ 8 [⟨[], [4], true⟩, ⟨[0], [], true⟩, ⟨[], [5], true⟩, ⟨[], [1], true⟩, ⟨[3], [], false⟩, ⟨[2, 4], [], true⟩, ⟨[1], [], true⟩, ⟨[5], [], true⟩] [(19, nI z34), (20, nI (z34 + 1)), (21, nI z35), (22, nP g11), (23, nI Pf), (24, nI (z35 * Pf)), (4, nI (z34 + 1)), (5, nI (z35 * Pf))] Try.mixed (by kernel_rfl) rfl rfl ?_ ?_
  . refine ⟨oD, fun _ _ _ => WL.add (r := (z34 + 1)) rfl rfl (wr o73) rfl <| Ja ⟨rfl, rfl⟩, oD, fun _ _ _ => Je (off := 0) JV rfl rfl <| Ja ⟨rfl, rfl⟩, og hS fun _ _ hS => Jm 2 0 XU3 hS rfl rfl rfl ⟨rfl, rfl⟩ <| Ja ⟨rfl, Jd _⟩, fun _ _ _ => WL.mul (r := (z35 * Pf)) rfl rfl (wr o78) rfl <| Ja ⟨rfl, rfl⟩, oD, oD, trivial⟩
  intro w81 hT; have hS := hS.grow hT; refine JK ?_; exact ⟨((z34 + 1), (z35 * Pf)), sp rfl, hv.2, rfl, hv.1, hS⟩
 have hv := hv.2 (oF c40); refine Jt <| Jc 4 <| W.ret <| ⟨_, rfl, Fin.nil ?_⟩
 exact (hS.pick [] rfl).fin rfl ⟨true, rfl, rfl, hv⟩
def Jc0 (Pf : Int) (Mf : Int) (mf : LI) (Q : Int -> Prop) : Prop :=
  (((256 : Int) < Pf) -> (Q 1)) /\ (¬ ((256 : Int) < Pf) -> (ZW Pf (fun r15 => (((!r15) = true) -> (Q 1)) /\ ((!r15) = false -> (((Mf < 1) -> (Q 1)) /\ (¬ (Mf < 1) -> (Zg Pf Mf mf (fun r19 => (((256 : Int) < r19) -> (Q 1)) /\ (¬ ((256 : Int) < r19) -> (((Mf = 1) -> (Jd9 (decide ((mf.length : Int) = (0 : Int))) (fun r23 => Q r23))) /\ (¬ (Mf = 1) -> ((((mf.length : Int) ≠ Mf) -> (Q 1)) /\ (¬ ((mf.length : Int) ≠ Mf) -> (Yy mf (fun xc Qc => Jea xc Pf Mf mf Qc) (fun r26 => ((r26 = true) -> (Q 1)) /\ (r26 = false -> (QS Pf Mf mf (fun r29 => Jd9 r29 (fun r31 => Q r31)))))))))))))))))))
theorem Jqc {w : World} {Q : Int -> Prop} {Pf : Int} {Mf : Int} {mf : LI} {Bf : Nat} {Af : Option Addr} {nf kf : Nat} (hf : Rd Bf w 1 Af nf kf (is mf)) (hv : Jc0 Pf Mf mf Q) :
   Calls Try.prog 73 #[.agg #[.int .i64 Pf, .int .i64 Mf, .slice Af nf kf]] w <| Rt w fun v Qr => ∃ (r0 : Int), v = .int .i64 r0 /\ Qr = [] /\ Q r0 := by
 have hnf := hf.ilen; subst hnf; refine Jk <| Jh (vs := [.agg #[nI Pf, nI Mf, nS Af mf kf]]) [2] XF73 rfl rfl rfl rfl ?_; have hS := Jp w; unfold Jc0 at hv; refine Jc 2 <| JF (z := 3) (cs := [nI Pf, nI Mf, nS Af mf kf]) hS rfl rfl rfl rfl ?_; intro g11 w12 hS; refine Jb 2 <| Jc 3 <| Je (off := 0) JV rfl rfl <| Jm 0 0 XU3 hS rfl rfl rfl ⟨rfl, rfl⟩ <| Jgs rfl rfl rfl <| Jl rfl rfl ?_; by_cases g13 : (256 : Int) < Pf
 .have hv := hv.1 g13; rw [decide_eq_true g13]; refine Jb 16 <| J3 rfl <| Jc 4 <| W.ret <| ⟨_, rfl, Fin.nil ?_⟩
  exact (hS.pick [] rfl).fin rfl ⟨(1 : Int), rfl, rfl, hv⟩
 have hv := hv.2 g13; rw [decide_eq_false g13]; refine WL.take rfl <| Je (off := 0) JV rfl rfl <| WL.take rfl <| Jm 0 0 XU3 hS rfl rfl rfl ⟨rfl, rfl⟩ <| WL.take rfl <| SL.call hS (Jj5  hv) XF103 rfl XN103 rfl rfl ?_; rintro _ _ w14 ⟨r15, rfl, rfl, hv⟩ hGw14 hS; have hS := hS.n0; refine Jb 3 <| Jl rfl rfl ?_; rcases g16 : (!r15) with _ | _
 .have hv := hv.2 g16; refine WL.take rfl <| Je (off := 1) J8 rfl rfl <| WL.take rfl <| Jm 0 1 XU3 hS rfl rfl rfl ⟨rfl, rfl⟩ <| Jb 3 <| Jl rfl rfl ?_; by_cases g17 : Mf < 1
  .have hv := hv.1 g17; rw [decide_eq_true g17]; refine Jb 5 <| J3 rfl <| Jc 4 <| W.ret <| ⟨_, rfl, Fin.nil ?_⟩
   exact (hS.pick [] rfl).fin rfl ⟨(1 : Int), rfl, rfl, hv⟩
  have hv := hv.2 g17; rw [decide_eq_false g17]; refine WL.take rfl <| JI 0 JZ J1 hS rfl ⟨rfl, rfl⟩ rfl <| WL.take rfl <| SL.call hS (Zq (hS.ro hf) hv) Jon rfl XN75 rfl rfl ?_; rintro _ _ w18 ⟨r19, rfl, rfl, hv⟩ hGw18 hS; have hS := hS.n0; refine Jb 4 <| Jg rfl (fun c20 => ?_) (fun c20 => ?_)
  .have hv := hv.1 (oT c20); refine Jc 4 <| W.ret <| ⟨_, rfl, Fin.nil ?_⟩
   exact (hS.pick [] rfl).fin rfl ⟨(1 : Int), rfl, rfl, hv⟩
  have hv := hv.2 (oF c20); refine Ji <| Jc 3 <| Je (off := 1) J8 rfl rfl <| Jm 0 1 XU3 hS rfl rfl rfl ⟨rfl, rfl⟩ <| Jb 2 <| Jg rfl (fun c21 => ?_) (fun c21 => ?_)
  .have hv := hv.1 (oT c21); refine Jc 2 <| Je (off := 2) QL rfl rfl <| Jm 0 2 Jo hS rfl rfl rfl ⟨rfl, rfl⟩ <| WL.len Jo rfl rfl <| Jgu rfl rfl rfl <| SL.call hS (Jl0  hv) Jr1 rfl XN104 rfl rfl ?_; rintro _ _ w22 ⟨r23, rfl, rfl, hv⟩ hGw22 hS; have hS := hS.n0; refine Jb 2 <| W.ret <| ⟨_, rfl, Fin.nil ?_⟩
   exact (hS.pick [] rfl).fin rfl ⟨r23, rfl, rfl, hv⟩
  have hv := hv.2 (oF c21); refine Ji <| Jc 3 <| Je (off := 2) QL rfl rfl <| Jm 0 2 Jo hS rfl rfl rfl ⟨rfl, rfl⟩ <| WL.len Jo rfl rfl <| Je (off := 1) J8 rfl rfl <| Jm 0 1 XU3 hS rfl rfl rfl ⟨rfl, rfl⟩ <| Jgr rfl rfl rfl <| Jl rfl rfl ?_; by_cases g24 : (mf.length : Int) ≠ Mf
  .have hv := hv.1 g24; rw [decide_eq_true g24]; refine Jb 6 <| J3 rfl <| Jc 4 <| W.ret <| ⟨_, rfl, Fin.nil ?_⟩
   exact (hS.pick [] rfl).fin rfl ⟨(1 : Int), rfl, rfl, hv⟩
  have hv := hv.2 g24; rw [decide_eq_false g24]; refine WL.take rfl <| Je (off := 2) QL rfl rfl <| WL.take rfl <| Jm 0 2 Jo hS rfl rfl rfl ⟨rfl, rfl⟩ <| WL.take rfl <| QB (vs := [nP g11]) rfl rfl <| WL.take rfl <| SL.call hS (Jcc (hS.ro hf) XF106 rfl XN106 (fun wc xc Qc hg hv => Jnr ((hS.rd (i := 0) rfl).ext hg) ((hS.ro hf).ext hg) hv) hv) Jr0 rfl XN105 rfl rfl ?_; rintro _ _ w25 ⟨r26, rfl, rfl, hv⟩ hGw25 hS; have hS := hS.n0; refine Jb 2 <| Jg rfl (fun c27 => ?_) (fun c27 => ?_)
  .have hv := hv.1 (c27); refine Jc 4 <| W.ret <| ⟨_, rfl, Fin.nil ?_⟩
   exact (hS.pick [] rfl).fin rfl ⟨(1 : Int), rfl, rfl, hv⟩
  have hv := hv.2 (c27); refine Ji <| Jc 2 <| JI 0 JZ J1 hS rfl ⟨rfl, rfl⟩ rfl <| SL.call hS (Jbl (hS.ro hf) hv) XF107 rfl XN107 rfl rfl ?_; rintro _ _ w28 ⟨r29, rfl, rfl, hv⟩ hGw28 hS; have hS := hS.n0; refine SL.call hS (Jl0  hv) Jr1 rfl XN104 rfl rfl ?_; rintro _ _ w30 ⟨r31, rfl, rfl, hv⟩ hGw30 hS; have hS := hS.n0; refine Jb 2 <| W.ret <| ⟨_, rfl, Fin.nil ?_⟩
  exact (hS.pick [] rfl).fin rfl ⟨r31, rfl, rfl, hv⟩
 have hv := hv.1 g16; refine Jb 10 <| J3 rfl <| Jc 4 <| W.ret <| ⟨_, rfl, Fin.nil ?_⟩
 exact (hS.pick [] rfl).fin rfl ⟨(1 : Int), rfl, rfl, hv⟩
def Jak (Fg : GFv) (Q : Unit -> Prop) : Prop :=
  Q ()
theorem Jhu {w : World} {Q : Unit -> Prop} {Fg : GFv} {ag : Addr} {Bg : Nat} (hgg : GFR Bg w ag Fg) (hv : Jak Fg Q) :
  Calls Try.prog 108 #[.pointer (some ag)] w <| Rt w fun v Qr => ∃ g : Nat, v = .func (.func 133) #[] #[.pointer (some ⟨g, 0, none⟩)] /\ Qr = [.row 59 1 (some ⟨g, 0, none⟩) 1 1 [.pointer (some ag)]] /\ Q () := by
 have hgg_ := hgg; obtain ⟨Ag_mod, kg_mod, Ag_exp, kg_exp, Ag_log, kg_log, Ag_above, kg_above, hg_c, hg_mod, hg_exp, hg_log, hg_above⟩ := hgg_; refine Jk <| Jh (vs := [.pointer (some ag)]) [2] XF108 rfl rfl rfl rfl ?_; have hS := Jp w; unfold Jak at hv; refine Jc 2 <| JF (z := 1) (cs := [.pointer (some ag)]) hS rfl rfl rfl rfl ?_; intro g11 w12 hS; refine Jb 2 <| Jc 2 <| QB (vs := [nP g11]) rfl rfl <| Jb 2 <| W.ret <| ⟨_, rfl, Fin.nil ?_⟩
 exact (hS.pick [0] rfl).fin rfl ⟨g11, rfl, rfl, hv⟩
def Jam (l : LI) (Q : Unit -> Prop) : Prop :=
  Q ()
theorem Jhw {w : World} {Q : Unit -> Prop} {l : LI} {Bl : Nat} {Al : Option Addr} {nl kl : Nat} (hl : Rd Bl w 1 Al nl kl (is l)) (hv : Jam l Q) :
  Calls Try.prog 156 #[.slice Al nl kl] w <| Rt w fun v Qr => ∃ g : Nat, v = .func (.func 160) #[] #[.pointer (some ⟨g, 0, none⟩)] /\ Qr = [.row 22 1 (some ⟨g, 0, none⟩) 1 1 [.slice Al nl kl]] /\ Q () := by
 have hnl := hl.ilen; subst hnl; refine Jk <| Jh (vs := [nS Al l kl]) [2] XF156 rfl rfl rfl rfl ?_; have hS := Jp w; unfold Jam at hv; refine Jc 2 <| JF (z := 1) (cs := [nS Al l kl]) hS rfl rfl rfl rfl ?_; intro g11 w12 hS; refine Jb 2 <| Jc 2 <| QB (vs := [nP g11]) rfl rfl <| Jb 2 <| W.ret <| ⟨_, rfl, Fin.nil ?_⟩
 exact (hS.pick [0] rfl).fin rfl ⟨g11, rfl, rfl, hv⟩
def Yj (p : Int) (l : LI) (Q : Int -> Prop) : Prop :=
  Jam l (fun _ => ∃ (I22 : Nat -> Int -> Prop), I22 0 (0 : Int) /\ (∀ i18 : Nat, i18 < l.length -> ∀ (z21 : Int), I22 i18 z21 -> ((I64 (z21 * p)) /\ ((I64 ((z21 * p) + (gi l ((l.length - 1 - i18 : Nat) : Int)))) /\ (I22 (i18 + 1) ((z21 * p) + (gi l ((l.length - 1 - i18 : Nat) : Int))))))) /\ (∀ (z21 : Int), I22 l.length z21 -> Q z21))
theorem Jeg {w : World} {Q : Int -> Prop} {p : Int} {l : LI} {Bl : Nat} {Al : Option Addr} {nl kl : Nat} (hl : Rd Bl w 1 Al nl kl (is l)) (hv : Yj p l Q) :
   Calls Try.prog 135 #[.int .i64 p, .slice Al nl kl] w <| Rt w fun v Qr => ∃ (r0 : Int), v = .int .i64 r0 /\ Qr = [] /\ Q r0 := by
 have hnl := hl.ilen; subst hnl; refine Jk <| Jh (vs := [nI p, nS Al l kl]) [4] XF135 rfl rfl rfl rfl ?_; have hS := Jp w; unfold Yj at hv; refine Jc 2 <| JF (z := 1) (cs := [nI p]) hS rfl rfl rfl rfl ?_; intro g11 w12 hS; refine Jb 2 <| Jc 2 <| SL.alloc (cs := [nI 0]) hS XE3 rfl rfl ?_; intro g13 w14 hS; refine Jz (cs' := [nI 0]) 0 0 hS rfl XE3 rfl rfl rfl (QJ rfl) rfl ?_; intro w15 hS; refine Ja <| Jc 4 <| SL.call hS (Jhw (hS.ro hl) hv) XF156 rfl XN156 rfl rfl ?_; rintro _ _ w16 ⟨g17, rfl, rfl, hv⟩ hGw16 hS; have hS := hS.n1; refine Ja <| W.block ?_; obtain ⟨I22, hv, hk29, hd30⟩ := hv; refine Ji7 (σ := Int) (fun i q => match q with | z21 => I22 i z21) (fun z21 => [.row 22 1 (some ⟨g17, 0, none⟩) 1 1 [.slice Al l.length kl], .row 3 1 (some ⟨g13, 0, none⟩) 1 1 [.int .i64 z21], .row 3 1 (some ⟨g11, 0, none⟩) 1 1 [.int .i64 p]]) (fun _ _ => False) (fun vs => [(2, .pointer (some ⟨g11, 0, none⟩)), (4, .int .i64 0), (5, .pointer (some ⟨g13, 0, none⟩)), (7, vs.getD 1 undef)]) (0 : Int) hS hv (fun q => by obtain z21 := q; exact trivial) rfl XF160 rfl XN160 (Jgl (A := Al) (m := l.length) (c := kl) (Rd.m64 (hS.ro hl))) (Below.refl _ _) (fun _ _ _ h => by obtain ⟨_, h, _⟩ := h; rw [h]; rfl) (fun i x => Jty) (by decide) (fun _ q _ _ hS => by obtain z21 := q; exact ⟨JC (hS.own (i := 0) rfl) 0 _ rfl, _, _, (hS.ro hl)⟩) ?_ ?_ ?_ ?_
 .intro lq vsq W1q hlq
  match vsq, hlq with
  | [a0, a1], _ =>
    refine Jc 3 ?_; exact ⟨rfl, rfl, sp rfl⟩
 .rintro lq i18 _ z21 w23 hi ⟨vb, rfl, hcell⟩ hI hS; have hvb : vb = (gi l ((l.length - 1 - i18 : Nat) : Int)) := bw_val (hS.ro hl) (by omega) hcell; subst hvb; have hv := hk29 i18 hi z21 hI; refine W.block <| Js <| Jm 1 0 XU3 hS rfl rfl rfl ⟨rfl, rfl⟩ <| Jm 2 0 XU3 hS rfl rfl rfl ⟨rfl, rfl⟩ ?_; obtain ⟨o24, hv⟩ := hv; refine WL.mul (r := (z21 * p)) rfl rfl (wr o24) rfl <| Jl rfl rfl ?_; obtain ⟨o25, hv⟩ := hv; refine WL.add (r := ((z21 * p) + (gi l ((l.length - 1 - i18 : Nat) : Int)))) rfl rfl (wr o25) rfl <| Jz (cs' := [nI ((z21 * p) + (gi l ((l.length - 1 - i18 : Nat) : Int)))]) 1 0 hS rfl XE3 rfl rfl rfl (QJ rfl) rfl ?_; intro w26 hS; refine Ja ?_; exact ⟨((z21 * p) + (gi l ((l.length - 1 - i18 : Nat) : Int))), hv, hS⟩
 .rintro D27 z21 w28 hv hD hS; have hv := hd30 z21 hv; refine Jc 2 <| Jm 2 0 XU3 hS rfl rfl rfl ⟨rfl, rfl⟩ <| Jb 2 <| W.ret ?_; have hS := hS.pick [0] rfl; obtain ⟨hDD27, hS⟩ := hS.taken trivial; refine ⟨_, rfl, Fin.cons hDD27 (Fin.nil ?_)⟩; exact (hS.pick [] rfl).fin rfl ⟨z21, rfl, rfl, hv⟩
 rintro _ e _ _ _ hv; exact hv.elim
end Go.Proofs.Ytjgpkljepgcekaa
namespace Go.Proofs.Ytjgpkljepgcekaa
open Go.RowKit
def Ja5 (Pf : Int) (Mf : Int) (mf : LI) (a : LI) (Q : LI -> Prop) : Prop :=
  (I64 (Mf - 1)) /\ ((0 <= (Mf - 1) /\ (Mf - 1) < (a.length : Nat)) /\ ((0 <= (1 : Int) /\ (1 : Int) <= (a.length : Nat)) /\ ((0 <= (0 : Int) /\ (0 : Int) < (a.length : Nat)) /\ ((((gi a (Mf - 1)) = 0) -> (Q (si (a.take ((1 : Int).toNat) ++ a.take (min a.length (a.length - ((1 : Int).toNat))) ++ a.drop ((1 : Int).toNat + (min a.length (a.length - ((1 : Int).toNat))))) (0 : Int) (0 : Int)))) /\ (¬ ((gi a (Mf - 1)) = 0) -> (∃ (I26 : LI -> Int -> Prop) (μ27 : LI -> Int -> Nat), I26 (si (a.take ((1 : Int).toNat) ++ a.take (min a.length (a.length - ((1 : Int).toNat))) ++ a.drop ((1 : Int).toNat + (min a.length (a.length - ((1 : Int).toNat))))) (0 : Int) (0 : Int)) (0 : Int) /\ ∀ (x24 : LI) (z25 : Int), (I26 x24 z25 -> (((z25 < (mf.length : Int)) -> ((0 <= z25 /\ z25 < (mf.length : Nat)) /\ ((0 <= z25 /\ z25 < (a.length : Nat)) /\ ((I64 (Pf - (gi mf z25))) /\ ((I64 ((Pf - (gi mf z25)) * (gi a (Mf - 1)))) /\ ((I64 ((gi x24 z25) + ((Pf - (gi mf z25)) * (gi a (Mf - 1))))) /\ ((Pf ≠ 0) /\ ((0 <= z25 /\ z25 < (a.length : Nat)) /\ ((I64 (z25 + 1)) /\ (I26 (si x24 z25 (((gi x24 z25) + ((Pf - (gi mf z25)) * (gi a (Mf - 1)))).tmod Pf)) (z25 + 1) /\ μ27 (si x24 z25 (((gi x24 z25) + ((Pf - (gi mf z25)) * (gi a (Mf - 1)))).tmod Pf)) (z25 + 1) < μ27 x24 z25)))))))))) /\ (¬ (z25 < (mf.length : Int)) -> Q x24)))))))))
theorem Jnj {w : World} {Q : LI -> Prop} {Pf : Int} {Mf : Int} {mf : LI} {a : LI} {Aa : Option Addr} {na ka : Nat} (ha : Own 0 w 3 1 Aa na ka (is a)) {Bf : Nat} {Af : Option Addr} {nf kf : Nat} (hf : Rd Bf w 1 Af nf kf (is mf)) (hapf : 0 < nf -> ∀ g, bl Aa = some g -> bl Af ≠ some g) (hv : Ja5 Pf Mf mf a Q) :
   Calls Try.prog 155 #[.agg #[.int .i64 Pf, .int .i64 Mf, .slice Af nf kf], .slice Aa na ka] w fun e w' => ∃ v cs', e = .returned v /\ w.grownBy w' (bl Aa) /\ Own 0 w' 3 1 Aa na ka cs' /\ ∃ x : LI, v = .tuple #[] /\ cs' = is x /\ Q x := by
 have hnf := hf.ilen; subst hnf; have hna := ha.rd.ilen; subst hna; refine Zz <| Jh (vs := [.agg #[nI Pf, nI Mf, nS Af mf kf], nS Aa a ka]) [] XF155 rfl rfl rfl rfl ?_; have hS := Jb4 ha; unfold Ja5 at hv; refine Jc 2 <| JF (z := 3) (cs := [nI Pf, nI Mf, nS Af mf kf]) hS rfl rfl rfl rfl ?_; intro g11 w12 hS; refine Ja <| Jc 3 <| Je (off := 1) J8 rfl rfl <| Jm 0 1 XU3 hS rfl rfl rfl ⟨rfl, rfl⟩ ?_; obtain ⟨o13, hv⟩ := hv; refine WL.sub (r := (Mf - 1)) rfl rfl (wr o13) rfl ?_; obtain ⟨o14, hv⟩ := hv; refine Jf Jo XE3 (hS.rd (i := 1) rfl) rfl rfl o14 rfl <| Jj XU3 rfl rfl (JD (hS.rd (i := 1) rfl) o14) rfl <| Jb 2 <| Jc 3 ?_; obtain ⟨o15, hv⟩ := hv; refine Je4 Jo XE3 (hS.rd (i := 1) rfl) rfl rfl o15 rfl <| Jl rfl rfl <| Juk (xs := a) (ys := a) 1 ((1 : Int).toNat) hS rfl Jo XE3 (hS.rd (i := 1) rfl) rfl (by omega) rfl rfl rfl ?_; intro w16 hS; refine Ja <| Jc 3 ?_; obtain ⟨o17, hv⟩ := hv; refine Jf Jo XE3 (hS.rd (i := 1) rfl) rfl rfl o17 rfl <| Jz (cs' := is (si (a.take ((1 : Int).toNat) ++ a.take (min a.length (a.length - ((1 : Int).toNat))) ++ a.drop ((1 : Int).toNat + (min a.length (a.length - ((1 : Int).toNat))))) (0 : Int) (0 : Int))) 1 (0 : Int).toNat hS rfl XE3 rfl rfl rfl (Qp (hS.rd (i := 1) rfl) o17) (J7 _ _ _) ?_; intro w18 hS; refine Ja <| Jc 6 <| Jg rfl (fun c19 => ?_) (fun c19 => ?_)
 .have hv := hv.1 (oT c19); refine W.ret <| ⟨_, rfl, Fin.nil ?_⟩
  exact ⟨_, hS.ext, hS.own (i := 1) rfl, si (a.take ((1 : Int).toNat) ++ a.take (min a.length (a.length - ((1 : Int).toNat))) ++ a.drop ((1 : Int).toNat + (min a.length (a.length - ((1 : Int).toNat))))) (0 : Int) (0 : Int), rfl, rfl, hv⟩
 have hv := hv.2 (oF c19); refine Ji <| Jc 2 <| Je (off := 2) QL rfl rfl <| Jm 0 2 Jo hS rfl rfl rfl ⟨rfl, rfl⟩ <| WL.len Jo rfl rfl <| Jb 2 <| W.block ?_; obtain ⟨I26, μ27, hv, hk56⟩ := hv; refine Jv (σ := LI × Int) (fun q w1 => match q with | (x24, z25) => I26 x24 z25 /\ St TT w (bl Aa) w1 [.row 24 3 (nA g11) 1 1 [nI Pf, nI Mf, nS Af mf kf], .row 3 1 Aa a.length ka (is x24)]) (fun (x24, z25) => [(1, nS Aa a ka), (2, nP g11), (4, nI (gi a (Mf - 1))), (22, nS Af mf kf), (23, nI (mf.length : Int)), (24, nI z25)]) (fun (x24, z25) => μ27 x24 z25) (si (a.take ((1 : Int).toNat) ++ a.take (min a.length (a.length - ((1 : Int).toNat))) ++ a.drop ((1 : Int).toNat + (min a.length (a.length - ((1 : Int).toNat))))) (0 : Int) (0 : Int), (0 : Int)) ⟨hv, hS⟩ ⟨rfl, rfl, rfl, rfl, rfl, rfl, trivial⟩ ?_; rintro ⟨x24, z25⟩ w28 ⟨hv, hS⟩; have hv := hk56 x24 z25 hv; refine Jc 5 <| Jg rfl (fun c29 => ?_) (fun c29 => ?_)
 .have hv := hv.1 (oT c29); refine Ji <| Jr <| W.block <| Jc 3 ?_; obtain ⟨o30, hv⟩ := hv; refine Jf Jo XE3 (hS.rom' hf hapf) rfl rfl o30 rfl <| Jj XU3 rfl rfl (JD (hS.rom' hf hapf) o30) rfl <| Jb 3 ?_; obtain ⟨o36, hv⟩ := hv; obtain ⟨o42, hv⟩ := hv; obtain ⟨o45, hv⟩ := hv; obtain ⟨o47, hv⟩ := hv; obtain ⟨o51, hv⟩ := hv; refine JQ 16 [⟨[], [1], true⟩, ⟨[], [5], true⟩, ⟨[], [1], true⟩, ⟨[], [5], true⟩, ⟨[2, 3], [], true⟩, ⟨[4], [], false⟩, ⟨[], [2], true⟩, ⟨[6], [], false⟩, ⟨[], [6], true⟩, ⟨[7, 8], [], true⟩, ⟨[], [4], true⟩, ⟨[9, 10], [], true⟩, ⟨[5, 11], [], true⟩, ⟨[], [2], true⟩, ⟨[13], [], false⟩, ⟨[12, 14], [], true⟩] [(29, nS Aa a ka), (30, nI z25), (31, nS Aa a ka), (32, nI z25), (33, .pointer (some ((JH Aa).add z25.toNat))), (34, nI (gi x24 z25)), (35, nP g11), (36, nI Pf), (37, nI (gi mf z25)), (38, nI (Pf - (gi mf z25))), (39, nI (gi a (Mf - 1))), (40, nI ((Pf - (gi mf z25)) * (gi a (Mf - 1)))), (41, nI ((gi x24 z25) + ((Pf - (gi mf z25)) * (gi a (Mf - 1))))), (42, nP g11), (43, nI Pf), (44, nI (((gi x24 z25) + ((Pf - (gi mf z25)) * (gi a (Mf - 1)))).tmod Pf))] Try.mixed (by kernel_rfl) rfl rfl ?_ ?_
  .refine ⟨oD, oD, oD, oD, fun _ _ _ => Jf Jo XE3 (hS.rd (i := 1) rfl) rfl rfl o36 rfl <| Ja ⟨rfl, rfl⟩, og hS fun _ _ hS => Jj XU3 rfl rfl (JD (hS.rd (i := 1) rfl) o36) rfl <| Ja ⟨rfl, Jd _⟩, fun _ _ _ => Je (off := 0) JV rfl rfl <| Ja ⟨rfl, rfl⟩, og hS fun _ _ hS => Jm 0 0 XU3 hS rfl rfl rfl ⟨rfl, rfl⟩ <| Ja ⟨rfl, Jd _⟩, oD, fun _ _ _ => WL.sub (r := (Pf - (gi mf z25))) rfl rfl (wr o42) rfl <| Ja ⟨rfl, rfl⟩, oD, fun _ _ _ => WL.mul (r := ((Pf - (gi mf z25)) * (gi a (Mf - 1)))) rfl rfl (wr o45) rfl <| Ja ⟨rfl, rfl⟩, fun _ _ _ => WL.add (r := ((gi x24 z25) + ((Pf - (gi mf z25)) * (gi a (Mf - 1))))) rfl rfl (wr o47) rfl <| Ja ⟨rfl, rfl⟩, fun _ _ _ => Je (off := 0) JV rfl rfl <| Ja ⟨rfl, rfl⟩, og hS fun _ _ hS => Jm 0 0 XU3 hS rfl rfl rfl ⟨rfl, rfl⟩ <| Ja ⟨rfl, Jd _⟩, fun _ _ _ => J4 (r := (((gi x24 z25) + ((Pf - (gi mf z25)) * (gi a (Mf - 1)))).tmod Pf)) rfl rfl o51 rfl rfl <| Ja ⟨rfl, rfl⟩, trivial⟩
  intro w52 hT; have hS := hS.grow hT; refine Jn 16 rfl ?_; obtain ⟨o53, hv⟩ := hv; refine Jf Jo XE3 (hS.rd (i := 1) rfl) rfl rfl o53 rfl <| Ja <| Jn 17 rfl <| Jz (cs' := is (si x24 z25 (((gi x24 z25) + ((Pf - (gi mf z25)) * (gi a (Mf - 1)))).tmod Pf))) 1 z25.toNat hS rfl XE3 rfl rfl rfl (Qp (hS.rd (i := 1) rfl) o53) (J7 _ _ _) ?_; intro w54 hS; refine Ja <| JK <| Js ?_; obtain ⟨o55, hv⟩ := hv; refine WL.add (r := (z25 + 1)) rfl rfl (wr o55) rfl <| Jb 2 ?_; exact ⟨(si x24 z25 (((gi x24 z25) + ((Pf - (gi mf z25)) * (gi a (Mf - 1)))).tmod Pf), (z25 + 1)), sp rfl, hv.2, rfl, hv.1, hS⟩
 have hv := hv.2 (oF c29); refine Jt <| ⟨_, rfl, Fin.nil ?_⟩
 exact ⟨_, hS.ext, hS.own (i := 1) rfl, x24, rfl, rfl, hv⟩
def ZV (Pf : Int) (Mf : Int) (mf : LI) (o : LI) (a : LI) (b : LI) (Q : LI -> Prop) : Prop :=
  (I64 (Mf - 1)) /\ (∃ J16 : Int -> Prop, (∃ (I20 : Int -> Prop) (μ21 : Int -> Nat), I20 (Mf - 1) /\ ∀ (z19 : Int), (I20 z19 -> ((((0 : Int) < z19) -> ((0 <= z19 /\ z19 < (b.length : Nat)) /\ ((((gi b z19) = (0 : Int)) -> ((I64 (z19 - 1)) /\ (I20 (z19 - 1) /\ μ21 (z19 - 1) < μ21 z19))) /\ (¬ ((gi b z19) = (0 : Int)) -> J16 z19)))) /\ (¬ ((0 : Int) < z19) -> J16 z19)))) /\ ∀ (z15 : Int), (J16 z15 -> (∃ (I35 : LI -> Int -> Prop) (μ36 : LI -> Int -> Nat), I35 (List.replicate o.length (0 : Int)) z15 /\ ∀ (x33 : LI) (z34 : Int), (I35 x33 z34 -> ((((0 : Int) <= z34) -> (Ja5 Pf Mf mf x33 (fun x40 => ∃ (I47 : LI -> Int -> Prop) (μ48 : LI -> Int -> Nat), I47 x40 (0 : Int) /\ ∀ (x45 : LI) (z46 : Int), (I47 x45 z46 -> (((z46 < (a.length : Int)) -> ((0 <= z46 /\ z46 < (a.length : Nat)) /\ ((0 <= z46 /\ z46 < (o.length : Nat)) /\ ((0 <= z34 /\ z34 < (b.length : Nat)) /\ ((I64 ((gi b z34) * (gi a z46))) /\ ((I64 ((gi x45 z46) + ((gi b z34) * (gi a z46)))) /\ ((Pf ≠ 0) /\ ((0 <= z46 /\ z46 < (o.length : Nat)) /\ ((I64 (z46 + 1)) /\ (I47 (si x45 z46 (((gi x45 z46) + ((gi b z34) * (gi a z46))).tmod Pf)) (z46 + 1) /\ μ48 (si x45 z46 (((gi x45 z46) + ((gi b z34) * (gi a z46))).tmod Pf)) (z46 + 1) < μ48 x45 z46)))))))))) /\ (¬ (z46 < (a.length : Int)) -> ((I64 (z34 - 1)) /\ (I35 x45 (z34 - 1) /\ μ36 x45 (z34 - 1) < μ36 x33 z34)))))))) /\ (¬ ((0 : Int) <= z34) -> Q x33))))))
theorem Jj4 {w : World} {Q : LI -> Prop} {Pf : Int} {Mf : Int} {mf : LI} {o : LI} {a : LI} {b : LI} {Ao : Option Addr} {no ko : Nat} (ho : Own 0 w 3 1 Ao no ko (is o)) {Bf : Nat} {Af : Option Addr} {nf kf : Nat} (hf : Rd Bf w 1 Af nf kf (is mf)) {Ba : Nat} {Aa : Option Addr} {na ka : Nat} (ha : Rd Ba w 1 Aa na ka (is a)) {Bb : Nat} {Ab : Option Addr} {nb kb : Nat} (hb : Rd Bb w 1 Ab nb kb (is b)) (hapf : 0 < nf -> ∀ g, bl Ao = some g -> bl Af ≠ some g) (hapa : 0 < na -> ∀ g, bl Ao = some g -> bl Aa ≠ some g) (hapb : 0 < nb -> ∀ g, bl Ao = some g -> bl Ab ≠ some g) (hv : ZV Pf Mf mf o a b Q) :
   Calls Try.prog 134 #[.agg #[.int .i64 Pf, .int .i64 Mf, .slice Af nf kf], .slice Ao no ko, .slice Aa na ka, .slice Ab nb kb] w fun e w' => ∃ v cs', e = .returned v /\ w.grownBy w' (bl Ao) /\ Own 0 w' 3 1 Ao no ko cs' /\ ∃ x : LI, v = .tuple #[] /\ cs' = is x /\ Q x := by
 have hnf := hf.ilen; subst hnf; have hno := ho.rd.ilen; subst hno; have hna := ha.ilen; subst hna; have hnb := hb.ilen; subst hnb; refine Zz <| Jh (vs := [.agg #[nI Pf, nI Mf, nS Af mf kf], nS Ao o ko, nS Aa a ka, nS Ab b kb]) [] XF134 rfl rfl rfl rfl ?_; have hS := Jb4 ho; unfold ZV at hv; refine Jc 2 <| JF (z := 3) (cs := [nI Pf, nI Mf, nS Af mf kf]) hS rfl rfl rfl rfl ?_; intro g11 w12 hS; refine Ja <| Jc 3 <| Jsg (xs := o) 1 hS rfl Jo XE3 rfl ?_; intro w13 hS; refine Ja <| Jc 2 <| Je (off := 1) J8 rfl rfl <| Jm 0 1 XU3 hS rfl rfl rfl ⟨rfl, rfl⟩ ?_; obtain ⟨o14, hv⟩ := hv; refine WL.sub (r := (Mf - 1)) rfl rfl (wr o14) rfl <| Jb 2 <| Jr ?_; obtain ⟨J16, hv, hk80⟩ := hv; refine J5 (σ := Int) (fun z15 w1 => J16 z15 /\ St TT w (bl Ao) w1 [.row 24 3 (nA g11) 1 1 [nI Pf, nI Mf, nS Af mf kf], .row 3 1 Ao o.length ko (is (List.replicate o.length (0 : Int)))]) (fun z15 => [(1, nS Ao o ko), (2, nS Aa a ka), (3, nS Ab b kb), (4, nP g11), (8, nI z15)]) ?_ ?_
 .refine W.block ?_; obtain ⟨I20, μ21, hv, hk27⟩ := hv; refine Jv (σ := Int) (fun z19 w1 => I20 z19 /\ St TT w (bl Ao) w1 [.row 24 3 (nA g11) 1 1 [nI Pf, nI Mf, nS Af mf kf], .row 3 1 Ao o.length ko (is (List.replicate o.length (0 : Int)))]) (fun z19 => [(1, nS Ao o ko), (2, nS Aa a ka), (3, nS Ab b kb), (4, nP g11), (8, nI z19)]) (fun z19 => μ21 z19) (Mf - 1) ⟨hv, hS⟩ ⟨rfl, rfl, rfl, rfl, rfl, trivial⟩ ?_; rintro z19 w22 ⟨hv, hS⟩; have hv := hk27 z19 hv; refine Jc 5 <| Jl rfl rfl ?_; by_cases g23 : (0 : Int) < z19
  .have hv := hv.1 g23; rw [decide_eq_true g23]; refine Jb 5 ?_; obtain ⟨o24, hv⟩ := hv; refine Jf Jo XE3 (hS.rom' hb hapb) rfl rfl o24 rfl <| WL.take rfl <| Jj XU3 rfl rfl (JD (hS.rom' hb hapb) o24) rfl <| Jb 4 <| Jg rfl (fun c25 => ?_) (fun c25 => ?_)
   .have hv := hv.1 (oT c25); refine Ji <| W.block <| Jc 2 ?_; obtain ⟨o26, hv⟩ := hv; refine WL.sub (r := (z19 - 1)) rfl rfl (wr o26) rfl <| Jb 2 ?_; exact ⟨(z19 - 1), sp rfl, hv.2, rfl, hv.1, hS⟩
   have hv := hv.2 (oF c25); refine Jt ?_; exact ⟨z19, sp rfl, rfl, hv, hS⟩
  have hv := hv.2 g23; rw [decide_eq_false g23]; refine Jb 7 <| Qt rfl <| Jt ?_; exact ⟨z19, sp rfl, rfl, hv, hS⟩
 rintro z15 w28 ⟨hv, hS⟩; have hv := hk80 z15 hv; refine Jc 5 <| W.block ?_; obtain ⟨I35, μ36, hv, hk79⟩ := hv; refine Jv (σ := LI × Int) (fun q w1 => match q with | (x33, z34) => I35 x33 z34 /\ St TT w (bl Ao) w1 [.row 24 3 (nA g11) 1 1 [nI Pf, nI Mf, nS Af mf kf], .row 3 1 Ao o.length ko (is x33)]) (fun (x33, z34) => [(1, nS Ao o ko), (2, nS Aa a ka), (3, nS Ab b kb), (4, nP g11), (9, nI z34)]) (fun (x33, z34) => μ36 x33 z34) (List.replicate o.length (0 : Int), z15) ⟨hv, hS⟩ ⟨rfl, rfl, rfl, rfl, rfl, trivial⟩ ?_; rintro ⟨x33, z34⟩ w37 ⟨hv, hS⟩; have hv := hk79 x33 z34 hv; refine Jc 6 <| Jg rfl (fun c38 => ?_) (fun c38 => ?_)
 .have hv := hv.1 (oT c38); refine Ji <| Jr <| W.block <| Jc 2 <| JI 0 JZ J1 hS rfl ⟨rfl, rfl⟩ rfl <| Jl rfl rfl <| SL.callm 1 hS rfl (Jnj (hS.own (i := 1) rfl) (hS.rom' hf hapf) (hS.aptRoM (i := 1) rfl hf hapf) hv) XF155 rfl XN155 rfl rfl ?_; rintro _ _ w39 ⟨x40, rfl, rfl, hv⟩ hS; refine Ja <| Jc 3 <| WL.len Jo rfl rfl <| Jb 2 <| W.block ?_; obtain ⟨I47, μ48, hv, hk78⟩ := hv; refine Jv (σ := LI × Int) (fun q w1 => match q with | (x45, z46) => I47 x45 z46 /\ St TT w (bl Ao) w1 [.row 24 3 (nA g11) 1 1 [nI Pf, nI Mf, nS Af mf kf], .row 3 1 Ao o.length ko (is x45)]) (fun (x45, z46) => [(1, nS Ao o ko), (2, nS Aa a ka), (3, nS Ab b kb), (4, nP g11), (9, nI z34), (29, .bool (decide ((0 : Int) <= z34))), (35, nS Aa a ka), (36, nI (a.length : Int)), (37, nI z46)]) (fun (x45, z46) => μ48 x45 z46) (x40, (0 : Int)) ⟨hv, hS⟩ ⟨rfl, rfl, rfl, rfl, rfl, rfl, rfl, rfl, rfl, trivial⟩ ?_; rintro ⟨x45, z46⟩ w49 ⟨hv, hS⟩; have hv := hk78 x45 z46 hv; refine Jc 5 <| Jg rfl (fun c50 => ?_) (fun c50 => ?_)
  .have hv := hv.1 (oT c50); refine Ji <| Jr <| W.block <| Jc 3 ?_; obtain ⟨o51, hv⟩ := hv; refine Jf Jo XE3 (hS.rom' ha hapa) rfl rfl o51 rfl <| Jj XU3 rfl rfl (JD (hS.rom' ha hapa) o51) rfl <| Jb 3 ?_; obtain ⟨o57, hv⟩ := hv; obtain ⟨o62, hv⟩ := hv; obtain ⟨o66, hv⟩ := hv; obtain ⟨o68, hv⟩ := hv; obtain ⟨o72, hv⟩ := hv; refine JQ 16 [⟨[], [1], true⟩, ⟨[], [10], true⟩, ⟨[], [1], true⟩, ⟨[], [10], true⟩, ⟨[2, 3], [], true⟩, ⟨[4], [], false⟩, ⟨[], [3], true⟩, ⟨[], [9], true⟩, ⟨[6, 7], [], true⟩, ⟨[8], [], false⟩, ⟨[], [11], true⟩, ⟨[9, 10], [], true⟩, ⟨[5, 11], [], true⟩, ⟨[], [4], true⟩, ⟨[13], [], false⟩, ⟨[12, 14], [], true⟩] [(42, nS Ao o ko), (43, nI z46), (44, nS Ao o ko), (45, nI z46), (46, .pointer (some ((JH Ao).add z46.toNat))), (47, nI (gi x45 z46)), (48, nS Ab b kb), (49, nI z34), (50, .pointer (some ((JH Ab).add z34.toNat))), (51, nI (gi b z34)), (52, nI (gi a z46)), (53, nI ((gi b z34) * (gi a z46))), (54, nI ((gi x45 z46) + ((gi b z34) * (gi a z46)))), (55, nP g11), (56, nI Pf), (57, nI (((gi x45 z46) + ((gi b z34) * (gi a z46))).tmod Pf))] Try.mixed (by kernel_rfl) rfl rfl ?_ ?_
   .refine ⟨oD, oD, oD, oD, fun _ _ _ => Jf Jo XE3 (hS.rd (i := 1) rfl) rfl rfl o57 rfl <| Ja ⟨rfl, rfl⟩, og hS fun _ _ hS => Jj XU3 rfl rfl (JD (hS.rd (i := 1) rfl) o57) rfl <| Ja ⟨rfl, Jd _⟩, oD, oD, fun _ _ _ => Jf Jo XE3 (hS.rom' hb hapb) rfl rfl o62 rfl <| Ja ⟨rfl, rfl⟩, og hS fun _ _ hS => Jj XU3 rfl rfl (JD (hS.rom' hb hapb) o62) rfl <| Ja ⟨rfl, Jd _⟩, oD, fun _ _ _ => WL.mul (r := ((gi b z34) * (gi a z46))) rfl rfl (wr o66) rfl <| Ja ⟨rfl, rfl⟩, fun _ _ _ => WL.add (r := ((gi x45 z46) + ((gi b z34) * (gi a z46)))) rfl rfl (wr o68) rfl <| Ja ⟨rfl, rfl⟩, fun _ _ _ => Je (off := 0) JV rfl rfl <| Ja ⟨rfl, rfl⟩, og hS fun _ _ hS => Jm 0 0 XU3 hS rfl rfl rfl ⟨rfl, rfl⟩ <| Ja ⟨rfl, Jd _⟩, fun _ _ _ => J4 (r := (((gi x45 z46) + ((gi b z34) * (gi a z46))).tmod Pf)) rfl rfl o72 rfl rfl <| Ja ⟨rfl, rfl⟩, trivial⟩
   intro w73 hT; have hS := hS.grow hT; refine Jn 16 rfl ?_; obtain ⟨o74, hv⟩ := hv; refine Jf Jo XE3 (hS.rd (i := 1) rfl) rfl rfl o74 rfl <| Ja <| Jn 17 rfl <| Jz (cs' := is (si x45 z46 (((gi x45 z46) + ((gi b z34) * (gi a z46))).tmod Pf))) 1 z46.toNat hS rfl XE3 rfl rfl rfl (Qp (hS.rd (i := 1) rfl) o74) (J7 _ _ _) ?_; intro w75 hS; refine Ja <| JK <| Js ?_; obtain ⟨o76, hv⟩ := hv; refine WL.add (r := (z46 + 1)) rfl rfl (wr o76) rfl <| Jb 2 ?_; exact ⟨(si x45 z46 (((gi x45 z46) + ((gi b z34) * (gi a z46))).tmod Pf), (z46 + 1)), sp rfl, hv.2, rfl, hv.1, hS⟩
  have hv := hv.2 (oF c50); refine Jt <| Jc 2 ?_; obtain ⟨o77, hv⟩ := hv; refine WL.sub (r := (z34 - 1)) rfl rfl (wr o77) rfl <| Jb 2 ?_; exact ⟨(x45, (z34 - 1)), sp rfl, hv.2, rfl, hv.1, hS⟩
 have hv := hv.2 (oF c38); refine Jt <| ⟨_, rfl, Fin.nil ?_⟩
 exact ⟨_, hS.ext, hS.own (i := 1) rfl, x33, rfl, rfl, hv⟩
def Ja9 (Pf : Int) (Mf : Int) (mf : LI) (x : Int) (Q : LI -> Prop) : Prop :=
  Zg Pf Mf mf (fun r14 => (0 <= r14 /\ r14 * 8 <= 281474976710656 /\ r14 <= 281474976710656) /\ ((((0 : Nat) + (1 : Nat) : Int) * 8 <= 140737488355328) /\ (∃ (x32 : LI), Y0 Pf Mf x (fun q => q = x32) /\ (∃ (x46 : LI), Y0 Pf Mf x (fun q => q = x46) /\ ((0 <= Mf /\ Mf * 8 <= 281474976710656 /\ Mf <= 281474976710656) /\ (∃ (I119 : LI -> Int -> LI -> LI -> Prop) (μ120 : LI -> Int -> LI -> LI -> Nat), I119 (([] : LI) ++ ([(1 : Int)] : LI)) x x46 (List.replicate Mf.toNat (0 : Int)) /\ ∀ (x107 : LI) (z110 : Int) (x111 : LI) (x115 : LI), (I119 x107 z110 x111 x115 -> (((z110 ≠ 1) -> ((((x107.length : Nat) + (1 : Nat) : Int) * 8 <= 140737488355328) /\ (ZV Pf Mf mf x115 x111 x32 (fun x131 => Yj Pf x131 (fun r133 => I119 (x107 ++ ([z110] : LI)) r133 x131 x111 /\ μ120 (x107 ++ ([z110] : LI)) r133 x131 x111 < μ120 x107 z110 x111 x115))))) /\ (¬ (z110 ≠ 1) -> Q x107)))))))))
theorem Jno {w : World} {Q : LI -> Prop} {Pf : Int} {Mf : Int} {mf : LI} {x : Int} {Bf : Nat} {Af : Option Addr} {nf kf : Nat} (hf : Rd Bf w 1 Af nf kf (is mf)) (hv : Ja9 Pf Mf mf x Q) :
   Calls Try.prog 109 #[.agg #[.int .i64 Pf, .int .i64 Mf, .slice Af nf kf], .int .i64 x] w <| Rt w fun v Qr => ∃ (x : LI)  (A : Option Addr) (c : Nat), v = .slice A x.length c /\ Qr = [.row 3 1 A x.length c (is x)] /\ Q x := by
 have hnf := hf.ilen; subst hnf; refine Jk <| Jh (vs := [.agg #[nI Pf, nI Mf, nS Af mf kf], nI x]) [4] XF109 rfl rfl rfl rfl ?_; have hS := Jp w; unfold Ja9 at hv; refine Jc 2 <| JF (z := 3) (cs := [nI Pf, nI Mf, nS Af mf kf]) hS rfl rfl rfl rfl ?_; intro g11 w12 hS; refine Jb 2 <| Jc 2 <| JI 0 JZ J1 hS rfl ⟨rfl, rfl⟩ rfl <| SL.call hS (Zq (hS.ro hf) hv) Jon rfl XN75 rfl rfl ?_; rintro _ _ w13 ⟨r14, rfl, rfl, hv⟩ hGw13 hS; have hS := hS.n0; obtain ⟨o15, hv⟩ := hv; refine Jsf (J := r14) (cs := is []) hS Jo XE3 rfl rfl o15 rfl rfl ?_; intro A16 w17 hS; refine Jb 2 <| Jc 3 <| QI (vs := is ([(1 : Int)] : LI)) hS Jo XE3 rfl rfl rfl rfl (Qb _) rfl ?_; intro A19 w20 hS; obtain ⟨o22, hv⟩ := hv; refine SL.append (cs := is ([] : LI)) (cs' := is ([(1 : Int)] : LI)) 1 ((([] : LI) ++ ([(1 : Int)] : LI)).length) (is (([] : LI) ++ ([(1 : Int)] : LI))) hS rfl Jo XE3 (hS.rd (i := 0) rfl) (Qb _) rfl rfl (apk o22).1 (apk o22).2 (Zt (hS.rd (i := 1) rfl) (hS.rd (i := 0) rfl)) (J9 _ _) rfl ?_; intro A23 k24 w25 hS; refine Jb 2 <| Jr ?_; obtain ⟨x32, o39, hv⟩ := hv; obtain ⟨x46, o53, hv⟩ := hv; obtain ⟨o57, hv⟩ := hv; have hS0 := hS; refine QD 18 (fun iA => [false, false, false, false, false, true, false, false, false, false, false, true, false, false, true, false, false, false].getD iA false) (fun iC => match iC with | 15 => some 5 | 16 => some 11 | 17 => some 14 | _ => none) (fun _ v u => u = v) [⟨[], [2], true⟩, ⟨[0], [], false⟩, ⟨[], [2], true⟩, ⟨[2], [], false⟩, ⟨[], [1], true⟩, ⟨[1, 3, 4], [], false⟩, ⟨[], [2], true⟩, ⟨[6], [], false⟩, ⟨[], [2], true⟩, ⟨[8], [], false⟩, ⟨[], [1], true⟩, ⟨[7, 9, 10], [], false⟩, ⟨[], [2], true⟩, ⟨[12], [], false⟩, ⟨[13], [], false⟩, ⟨[5], [], true⟩, ⟨[11], [], true⟩, ⟨[14], [], true⟩] [.k 15 (nP g11), .k 16 (nI Pf), .k 17 (.pointer (some ((⟨g11, 0, none⟩ : Addr).add 1))), .k 18 (nI Mf), .k 19 (nI x), eS w25 20 3 x32.length (is x32), .k 21 (nP g11), .k 22 (nI Pf), .k 23 (.pointer (some ((⟨g11, 0, none⟩ : Addr).add 1))), .k 24 (nI Mf), .k 25 (nI x), eS w25 26 3 x46.length (is x46), .k 27 (.pointer (some ((⟨g11, 0, none⟩ : Addr).add 1))), .k 28 (nI Mf), eS w25 29 3 Mf.toNat (is (List.replicate Mf.toNat (0 : Int))), eS w25 6 3 x32.length (is x32), eS w25 7 3 x46.length (is x46), eS w25 8 3 Mf.toNat (is (List.replicate Mf.toNat (0 : Int)))] (fun _ => vbD) Try.mixed (by kernel_rfl) rfl rfl (fun _ _ _ _ _ _ _ h => h) ?_ ?_
 . refine ⟨fun _ _ _ => Je (off := 0) JV rfl rfl <| Ja ⟨rfl, rfl⟩, og hS fun _ _ hS => Jm 2 0 XU3 hS rfl rfl rfl ⟨rfl, rfl⟩ <| Ja ⟨rfl, Jd _⟩, fun _ _ _ => Je (off := 1) J8 rfl rfl <| Ja ⟨rfl, rfl⟩, og hS fun _ _ hS => Jm 2 1 XU3 hS rfl rfl rfl ⟨rfl, rfl⟩ <| Ja ⟨rfl, Jd _⟩, oC, ?_, fun _ _ _ => Je (off := 0) JV rfl rfl <| Ja ⟨rfl, rfl⟩, og hS fun _ _ hS => Jm 2 0 XU3 hS rfl rfl rfl ⟨rfl, rfl⟩ <| Ja ⟨rfl, Jd _⟩, fun _ _ _ => Je (off := 1) J8 rfl rfl <| Ja ⟨rfl, rfl⟩, og hS fun _ _ hS => Jm 2 1 XU3 hS rfl rfl rfl ⟨rfl, rfl⟩ <| Ja ⟨rfl, Jd _⟩, oC, ?_, fun _ _ _ => Je (off := 1) J8 rfl rfl <| Ja ⟨rfl, rfl⟩, og hS fun _ _ hS => Jm 2 1 XU3 hS rfl rfl rfl ⟨rfl, rfl⟩ <| Ja ⟨rfl, Jd _⟩, ?_, ?_, ?_, ?_, trivial⟩
   .intro w31 hE; have hE := hE rfl; have hS := hS.grow hE; intro RR; refine WL.call Jms rfl Jrq rfl rfl (JO (Jbm  o39)) ?_; rintro _ w36 ⟨_, hGw36, hRww36, hNww36, x32q, A33, k34, rfl, rfl, he⟩; subst he; have hO37 := (hRww36.get (i := 0) rfl).1; have hN38 : ∀ g, bl A33 = some g -> _ <= g := fun g hg => Nat.le_trans hE.size (hNww36.1 g hg); exact Ja ⟨_, rfl, hGw36, ⟨A33, k34, rfl, hO37, hN38⟩, (fun _ => fun g hg => ⟨hNww36.1 g hg, (hO37.bl_ge g hg).2⟩), (fun j h => by cases h)⟩
   .intro w45 hE; have hE := hE rfl; have hS := hS.grow hE; intro RR; refine WL.call Jms rfl Jrq rfl rfl (JO (Jbm  o53)) ?_; rintro _ w50 ⟨_, hGw50, hRww50, hNww50, x46q, A47, k48, rfl, rfl, he⟩; subst he; have hO51 := (hRww50.get (i := 0) rfl).1; have hN52 : ∀ g, bl A47 = some g -> _ <= g := fun g hg => Nat.le_trans hE.size (hNww50.1 g hg); exact Ja ⟨_, rfl, hGw50, ⟨A47, k48, rfl, hO51, hN52⟩, (fun _ => fun g hg => ⟨hNww50.1 g hg, (hO51.bl_ge g hg).2⟩), (fun j h => by cases h)⟩
   .intro w56 hE; have hE := hE rfl; have hS := hS.grow hE; intro RR; refine Ji8 (J := Mf) Jo XE3 rfl rfl o57 (Qw _) rfl ?_; intro A58 k62 w59 hO60 hN61g hGw59; have hN61 : ∀ g, bl A58 = some g -> _ <= g := fun g hg => Nat.le_trans hE.size (hN61g g hg); exact Ja ⟨_, rfl, hGw59, ⟨A58, k62, rfl, hO60, hN61⟩, (fun _ => fun g hg => ⟨hN61g g hg, (hO60.bl_ge g hg).2⟩), (fun j h => by cases h)⟩
   .intro w63 hE; rintro _ ⟨A33_5, k34_5, rfl, hO37_5, hN38_5⟩; intro RR; refine JR rfl rfl ?_; exact Ja ⟨_, rfl, rfl, ⟨A33_5, k34_5, rfl, hO37_5, hN38_5⟩, (fun h => absurd h (by decide)), (fun j h => by cases h; exact ⟨_, rfl, rfl⟩)⟩
   .intro w64 hE; rintro _ ⟨A47_11, k48_11, rfl, hO51_11, hN52_11⟩; intro RR; refine JR rfl rfl ?_; exact Ja ⟨_, rfl, rfl, ⟨A47_11, k48_11, rfl, hO51_11, hN52_11⟩, (fun h => absurd h (by decide)), (fun j h => by cases h; exact ⟨_, rfl, rfl⟩)⟩
   intro w65 hE; rintro _ ⟨A58_14, k62_14, rfl, hO60_14, hN61_14⟩; intro RR; refine JR rfl rfl ?_; exact Ja ⟨_, rfl, rfl, ⟨A58_14, k62_14, rfl, hO60_14, hN61_14⟩, (fun h => absurd h (by decide)), (fun j h => by cases h; exact ⟨_, rfl, rfl⟩)⟩
 intro vals w66 hT hVs hAp hCp; have hS := hS.grow hT; obtain ⟨A33_5, k34_5, hv5, hO37_5, hN38_5⟩ := hVs 5 (by decide); obtain ⟨A47_11, k48_11, hv11, hO51_11, hN52_11⟩ := hVs 11 (by decide); obtain ⟨A58_14, k62_14, hv14, hO60_14, hN61_14⟩ := hVs 14 (by decide); have hv15 : vals 15 = nS A33_5 x32 k34_5 := (hCp 15 5 (by decide) rfl).trans hv5; have hv16 : vals 16 = nS A47_11 x46 k48_11 := (hCp 16 11 (by decide) rfl).trans hv11; have hv17 : vals 17 = .slice A58_14 Mf.toNat k62_14 := (hCp 17 14 (by decide) rfl).trans hv14; have hS := Qe [] hS0 hS hO37_5 hN38_5 (fun s hs => by cases hs); have hap11_5 : ∀ g, (.row 3 1 A47_11 x46.length k48_11 (is x46) : Rw).at_ g -> ¬ (.row 3 1 A33_5 x32.length k34_5 (is x32) : Rw).at_ g := by have h_ := hAp 11 5 (by decide) (by decide) (by decide) rfl rfl; rw [hv11, hv5] at h_; exact fun g h1 h2 => h_ g h1 h2
 have hS := Qe [nR 3 A33_5 x32 k34_5] hS0 hS hO51_11 hN52_11 (by intro s hs g hg; simp only [List.mem_cons, List.not_mem_nil, or_false] at hs; obtain rfl := hs; exact hap11_5 g hg); have hap14_11 : ∀ g, (.row 3 1 A58_14 Mf.toNat k62_14 (is (List.replicate Mf.toNat (0 : Int))) : Rw).at_ g -> ¬ (.row 3 1 A47_11 x46.length k48_11 (is x46) : Rw).at_ g := by have h_ := hAp 14 11 (by decide) (by decide) (by decide) rfl rfl; rw [hv14, hv11] at h_; exact fun g h1 h2 => h_ g h1 h2
 have hap14_5 : ∀ g, (.row 3 1 A58_14 Mf.toNat k62_14 (is (List.replicate Mf.toNat (0 : Int))) : Rw).at_ g -> ¬ (.row 3 1 A33_5 x32.length k34_5 (is x32) : Rw).at_ g := by have h_ := hAp 14 5 (by decide) (by decide) (by decide) rfl rfl; rw [hv14, hv5] at h_; exact fun g h1 h2 => h_ g h1 h2
 have hS := Qe [nR 3 A47_11 x46 k48_11, nR 3 A33_5 x32 k34_5] hS0 hS hO60_14 hN61_14 (by intro s hs g hg; simp only [List.mem_cons, List.not_mem_nil, or_false] at hs; rcases hs with rfl | rfl <;> first | exact hap14_11 g hg | exact hap14_5 g hg); refine YV [(5, nS A33_5 x32 k34_5), (11, nS A47_11 x46 k48_11), (14, .slice A58_14 Mf.toNat k62_14), (15, nS A33_5 x32 k34_5), (16, nS A47_11 x46 k48_11), (17, .slice A58_14 Mf.toNat k62_14)] ⟨hv5, hv11, hv14, hv15, hv16, hv17, trivial⟩ <| JK <| Jr <| W.block ?_; obtain ⟨I119, μ120, hv, hk134⟩ := hv; have hS := hS.pick [1, 0, 2, 3, 4, 5] rfl; have hm1 : Mf.toNat = (List.replicate Mf.toNat (0 : Int)).length := (hS.rd (i := 1) rfl).ilen.symm; have hS := hS.relen (i := 1) rfl hm1
 change St _ _ _ _ [_, _, _, _, _, _] at hS
 refine Jv (σ := LI × Int × LI × LI × Option Addr × Nat × Option Addr × Nat × Option Addr × Nat) (fun q w1 => match q with | (x107, z110, x111, x115, A108, k109, A112, k113, A116, k117) => I119 x107 z110 x111 x115 /\ St TT w none w1 [nR 3 A112 x111 k113, nR 3 A116 x115 k117, nR 3 A33_5 x32 k34_5, .row 3 1 A19 1 1 (is ([(1 : Int)] : LI)), nR 3 A108 x107 k109, .row 24 3 (nA g11) 1 1 [nI Pf, nI Mf, nS Af mf kf]]) (fun (x107, z110, x111, x115, A108, k109, A112, k113, A116, k117) => [(1, nI z110), (2, nP g11), (4, .slice none 0 0), (5, nS A108 x107 k109), (6, nS A33_5 x32 k34_5), (7, nS A112 x111 k113), (8, nS A116 x115 k117)]) (fun (x107, z110, x111, x115, A108, k109, A112, k113, A116, k117) => μ120 x107 z110 x111 x115) (([] : LI) ++ ([(1 : Int)] : LI), x, x46, List.replicate Mf.toNat (0 : Int), A23, k24, A47_11, k48_11, A58_14, k62_14) ⟨hv, hS⟩ ⟨rfl, rfl, rfl, rfl, rfl, rfl, (sm (by first | rfl | assumption | omega)), trivial⟩ ?_; rintro ⟨x107, z110, x111, x115, A108, k109, A112, k113, A116, k117⟩ w121 ⟨hv, hS⟩; have hv := hk134 x107 z110 x111 x115 hv; refine Jc 6 <| Jg rfl (fun c122 => ?_) (fun c122 => ?_)
 .have hv := hv.1 (oT c122); refine Ji <| W.block <| Jc 4 <| QI (vs := is ([z110] : LI)) hS Jo XE3 rfl rfl rfl rfl (Qb _) rfl ?_; intro A123 w124 hS; obtain ⟨o126, hv⟩ := hv; refine SL.append (cs := is x107) (cs' := is ([z110] : LI)) 5 ((x107 ++ ([z110] : LI)).length) (is (x107 ++ ([z110] : LI))) hS rfl Jo XE3 (hS.rd (i := 0) rfl) (Qb _) rfl rfl (apk o126).1 (apk o126).2 (Zt (hS.rd (i := 5) rfl) (hS.rd (i := 0) rfl)) (J9 _ _) rfl ?_; intro A127 k128 w129 hS; refine Jb 2 <| Jc 2 <| JI 6 JZ J1 hS rfl ⟨rfl, rfl⟩ rfl <| Jb 3 <| SL.callm 2 hS rfl (Jj4 (hS.own (i := 2) rfl) (hS.ro hf) (hS.rd (i := 1) rfl) (hS.rd (i := 3) rfl) (hS.aptRo (i := 2) rfl hf) (hS.aptRow (i := 2) (j := 1) (by decide) rfl rfl) (hS.aptRow (i := 2) (j := 3) (by decide) rfl rfl) hv) XF134 rfl XN134 rfl rfl ?_; rintro _ _ w130 ⟨x131, rfl, rfl, hv⟩ hS; refine Ja <| Jc 8 <| Je (off := 0) JV rfl rfl <| Jm 6 0 XU3 hS rfl rfl rfl ⟨rfl, rfl⟩ <| Jl rfl rfl <| SL.call hS (Jeg (hS.rd (i := 2) rfl) hv) XF135 rfl XN135 rfl rfl ?_; rintro _ _ w132 ⟨r133, rfl, rfl, hv⟩ hGw132 hS; have hS := hS.n0; refine Jb 2 ?_; have hS := hS.pick [2, 1, 3, 4, 5, 6] rfl; have hm0 : x115.length = x131.length := (hS.rd (i := 0) rfl).ilen.symm; have hS := hS.relen (i := 0) rfl hm0
  change St _ _ _ _ [_, _, _, _, _, _] at hS
  exact ⟨(x107 ++ ([z110] : LI), r133, x131, x111, A127, k128, A116, k117, A112, k113), ⟨rfl, rfl, rfl, rfl, rfl, (sm (by first | rfl | assumption | omega)), rfl, trivial⟩, hv.2, rfl, hv.1, hS⟩
 have hv := hv.2 (oF c122); refine Jt <| Jc 5 <| W.ret <| ⟨_, rfl, Fin.nil ?_⟩
 exact (hS.pick [4] rfl).fin rfl ⟨x107, A108, k109, rfl, rfl, hv⟩
def Jcy (Fg : GFv) (Q : LI -> Prop) : Prop :=
  (0 <= Fg.q /\ Fg.q * 1 <= 281474976710656 /\ Fg.q <= 281474976710656) /\ ((0 <= (0 : Int) /\ (0 : Int) < (Fg.q.toNat : Nat)) /\ (Jak Fg (fun _ => I64 Fg.q /\ ∃ (I42 : Nat -> LI -> List Bool -> Prop) (J43 : LI -> List Bool -> Prop), I42 0 ([] : LI) (sb (List.replicate Fg.q.toNat false) (0 : Int) true) /\ (∀ i26 : Nat, i26 < Fg.q.toNat -> ∀ (x37 : LI) (x41 : List Bool), I42 i26 x37 x41 -> ((0 <= (i26 : Int) /\ (i26 : Int) < (Fg.q.toNat : Nat)) /\ ((((gb x41 (i26 : Int)) = true) -> (I42 (i26 + 1) x37 x41)) /\ ((gb x41 (i26 : Int)) = false -> (Ja9 Fg.P Fg.M Fg.mod (i26 : Int) (fun x48 => (I64 (Fg.q - 1)) /\ ((((x48.length : Int) = (Fg.q - 1)) -> J43 x48 x41) /\ (¬ ((x48.length : Int) = (Fg.q - 1)) -> (∃ (I70 : List Bool -> Int -> Prop) (μ71 : List Bool -> Int -> Nat), I70 x41 (0 : Int) /\ ∀ (x68 : List Bool) (z69 : Int), (I70 x68 z69 -> (((z69 < (x48.length : Int)) -> ((0 <= z69 /\ z69 < (x48.length : Nat)) /\ ((0 <= (gi x48 z69) /\ (gi x48 z69) < (Fg.q.toNat : Nat)) /\ ((I64 (z69 + 1)) /\ (I70 (sb x68 (gi x48 z69) true) (z69 + 1) /\ μ71 (sb x68 (gi x48 z69) true) (z69 + 1) < μ71 x68 z69))))) /\ (¬ (z69 < (x48.length : Int)) -> (I42 (i26 + 1) x48 x68))))))))))))) /\ (∀ (x37 : LI) (x41 : List Bool), I42 Fg.q.toNat x37 x41 -> Q x37) /\ (∀ (x37 : LI) (x41 : List Bool), J43 x37 x41 -> Q x37))))
theorem Jp8 {w : World} {Q : LI -> Prop} {Fg : GFv} {ag : Addr} {Bg : Nat} (hgg : GFR Bg w ag Fg) (hv : Jcy Fg Q) :
   Calls Try.prog 76 #[.pointer (some ag)] w <| Rt w fun v Qr => ∃ (x : LI)  (A : Option Addr) (c : Nat), v = .slice A x.length c /\ Qr = [.row 3 1 A x.length c (is x)] /\ Q x := by
 have hgg_ := hgg; obtain ⟨Ag_mod, kg_mod, Ag_exp, kg_exp, Ag_log, kg_log, Ag_above, kg_above, hg_c, hg_mod, hg_exp, hg_log, hg_above⟩ := hgg_; refine Jk <| Jh (vs := [.pointer (some ag)]) [2] XF76 rfl rfl rfl rfl ?_; have hS := Jp w; unfold Jcy at hv; refine Jc 2 <| JF (z := 1) (cs := [.pointer (some ag)]) hS rfl rfl rfl rfl ?_; intro g11 w12 hS; refine Jb 2 <| Jc 2 <| Jm 0 0 Jcj hS rfl rfl rfl ⟨rfl, rfl⟩ <| QA rfl rfl <| Je (off := 3) Jaj rfl rfl <| Jj XU3 rfl rfl (Rd.at_ (hS.ro hg_c) (j := 3) rfl) rfl ?_; obtain ⟨o13, hv⟩ := hv; refine Qm (J := Fg.q) hS Jd2 XE4 rfl rfl o13 (Jti _) rfl ?_; intro A14 w15 hS; refine SL.alloc (cs := [.slice none 0 0]) hS XE118 rfl rfl ?_; intro g17 w18 hS; refine Jz (cs' := [.slice A14 Fg.q.toNat Fg.q.toNat]) 0 0 hS rfl XE118 rfl rfl rfl (QJ rfl) rfl ?_; intro w19 hS; refine Ja <| Jc 2 <| Jm 0 0 Jd2 hS rfl rfl rfl ⟨rfl, rfl⟩ ?_; obtain ⟨o20, hv⟩ := hv; refine Jf Jd2 XE4 (hS.rd (i := 1) rfl) rfl rfl o20 rfl <| Jz (cs' := bs (sb (List.replicate Fg.q.toNat false) (0 : Int) true)) 1 (0 : Int).toNat hS rfl XE4 rfl rfl rfl (bs_lt (hS.rd (i := 1) rfl) o20) (Jrb _ _ _) ?_; intro w21 hS; refine Ja <| Jc 2 <| SL.alloc (cs := [.slice none 0 0]) hS Ju rfl rfl ?_; intro g22 w23 hS; refine Ja <| Jc 3 <| Jm 3 0 Jcj hS rfl rfl rfl ⟨rfl, rfl⟩ <| SL.call hS (Jhu (GFR.ext (GFR.norm hgg) hS.ext) hv) XF108 rfl XN108 rfl rfl ?_; rintro _ _ w24 ⟨g25, rfl, rfl, hv⟩ hGw24 hS; have hS := hS.n1; refine Ja <| W.block ?_; obtain ⟨o85, hv⟩ := hv; obtain ⟨I42, J43, hv, hk82, hd83, hx84⟩ := hv; have hS := hS.nil (e := 3) (z := 1); have hm0 : 0 = ([] : LI).length := (hS.rd (i := 0) rfl).ilen.symm; have hS := hS.relen (i := 0) rfl hm0
 change St _ _ _ _ [_, _, _, _, _, _] at hS
 refine Ji7 (σ := LI × List Bool × Option Addr × Nat) (fun i q => match q with | (x37, x41, A38, k39) => I42 i x37 x41) (fun (x37, x41, A38, k39) => [.row 3 1 A38 x37.length k39 (is x37), .row 59 1 (some ⟨g25, 0, none⟩) 1 1 [.pointer (some ag)], .row 22 1 (some ⟨g22, 0, none⟩) 1 1 [.slice A38 x37.length k39], .row 118 1 (some ⟨g17, 0, none⟩) 1 1 [.slice A14 Fg.q.toNat Fg.q.toNat], .row 4 1 A14 Fg.q.toNat Fg.q.toNat (bs x41), .row 59 1 (some ⟨g11, 0, none⟩) 1 1 [.pointer (some ag)]]) (fun e q => match e, q with | .exit 0, (x37, x41, A38, k39) => J43 x37 x41 | _, _ => False) (fun vs => [(1, .pointer (some ⟨g11, 0, none⟩)), (2, .slice none 0 0), (3, .pointer (some ⟨g17, 0, none⟩)), (4, .pointer (some ⟨g22, 0, none⟩)), (5, vs.getD 0 undef)]) (([] : LI), sb (List.replicate Fg.q.toNat false) (0 : Int) true, none, 0) hS hv (fun q => by obtain ⟨x37, x41, A38, k39⟩ := q; exact trivial) rfl XF133 rfl XN133 (Jgf o85 (JC (hS.own (i := 1) rfl) 0 _ rfl) (Rd.at_ (hS.ro hg_c) (j := 3) rfl)) (Below.refl _ _) (fun _ _ _ h => by rw [h]; rfl) (fun _ _ _ _ _ h _ _ => h) (by decide) (fun _ _ _ _ _ => trivial) ?_ ?_ ?_ ?_
 .intro lq vsq W1q hlq
  match vsq, hlq with
  | [a0], _ =>
    refine Jc 3 ?_; exact ⟨rfl, rfl, sp rfl⟩
 .rintro lq i26 _ ⟨x37, x41, A38, k39⟩ w44 hi rfl hI hS; have hv := hk82 i26 hi x37 x41 hI; refine W.block <| Jc 3 <| Jm 3 0 Jd2 hS rfl rfl rfl ⟨rfl, rfl⟩ <| Jl rfl rfl ?_; obtain ⟨o45, hv⟩ := hv; refine Jf Jd2 XE4 (hS.rd (i := 4) rfl) rfl rfl o45 rfl <| Jj XU4 rfl rfl (Rd.gb (hS.rd (i := 4) rfl) o45) rfl <| Ja <| Jg rfl (fun c46 => ?_) (fun c46 => ?_)
  .have hv := hv.1 (c46); refine Jt ?_; exact ⟨(x37, x41, A38, k39), hv, hS⟩
  have hv := hv.2 (c46); refine Ji <| Jc 2 <| Jm 5 0 Jcj hS rfl rfl rfl ⟨rfl, rfl⟩ <| QA rfl rfl <| Je (off := 0) Jk6 rfl rfl <| Q4 (cs := [nI Fg.P, nI Fg.M, nS Ag_mod Fg.mod kg_mod]) JZ J1 rfl rfl (Jb6 (hS.ro hg_c) 0 rfl) rfl <| Jl rfl rfl <| SL.call hS (Jno (hS.ro hg_mod) hv) XF109 rfl XN109 rfl rfl ?_; rintro _ _ w47 ⟨x48, A49, k50, rfl, rfl, hv⟩ hGw47 hS; have hS := hS.n1; refine Jz (cs' := [nS A49 x48 k50]) 3 0 hS rfl Ju rfl rfl rfl (QJ rfl) rfl ?_; intro w52 hS; refine Ja <| Jc 2 ?_; obtain ⟨o60, hv⟩ := hv; refine JQ 8 [⟨[], [4], false⟩, ⟨[0], [], true⟩, ⟨[], [1], false⟩, ⟨[2], [], true⟩, ⟨[3], [], true⟩, ⟨[4], [], false⟩, ⟨[5], [], true⟩, ⟨[1, 6], [], true⟩] [(28, nS A49 x48 k50), (29, nI (x48.length : Int)), (30, .pointer (some ag)), (31, .pointer (some ag)), (32, .pointer (some (ag.add 3))), (33, nI Fg.q), (34, nI (Fg.q - 1)), (35, .bool (decide ((x48.length : Int) = (Fg.q - 1))))] Try.mixed (by kernel_rfl) rfl rfl ?_ ?_
  . refine ⟨og hS fun _ _ hS => Jm 3 0 Jo hS rfl rfl rfl ⟨rfl, rfl⟩ <| Ja ⟨rfl, Jd _⟩, fun _ _ _ => WL.len Jo rfl rfl <| Ja ⟨rfl, rfl⟩, og hS fun _ _ hS => Jm 6 0 Jcj hS rfl rfl rfl ⟨rfl, rfl⟩ <| Ja ⟨rfl, Jd _⟩, oD, fun _ _ _ => Je (off := 3) Jaj rfl rfl <| Ja ⟨rfl, rfl⟩, og hS fun _ _ hS => Jj XU3 rfl rfl (Rd.at_ (hS.ro hg_c) (j := 3) rfl) rfl <| Ja ⟨rfl, Jd _⟩, fun _ _ _ => WL.sub (r := (Fg.q - 1)) rfl rfl (wr o60) rfl <| Ja ⟨rfl, rfl⟩, oD, trivial⟩
  intro w62 hT; have hS := hS.grow hT; refine JK <| Jg rfl (fun c63 => ?_) (fun c63 => ?_)
  .have hv := hv.1 (oT c63); refine Jt ?_; have hS := hS.pick [0, 2, 3, 4, 5, 6] rfl; exact ⟨(x48, x41, A49, k50), rfl, hv, hS⟩
  have hv := hv.2 (oF c63); refine Ji <| Jc 2 <| Jm 3 0 Jo hS rfl rfl rfl ⟨rfl, rfl⟩ <| WL.len Jo rfl rfl <| Jb 2 <| W.block ?_; obtain ⟨I70, μ71, hv, hk78⟩ := hv; refine Jv (σ := List Bool × Int) (fun q w1 => match q with | (x68, z69) => I70 x68 z69 /\ St (KO w44) w none w1 [nR 3 A49 x48 k50, nR 3 A38 x37 k39, nV 59 g25 (.pointer (some ag)), nV 22 g22 (nS A49 x48 k50), nV 118 g17 (.slice A14 Fg.q.toNat Fg.q.toNat), .row 4 1 A14 Fg.q.toNat Fg.q.toNat (bs x68), nV 59 g11 (.pointer (some ag))]) (fun (x68, z69) => [(1, nP g11), (2, .slice none 0 0), (3, nP g17), (4, nP g22), (5, nI (i26 : Int)), (21, .bool (gb x41 (i26 : Int))), (35, .bool (decide ((x48.length : Int) = (Fg.q - 1)))), (36, nS A49 x48 k50), (37, nI (x48.length : Int)), (38, nI z69)]) (fun (x68, z69) => μ71 x68 z69) (x41, (0 : Int)) ⟨hv, hS⟩ ⟨rfl, rfl, rfl, rfl, rfl, rfl, rfl, rfl, rfl, rfl, trivial⟩ ?_; rintro ⟨x68, z69⟩ w72 ⟨hv, hS⟩; have hv := hk78 x68 z69 hv; refine Jc 5 <| Jg rfl (fun c73 => ?_) (fun c73 => ?_)
  .have hv := hv.1 (oT c73); refine Ji <| Jr <| W.block <| Jc 2 ?_; obtain ⟨o74, hv⟩ := hv; refine Jf Jo XE3 (hS.rd (i := 0) rfl) rfl rfl o74 rfl <| Jj XU3 rfl rfl (JD (hS.rd (i := 0) rfl) o74) rfl <| Jb 2 <| Js <| Jm 4 0 Jd2 hS rfl rfl rfl ⟨rfl, rfl⟩ <| Jl rfl rfl ?_; obtain ⟨o75, hv⟩ := hv; refine Jf Jd2 XE4 (hS.rd (i := 5) rfl) rfl rfl o75 rfl <| Jz (cs' := bs (sb x68 (gi x48 z69) true)) 5 (gi x48 z69).toNat hS rfl XE4 rfl rfl rfl (bs_lt (hS.rd (i := 5) rfl) o75) (Jrb _ _ _) ?_; intro w76 hS; refine Ja <| Js ?_; obtain ⟨o77, hv⟩ := hv; refine WL.add (r := (z69 + 1)) rfl rfl (wr o77) rfl <| Jb 2 ?_; exact ⟨(sb x68 (gi x48 z69) true, (z69 + 1)), sp rfl, hv.2, rfl, hv.1, hS⟩
  have hv := hv.2 (oF c73); refine Jt ?_; have hS := hS.pick [0, 2, 3, 4, 5, 6] rfl; exact ⟨(x48, x68, A49, k50), hv, hS⟩
 .rintro D79 ⟨x37, x41, A38, k39⟩ w80 hv hD hS; have hv := hd83 x37 x41 hv; refine Jc 2 <| Jm 3 0 Jo hS rfl rfl rfl ⟨rfl, rfl⟩ <| Jb 2 <| W.ret ?_; have hS := hS.pick [0, 1] rfl; obtain ⟨hDD79, hS⟩ := hS.taken trivial; refine ⟨_, rfl, Fin.cons hDD79 (Fin.nil ?_)⟩; exact (hS.pick [0] rfl).fin rfl ⟨x37, A38, k39, rfl, rfl, hv⟩
 rintro D79 e ⟨x37, x41, A38, k39⟩ w80 he hv hD hS; cases e with
 | exit id =>
   by_cases hid : id = 0
   .subst hid; have hv := hx84 x37 x41 hv; refine Jc 2 <| Jm 3 0 Jo hS rfl rfl rfl ⟨rfl, rfl⟩ <| Jb 2 <| W.ret ?_; have hS := hS.pick [0, 1] rfl; obtain ⟨hDD79, hS⟩ := hS.taken trivial; refine ⟨_, rfl, Fin.cons hDD79 (Fin.nil ?_)⟩; exact (hS.pick [0] rfl).fin rfl ⟨x37, A38, k39, rfl, rfl, hv⟩
   exact absurd hv (by simp [hid])
 | ret => exact hv.elim
 | _ => simp [Qu] at he
end Go.Proofs.Ytjgpkljepgcekaa
