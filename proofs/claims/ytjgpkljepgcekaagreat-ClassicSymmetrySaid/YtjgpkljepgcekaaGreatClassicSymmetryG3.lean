/- Contracts of functions of the program, and what they lean on: Nt, Xl, Draw11, Xm, Bl2, Xo, Xp, Facts, Ab, D1, It, Gf, D2, D3. -/
import Derived.Test.YtjgpkljepgcekaaGreatClassicSymmetryG2
import Derived.Test.YtjgpkljepgcekaaGreatProg
set_option linter.unusedSimpArgs false
set_option linter.unusedVariables false
namespace Go.Proofs.YtjgpkljepgcekaaGreat
open Go.RowKit
/-! ### shorter words for values and pieces -/
abbrev nI (x : Int) : Value := .int .i64 x
abbrev nA (g : Nat) : Option Addr := some ⟨g, 0, none⟩
abbrev nP (g : Nat) : Value := .pointer (some ⟨g, 0, none⟩)
abbrev nS {α : Type} (A : Option Addr) (x : List α) (k : Nat) : Value := .slice A x.length k
abbrev nR (e : Nat) (A : Option Addr) (x : LI) (k : Nat) : Rw := .row e 1 A x.length k (is x)
abbrev nV (e g : Nat) (v : Value) : Rw := .row e 1 (some ⟨g, 0, none⟩) 1 1 [v]
section
variable {P : Program} {n : Nat} {ro : Option Nat} {df : List Deferred} {N : J6} {L : Fr} {w w0 : World} {ops : Array Oper} {rest : List Oper}
variable {d : Nat} {ty : TypeId} {pos : String} {af : Array Edge} {X : World -> Prop} {mr : Option Nat} {R : List Rw}
/-- A part of a variable of the call's own is loaded. -/
theorem Jm (i j : Nat) {x : Operand} {t e z g : Nat} {D : TypeDesc} {cs : List Value} {v : Value} (hu : P.underlying t = some D) (hS : St X w0 mr w R) (hr : R[i]? = some (.row e z (some ⟨g, 0, none⟩) 1 1 cs)) (hx : ev L x = some (.pointer (some ((⟨g, 0, none⟩ : Addr).add j)))) (hc : cs[j]? = some v)
    (hq : (match D with | .struct _ | .array _ _ => true | _ => false) = false /\ Nat.blt d n = true) (h : WL P n ro df ops rest N ((d, v) :: L) w) : WL P n ro df ops (⟨some d, .load t x, ty, pos, af, none⟩ :: rest) N L w :=
  Jj hu hq.1 hx (JE (hS.own hr) j v hc) hq.2 h
theorem JF (i : Nat) {x : Operand} {t e z z' by_ g : Nat} {zero : Value} {cs : List Value} (he : Elem P t z by_ zero) (hag : Jkf P t = true) (hS : St X w0 mr w R) (hr : R[i]? = some (.row e z' (some ⟨g, 0, none⟩) 1 1 cs)) (hq : cs.length = z /\ Nat.blt d n = true) (hx : ev L x = some (.pointer (some ⟨g, 0, none⟩)))
  (h : WL P n ro df ops rest N ((d, .agg cs.toArray) :: L) w) : WL P n ro df ops (⟨some d, .load t x, ty, pos, af, none⟩ :: rest) N L w :=
 QB he hag hx hq.1 (JE (hS.own hr)) hq.2 h
end
/-! ### plain operations of a pool, by their value -/
def Jlg (all : Array Oper) (n : Nat) (L : Fr) : Oper -> Option (Nat × Value)
  | ⟨some d, op, _, _, _, some (j, want)⟩ => match (all[j]?.bind (·.dst)).bind (lk L) with
    | some (.bool b) => bif b == want then (opv L op).bind (fun v => bif Nat.blt d n then some (d, v) else none) else bif Nat.blt d n then some (d, undef) else none
    | some (.tuple ⟨[]⟩) => bif Nat.blt d n then some (d, undef) else none
    | _ => none
  | ⟨some d, op, _, _, _, none⟩ => (opv L op).bind fun v => bif Nat.blt d n then some (d, v) else none
  | _ => none
theorem Joy {P : Program} {n : Nat} {ro : Option Nat} {df : List Deferred} {N : J6} {L : Fr} {w : World} {all : Array Oper} {o : Oper} {q : Nat × Value} (h : Jlg all n L o = some q) (hN : N df (q :: L) w) : WL P n ro df all [o] N L w := by
 obtain ⟨dst, op, ty, ps, af, g⟩ := o; cases dst with
 | none => simp [Jlg] at h
 | some d =>
  cases g with
  | none =>
   simp only [Jlg] at h; cases hv : opv L op with
   | none => rw [hv] at h; simp at h
   | some v =>
    rw [hv] at h; cases hn : Nat.blt d n <;> simp [hn] at h; subst h; exact Jc2 hv hn (Ja hN)
  | some jw =>
   obtain ⟨j, want⟩ := jw; simp only [Jlg] at h; split at h
   .rename_i b hb
    cases hbw : (b == want) <;> rw [hbw] at h
    .cases hn : Nat.blt d n <;> simp [hn] at h; subst h; exact Jp6 hb hbw hn (Ja hN)
    .have e : b = want := by simpa using hbw
     subst e; simp only [cond_true] at h; cases hv : opv L op with
     | none => rw [hv] at h; simp at h
     | some v =>
      rw [hv] at h; cases hn : Nat.blt d n <;> simp [hn] at h; subst h; exact WL.take hb (Jc2 hv hn (Ja hN))
   .rename_i hb
    cases hn : Nat.blt d n <;> simp [hn] at h; subst h; exact Qy hb hn (Ja hN)
   .cases h
theorem oA {P : Program} {n : Nat} {ro : Option Nat} {df : List Deferred} {l : List Oper} {F : Fr} {w0 : World} {i : Nat} {o : Oper} {p : Plan} {b : Fr} (h : ∀ R, Jlg l.toArray n (Jfx F p.on b ++ R) o = some (F.getD i F0)) : obV P n ro df l F w0 i o p b := fun w _ R => Joy (h R) ⟨rfl, by
 cases p.pure
 .exact Jd _
 .rfl⟩
def ekV : Ent -> Option (Nat × Value)
  | .k d v => some (d, v)
  | _ => none
def tolF (F : List Ent) : List Nat -> Fr -> Option Fr
  | [], A => some A
  | j :: js, A => match F.getD j E0 with
    | .k d v => tolF F js ((d, v) :: A)
    | _ => none
theorem Jov {F : List Ent} {w : World} {K : Fr -> Prop} : ∀ (js : List Nat) (A B : Fr), tolF F js A = some B -> K B -> Jay F w K js A
 | [], _, _, h, hk => by cases h; exact hk
 | j :: js, A, B, h, hk => by
  unfold tolF at h; unfold Jay; cases e : F.getD j E0 with
  | k d v => rw [e] at h; exact Jov js _ _ h hk
  | m d Pr hh => rw [e] at h; cases h
/-- the value by the frame that it is Jqt -/
def stpB (l : List Oper) (n : Nat) (F : List Ent) (o : Oper) (on : List Nat) (b R : Fr) : Option (Nat × Value) := (tolF F on b).bind fun A => Jlg l.toArray n (A ++ R) o
def isK : Option (Nat × Value) -> Bool
  | some _ => true
  | none => false
theorem oB {P : Program} {n : Nat} {ro : Option Nat} {df : List Deferred} {l : List Oper} {al : Nat -> Bool} {cp : Nat -> Option Nat} {ph : Nat -> Value -> Value -> Prop} {F : List Ent} {D : Nat -> Value -> World -> Nat -> Prop} {w0 : World} {i : Nat} {o : Oper} {p : Plan} {b : Fr}
  (h : ∀ R, stpB l n F o p.on b R = ekV (F.getD i E0)) (hk : isK (ekV (F.getD i E0)) = true) : obY P n ro df l al cp ph F D w0 i o p b := fun w _ => by
 cases e : F.getD i E0 with
 | m d Pr hh => rw [e] at hk; cases hk
 | k d v =>
  cases hA : tolF F p.on b with
  | none =>
   have := h []; rw [e] at this; unfold stpB at this; rw [hA] at this; cases this
  | some A =>
   refine Jov _ _ _ hA fun R => ?_; have := h R; rw [e] at this; unfold stpB at this; rw [hA] at this; exact Joy this ⟨rfl, by
    cases p.pure
    .exact Jd _
    .rfl⟩
/-- The first of the pieces in another order. -/
theorem St.pickN {X : World -> Prop} {w0 w : World} {mr : Option Nat} {R : List Rw} (k : Nat) (is : List Nat) (hn : Jcq is = true) (h : St X w0 mr w R) : St X w0 mr w ((is.filterMap fun i => (R.take k)[i]?) ++ R.drop k) :=
  Jxl (T := R.drop k) (R.take k) is hn (by rw [List.take_append_drop]; exact h)
theorem St.fin {w0 w : World} {R : List Rw} {K : List Rw -> Prop} (h : St TT w0 none w R) (hr : R.all (fun r => !r.isRo) = true) (hk : K R) : ∃ Q, w0.grownBy w none /\ Rows w0.heap.size none w Q /\ News w0.heap.size Q /\ K Q := ⟨R, h.ext, h.rows, Qb h.rows hr, hk⟩
theorem oT {p : Prop} [Decidable p] (h : decide p = true) : p := of_decide_eq_true h
theorem oF {p : Prop} [Decidable p] (h : decide p = false) : ¬ p := of_decide_eq_false h
theorem oC {P : Program} {n : Nat} {ro : Option Nat} {df : List Deferred} {l : List Oper} {al : Nat -> Bool} {cp : Nat -> Option Nat} {ph : Nat -> Value -> Value -> Prop} {F : List Ent} {D : Nat -> Value -> World -> Nat -> Prop} {w0 : World} {i : Nat} {o : Oper} {p : Plan} {b : Fr}
 (h : ∀ R, stpB l n F o p.on b R = ekV (F.getD i E0) := by exact fun _ => rfl) (hk : isK (ekV (F.getD i E0)) = true := by exact rfl) : obY P n ro df l al cp ph F D w0 i o p b := oB h hk
theorem og {X : World -> Prop} {w0 wa : World} {mr : Option Nat} {R : List Rw} {G : World -> Fr -> Prop} (hS : St X w0 mr wa R) (h : ∀ w B, St X w0 mr w R -> G w B) : ∀ w, (false = false -> wa.grownBy w none) -> ∀ B, G w B := fun w hE B => h w B (hS.grow (hE rfl))
theorem oD {P : Program} {n : Nat} {ro : Option Nat} {df : List Deferred} {l : List Oper} {F : Fr} {w0 : World} {i : Nat} {o : Oper} {p : Plan} {b : Fr} (h : ∀ R, Jlg l.toArray n (Jfx F p.on b ++ R) o = some (F.getD i F0) := by exact fun _ => rfl) : obV P n ro df l F w0 i o p b := oA h
end Go.Proofs.YtjgpkljepgcekaaGreat
namespace Go.Proofs.YtjgpkljepgcekaaGreat
open Go.RowKit
/-! ### lists of lists some of whose rows came in -/
/-- The rows by themselves. -/
def RlR (w : World) (hs : Hs) (ls : LL) : Prop := ∀ i, i < ls.length -> ∃ B, Rd B w 1 (hs i).1 (ls.getD i []).length (hs i).2 (is (ls.getD i []))
theorem RlR.ext {w w' : World} {hs : Hs} {ls : LL} (h : RlR w hs ls) (hg : w.grownBy w' none) : RlR w' hs ls := fun i hi => by obtain ⟨B, h2⟩ := h i hi; exact ⟨B, h2.ext hg⟩
theorem RlR.nil (w : World) (hs : Hs) : RlR w hs [] := fun i hi => absurd hi (Nat.not_lt_zero i)
theorem RlR.append {w : World} {hs hs' : Hs} {ls ls' : LL} (h : RlR w hs ls) (h' : RlR w hs' ls') : RlR w (Je7 ls.length hs hs') (ls ++ ls') := fun i hi => by
 rw [List.length_append] at hi; rcases Nat.lt_or_ge i ls.length with hl | hl
 .have e1 : (ls ++ ls').getD i [] = ls.getD i [] := by rw [List.getD_eq_getElem?_getD, List.getElem?_append_left hl, <- List.getD_eq_getElem?_getD]
  have e2 : Je7 ls.length hs hs' i = hs i := by unfold Je7; rw [if_pos hl]
  rw [e1, e2]; exact h i hl
 .have e1 : (ls ++ ls').getD i [] = ls'.getD (i - ls.length) [] := by rw [List.getD_eq_getElem?_getD, List.getElem?_append_right hl, <- List.getD_eq_getElem?_getD]
  have e2 : Je7 ls.length hs hs' i = hs' (i - ls.length) := by unfold Je7; rw [if_neg (by omega)]
  rw [e1, e2]; exact h' _ (by omega)
theorem RlR.rl {w : World} {A : Option Addr} {n k B : Nat} {hs : Hs} {ls : LL} (h : RlR w hs ls) (hA : Rd B w 1 A n k (JD hs ls)) : Rl w A n k ls := RlH.rl ⟨⟨B, hA⟩, h⟩
theorem RlH.rows {w : World} {A : Option Addr} {n k : Nat} {hs : Hs} {ls : LL} (h : RlH w A n k hs ls) : RlR w hs ls := h.at__
theorem RlR.inr {w : World} {eI : Nat} {hs : Hs} {ls : LL} (h : Rows 0 none w (inr eI hs ls)) : RlR w hs ls := fun i hi => by
 have := (h.get (Zt eI hs ls hi)).1.rd; exact ⟨_, this⟩
section
variable {P : Program} {n : Nat} {ro : Option Nat} {df : List Deferred} {N : J6} {L : Fr} {w w0 : World} {ops : Array Oper} {rest : List Oper}
variable {d : Nat} {ty : TypeId} {pos : String} {af : Array Edge} {X : World -> Prop} {mr : Option Nat} {R : List Rw} {eI m c : Nat} {A : Option Addr} {hs : Hs} {ls : LL}
end
/-! ### lists of lists of lists -/
abbrev HZ := Nat -> (Option Addr × Nat) × Hs
def zcells (H : HZ) (zs : List LL) : List Value := zs.mapIdx fun i l => .slice (H i).1.1 l.length (H i).1.2
structure Rll (w : World) (A : Option Addr) (n k : Nat) (H : HZ) (zs : List LL) : Prop where
  out : ∃ B, Rd B w 1 A n k (zcells H zs)
  at__ : ∀ i, i < zs.length -> RlH w (H i).1.1 (zs.getD i []).length (H i).1.2 (H i).2 (zs.getD i [])
theorem Rll.ext {w w' : World} {A : Option Addr} {n k : Nat} {H : HZ} {zs : List LL} (h : Rll w A n k H zs) (hg : w.grownBy w' none) : Rll w' A n k H zs := by
 obtain ⟨B, h1⟩ := h.out; exact ⟨⟨B, h1.ext hg⟩, fun i hi => (h.at__ i hi).ext hg⟩
theorem Rll.two {w : World} {A A1 A2 : Option Addr} {B k m1 k1 m2 k2 : Nat} {hs1 hs2 : Hs} {l1 l2 : LL} (hA : Rd B w 1 A 2 k [.slice A1 m1 k1, .slice A2 m2 k2]) (h1 : RlH w A1 m1 k1 hs1 l1) (h2 : RlH w A2 m2 k2 hs2 l2) :
  Rll w A 2 k (fun i => if i = 0 then ((A1, k1), hs1) else ((A2, k2), hs2)) [l1, l2] := by
 obtain rfl := h1.len; obtain rfl := h2.len; refine ⟨⟨B, hA⟩, fun i hi => ?_⟩
 match i, hi with
 | 0, _ => exact h1
 | 1, _ => exact h2
end Go.Proofs.YtjgpkljepgcekaaGreat
namespace Go.Proofs.YtjgpkljepgcekaaGreat
open Go.RowKit
theorem WA.sub {P : Program} {n : Nat} {ro : Option Nat} {df : List Deferred} {l : List Oper} {N : J6} {q : Nat} {li : List Bool} {L M : Fr} {w : World} (hs : sub M L) (h : WA P n ro df l N q li M w) : WA P n ro df l N q li L w := ⟨fun a ha B => h.out a (ha.sub hs) B⟩
end Go.Proofs.YtjgpkljepgcekaaGreat
namespace Go.Proofs.YtjgpkljepgcekaaGreat
open Go.RowKit
/-! ### what is behind a place of a list of lists -/
theorem Al.drop {w : World} : ∀ {vs : List Value} {ls : LL} (k : Nat), Al w vs ls -> Al w (vs.drop k) (ls.drop k)
  | [], [], k, _ => by simp [Al]
  | v :: vs, l :: ls, 0, h => h
  | v :: vs, l :: ls, k + 1, h => Al.drop (vs := vs) (ls := ls) k h.2
  | [], _ :: _, _, h => h.elim
  | _ :: _, [], _, h => h.elim
theorem Rl.drop {w : World} {A : Option Addr} {n k : Nat} {ls : LL} (h : Rl w A n k ls) {J : Int} (hJ : 0 <= J /\ J <= (n : Nat)) : Rl w (if k = J.toNat then A else A.map (·.add (J.toNat * 1))) (n - J.toNat) (k - J.toNat) (ls.drop J.toNat) := by
 obtain ⟨B, cs, h1, h2⟩ := h.ex; have h3 := h1.drop (k := J.toNat) (by omega); have e : cs.drop (J.toNat * 1) = cs.drop J.toNat := by rw [Nat.mul_one]
 rw [e] at h3; exact ⟨B, _, h3, h2.drop _⟩
end Go.Proofs.YtjgpkljepgcekaaGreat
namespace Go.Proofs.YtjgpkljepgcekaaGreat
open Go.RowKit
def Jl8 (x y : Int) : Int := ((x.toNat &&& y.toNat : Nat) : Int)
theorem Ju9 {P : Program} {w : World} {x y : Int} (h : 0 <= x /\ x < 9223372036854775808 /\ 0 <= y /\ y < 9223372036854775808) : (Op.intBits .and .i64 x y).run P w = .ok (.int .i64 (Jl8 x y)) w := by
 obtain ⟨h1, h2, h3, h4⟩ := h; obtain ⟨a, rfl⟩ := Int.eq_ofNat_of_zero_le h1; obtain ⟨b, rfl⟩ := Int.eq_ofNat_of_zero_le h3; have ha : a < 2 ^ 63 := by omega
 have hb : b < 2 ^ 63 := by omega
 have hab : a &&& b < 2 ^ 63 := Nat.and_lt_two_pow a hb; have e1 : (BitVec.ofInt 64 (a : Int) &&& BitVec.ofInt 64 (b : Int)).toNat = a &&& b := by
  rw [BitVec.ofInt_natCast, BitVec.ofInt_natCast, BitVec.toNat_and, BitVec.toNat_ofNat, BitVec.toNat_ofNat, Nat.mod_eq_of_lt (by omega), Nat.mod_eq_of_lt (by omega)]
 have e2 : IntKind.i64.wrap ((a &&& b : Nat) : Int) = ((a &&& b : Nat) : Int) := Jqj (by omega) (by omega) rfl; show Result.ok (Value.int .i64 (IntKind.i64.wrap ((BitVec.ofInt 64 (a : Int) &&& BitVec.ofInt 64 (b : Int)).toNat : Int))) w = Result.ok (Value.int .i64 (((a : Int).toNat &&& (b : Int).toNat : Nat) : Int)) w; rw [e1, e2]; rfl
end Go.Proofs.YtjgpkljepgcekaaGreat
namespace Go.Proofs.YtjgpkljepgcekaaGreat
open Go.RowKit
end Go.Proofs.YtjgpkljepgcekaaGreat
namespace Go.Proofs.YtjgpkljepgcekaaGreat
open Go.RowKit
/-! ### shifts to the left, or; arrays of ints by an index; a row that grows within a list of lists -/
def QT (x y : Int) : Int := x * 2 ^ min y.toNat IntKind.i64.bits
def ior (x y : Int) : Int := ((x.toNat ||| y.toNat : Nat) : Int)
theorem Jx7 {P : Program} {w : World} {x y : Int} (h : 0 <= x /\ x < 9223372036854775808 /\ 0 <= y /\ y < 9223372036854775808) : (Op.intBits .or .i64 x y).run P w = .ok (.int .i64 (ior x y)) w := by
 obtain ⟨h1, h2, h3, h4⟩ := h; obtain ⟨a, rfl⟩ := Int.eq_ofNat_of_zero_le h1; obtain ⟨b, rfl⟩ := Int.eq_ofNat_of_zero_le h3; have ha : a < 2 ^ 63 := by omega
 have hb : b < 2 ^ 63 := by omega
 have hab := Nat.or_lt_two_pow ha hb; have e1 : (BitVec.ofInt 64 (a : Int) ||| BitVec.ofInt 64 (b : Int)).toNat = a ||| b := by
  rw [BitVec.ofInt_natCast, BitVec.ofInt_natCast, BitVec.toNat_or, BitVec.toNat_ofNat, BitVec.toNat_ofNat, Nat.mod_eq_of_lt (by omega), Nat.mod_eq_of_lt (by omega)]
 have e2 : IntKind.i64.wrap ((a ||| b : Nat) : Int) = ((a ||| b : Nat) : Int) := Jqj (by omega) (by omega) rfl; show Result.ok (Value.int .i64 (IntKind.i64.wrap ((BitVec.ofInt 64 (a : Int) ||| BitVec.ofInt 64 (b : Int)).toNat : Int))) w = Result.ok (Value.int .i64 (((a : Int).toNat ||| (b : Int).toNat : Nat) : Int)) w; rw [e1, e2]; rfl
theorem agi {l : LI} {J : Int} (h : 0 <= J /\ J < (l.length : Nat)) : (is l).toArray[J.toNat]? = some (.int .i64 (gi l J)) := by
 have := Jpi (l := l) (j := J.toNat) (by omega); rw [List.getElem?_toArray]; exact this
section
variable {P : Program} {n : Nat} {ro : Option Nat} {df : List Deferred} {N : J6} {L : Fr} {w w0 : World} {ops : Array Oper} {rest : List Oper}
variable {d : Nat} {ty : TypeId} {pos : String} {af : Array Edge} {X : World -> Prop} {mr : Option Nat} {R : List Rw} {eS eI m c : Nat} {A : Option Addr} {hs : Hs} {ls : LL}
theorem Jfa {x i : Operand} {t k : Nat} {l : LI} {J : Int} (hA : Jhz P t k = true) (hx : ev L x = some (.agg (is l).toArray)) (hi : ev L i = some (.int .i64 J)) (hl : l.length = k) (hJ : 0 <= J /\ J < (k : Nat)) (hn : Nat.blt d n = true)
  (h : WL P n ro df ops rest N ((d, .int .i64 (gi l J)) :: L) w) : WL P n ro df ops (⟨some d, .index t x i, ty, pos, af, none⟩ :: rest) N L w :=
 Jr5 J.toNat hA hx hi (by omega) (by omega) (agi (by omega)) hn h
end
end Go.Proofs.YtjgpkljepgcekaaGreat
namespace Go.Proofs.YtjgpkljepgcekaaGreat
open Go.RowKit
theorem Jr : Tryz.prog.follows .mixedOrders = true := by kernel_rfl
theorem Zj : Elem Tryz.prog 3 1 8 (.int .i64 0) := .mk' (by kernel_rfl) rfl (by decide)
theorem Jxj : Elem Tryz.prog 4 1 1 (.bool false) := .mk' (by kernel_rfl) rfl (by decide)
theorem Jc7 : Elem Tryz.prog 22 1 24 (.slice none 0 0) := .mk' (by kernel_rfl) rfl (by decide)
theorem Joa : Elem Tryz.prog 134 1 24 (.slice none 0 0) := .mk' (by kernel_rfl) rfl (by decide)
theorem Jtw : Elem Tryz.prog 52 2 32 (.agg #[.int .i64 0, .slice none 0 0]) := .mk' (by kernel_rfl) rfl (by decide)
theorem Jif : Jau Tryz.prog 52 0 0 = true := by kernel_rfl
theorem Jie : Jau Tryz.prog 52 1 1 = true := by kernel_rfl
theorem Job : Jr0 Tryz.prog 52 [(0, 1), (1, 1)] #[.int .i64 0, .slice none 0 0] := ⟨by kernel_rfl, _, Tryz.underlying52, by kernel_rfl⟩
theorem Jtx : Elem Tryz.prog 27 5 72 (.agg #[.int .i64 0, .int .i64 0, .slice none 0 0, .int .i64 0, .slice none 0 0]) := .mk' (by kernel_rfl) rfl (by decide)
theorem Jii : Jau Tryz.prog 27 0 0 = true := by kernel_rfl
theorem Jih : Jau Tryz.prog 27 1 3 = true := by kernel_rfl
theorem Jig : Jau Tryz.prog 27 2 4 = true := by kernel_rfl
theorem Joc : Jr0 Tryz.prog 27 [(0, 3), (3, 1), (4, 1)] #[.int .i64 0, .int .i64 0, .slice none 0 0, .int .i64 0, .slice none 0 0] := ⟨by kernel_rfl, _, Tryz.underlying27, by kernel_rfl⟩
theorem Jty : Elem Tryz.prog 24 3 40 (.agg #[.int .i64 0, .int .i64 0, .slice none 0 0]) := .mk' (by kernel_rfl) rfl (by decide)
theorem Jog : Jkf Tryz.prog 24 = true := by kernel_rfl
theorem Joe : Jkf Tryz.prog 52 = true := by kernel_rfl
theorem Jof : Jkf Tryz.prog 27 = true := by kernel_rfl
theorem Jil : Jau Tryz.prog 24 0 0 = true := by kernel_rfl
theorem Jik : Jau Tryz.prog 24 1 1 = true := by kernel_rfl
theorem Jij : Jau Tryz.prog 24 2 2 = true := by kernel_rfl
theorem Jod : Jr0 Tryz.prog 24 [(0, 1), (1, 1), (2, 1)] #[.int .i64 0, .int .i64 0, .slice none 0 0] := ⟨by kernel_rfl, _, Tryz.underlying24, by kernel_rfl⟩
theorem Jfr : Jau Tryz.prog 118 0 0 = true := by kernel_rfl
theorem Ja4 : Jau Tryz.prog 118 1 3 = true := by kernel_rfl
theorem Jfq : Jau Tryz.prog 118 2 4 = true := by kernel_rfl
theorem Jfp : Jau Tryz.prog 118 3 5 = true := by kernel_rfl
theorem Jfo : Jau Tryz.prog 118 4 6 = true := by kernel_rfl
theorem Jkt : Jr0 Tryz.prog 118 [(0, 3), (3, 1), (4, 1), (5, 1), (6, 1)] #[.int .i64 0, .int .i64 0, .slice none 0 0, .int .i64 0, .slice none 0 0, .slice none 0 0, .slice none 0 0] := ⟨by kernel_rfl, _, Tryz.underlying118, by kernel_rfl⟩
theorem Q4 : Jhz Tryz.prog 45 2 = true := by kernel_rfl
theorem Jkv : Jhz Tryz.prog 124 3 = true := by kernel_rfl
theorem Jku : Jhz Tryz.prog 125 8 = true := by kernel_rfl
theorem Jtv : (Tryz.f14.name == "runtime.NumGoroutine") = false := by kernel_rfl
theorem Jtu : (Tryz.f20.name == "runtime.NumGoroutine") = false := by kernel_rfl
theorem Jtt : (Tryz.f21.name == "runtime.NumGoroutine") = false := by kernel_rfl
theorem Jts : (Tryz.f23.name == "runtime.NumGoroutine") = false := by kernel_rfl
theorem Jtr : (Tryz.f24.name == "runtime.NumGoroutine") = false := by kernel_rfl
theorem Jtq : (Tryz.f25.name == "runtime.NumGoroutine") = false := by kernel_rfl
theorem Jtp : (Tryz.f26.name == "runtime.NumGoroutine") = false := by kernel_rfl
theorem Jto : (Tryz.f27.name == "runtime.NumGoroutine") = false := by kernel_rfl
theorem Jtn : (Tryz.f28.name == "runtime.NumGoroutine") = false := by kernel_rfl
theorem Jtm : (Tryz.f31.name == "runtime.NumGoroutine") = false := by kernel_rfl
theorem Jtl : (Tryz.f33.name == "runtime.NumGoroutine") = false := by kernel_rfl
theorem Jtk : (Tryz.f34.name == "runtime.NumGoroutine") = false := by kernel_rfl
theorem Jtj : (Tryz.f36.name == "runtime.NumGoroutine") = false := by kernel_rfl
theorem Jti : (Tryz.f41.name == "runtime.NumGoroutine") = false := by kernel_rfl
theorem Jth : (Tryz.f42.name == "runtime.NumGoroutine") = false := by kernel_rfl
theorem Jtg : (Tryz.f43.name == "runtime.NumGoroutine") = false := by kernel_rfl
theorem Jtf : (Tryz.f44.name == "runtime.NumGoroutine") = false := by kernel_rfl
theorem Jte : (Tryz.f46.name == "runtime.NumGoroutine") = false := by kernel_rfl
theorem Jtd : (Tryz.f47.name == "runtime.NumGoroutine") = false := by kernel_rfl
theorem Jtc : (Tryz.f48.name == "runtime.NumGoroutine") = false := by kernel_rfl
theorem Jtb : (Tryz.f49.name == "runtime.NumGoroutine") = false := by kernel_rfl
theorem Jta : (Tryz.f50.name == "runtime.NumGoroutine") = false := by kernel_rfl
theorem Js9 : (Tryz.f51.name == "runtime.NumGoroutine") = false := by kernel_rfl
theorem Js8 : (Tryz.f52.name == "runtime.NumGoroutine") = false := by kernel_rfl
theorem Js7 : (Tryz.f53.name == "runtime.NumGoroutine") = false := by kernel_rfl
theorem Js6 : (Tryz.f54.name == "runtime.NumGoroutine") = false := by kernel_rfl
theorem Js5 : (Tryz.f55.name == "runtime.NumGoroutine") = false := by kernel_rfl
theorem Js4 : (Tryz.f56.name == "runtime.NumGoroutine") = false := by kernel_rfl
theorem Js3 : (Tryz.f57.name == "runtime.NumGoroutine") = false := by kernel_rfl
theorem Js2 : (Tryz.f58.name == "runtime.NumGoroutine") = false := by kernel_rfl
theorem Js1 : (Tryz.f59.name == "runtime.NumGoroutine") = false := by kernel_rfl
theorem Js0 : (Tryz.f60.name == "runtime.NumGoroutine") = false := by kernel_rfl
theorem Jsz : (Tryz.f61.name == "runtime.NumGoroutine") = false := by kernel_rfl
theorem Jsy : (Tryz.f62.name == "runtime.NumGoroutine") = false := by kernel_rfl
theorem Jsx : (Tryz.f65.name == "runtime.NumGoroutine") = false := by kernel_rfl
theorem Jsw : (Tryz.f66.name == "runtime.NumGoroutine") = false := by kernel_rfl
theorem Jsv : (Tryz.f67.name == "runtime.NumGoroutine") = false := by kernel_rfl
theorem Jsu : (Tryz.f70.name == "runtime.NumGoroutine") = false := by kernel_rfl
theorem Jst : (Tryz.f71.name == "runtime.NumGoroutine") = false := by kernel_rfl
theorem Jss : (Tryz.f72.name == "runtime.NumGoroutine") = false := by kernel_rfl
theorem Jsr : (Tryz.f77.name == "runtime.NumGoroutine") = false := by kernel_rfl
theorem Jsq : (Tryz.f78.name == "runtime.NumGoroutine") = false := by kernel_rfl
theorem Jsp : (Tryz.f79.name == "runtime.NumGoroutine") = false := by kernel_rfl
theorem Jso : (Tryz.f80.name == "runtime.NumGoroutine") = false := by kernel_rfl
theorem Jsn : (Tryz.f82.name == "runtime.NumGoroutine") = false := by kernel_rfl
theorem Jsm : (Tryz.f83.name == "runtime.NumGoroutine") = false := by kernel_rfl
theorem Jsl : (Tryz.f84.name == "runtime.NumGoroutine") = false := by kernel_rfl
theorem Jsk : (Tryz.f85.name == "runtime.NumGoroutine") = false := by kernel_rfl
theorem Jsj : (Tryz.f86.name == "runtime.NumGoroutine") = false := by kernel_rfl
theorem Jsi : (Tryz.f87.name == "runtime.NumGoroutine") = false := by kernel_rfl
theorem Jsh : (Tryz.f88.name == "runtime.NumGoroutine") = false := by kernel_rfl
theorem Jsg : (Tryz.f89.name == "runtime.NumGoroutine") = false := by kernel_rfl
theorem Jsf : (Tryz.f90.name == "runtime.NumGoroutine") = false := by kernel_rfl
theorem Jse : (Tryz.f91.name == "runtime.NumGoroutine") = false := by kernel_rfl
theorem Jsd : (Tryz.f92.name == "runtime.NumGoroutine") = false := by kernel_rfl
theorem Jsc : (Tryz.f93.name == "runtime.NumGoroutine") = false := by kernel_rfl
theorem Jsb : (Tryz.f95.name == "runtime.NumGoroutine") = false := by kernel_rfl
theorem Jsa : (Tryz.f96.name == "runtime.NumGoroutine") = false := by kernel_rfl
theorem Jr9 : (Tryz.f97.name == "runtime.NumGoroutine") = false := by kernel_rfl
theorem Jr8 : (Tryz.f98.name == "runtime.NumGoroutine") = false := by kernel_rfl
theorem Jr7 : (Tryz.f99.name == "runtime.NumGoroutine") = false := by kernel_rfl
theorem Jn9 : (Tryz.f102.name == "runtime.NumGoroutine") = false := by kernel_rfl
theorem Jn8 : (Tryz.f103.name == "runtime.NumGoroutine") = false := by kernel_rfl
theorem Jn7 : (Tryz.f104.name == "runtime.NumGoroutine") = false := by kernel_rfl
theorem Jn6 : (Tryz.f105.name == "runtime.NumGoroutine") = false := by kernel_rfl
theorem Jn5 : (Tryz.f106.name == "runtime.NumGoroutine") = false := by kernel_rfl
theorem Jn4 : (Tryz.f107.name == "runtime.NumGoroutine") = false := by kernel_rfl
theorem Jn3 : (Tryz.f108.name == "runtime.NumGoroutine") = false := by kernel_rfl
theorem Jn2 : (Tryz.f109.name == "runtime.NumGoroutine") = false := by kernel_rfl
theorem Jn1 : (Tryz.f110.name == "runtime.NumGoroutine") = false := by kernel_rfl
theorem Jn0 : (Tryz.f111.name == "runtime.NumGoroutine") = false := by kernel_rfl
theorem Jnz : (Tryz.f112.name == "runtime.NumGoroutine") = false := by kernel_rfl
theorem Jny : (Tryz.f113.name == "runtime.NumGoroutine") = false := by kernel_rfl
theorem Jnx : (Tryz.f114.name == "runtime.NumGoroutine") = false := by kernel_rfl
theorem Jnw : (Tryz.f115.name == "runtime.NumGoroutine") = false := by kernel_rfl
theorem Jnv : (Tryz.f116.name == "runtime.NumGoroutine") = false := by kernel_rfl
theorem Jnu : (Tryz.f117.name == "runtime.NumGoroutine") = false := by kernel_rfl
theorem Jnt : (Tryz.f118.name == "runtime.NumGoroutine") = false := by kernel_rfl
theorem Jns : (Tryz.f119.name == "runtime.NumGoroutine") = false := by kernel_rfl
theorem Jnr : (Tryz.f120.name == "runtime.NumGoroutine") = false := by kernel_rfl
theorem Jnq : (Tryz.f121.name == "runtime.NumGoroutine") = false := by kernel_rfl
theorem Jnp : (Tryz.f122.name == "runtime.NumGoroutine") = false := by kernel_rfl
theorem Jno : (Tryz.f123.name == "runtime.NumGoroutine") = false := by kernel_rfl
theorem Jnn : (Tryz.f124.name == "runtime.NumGoroutine") = false := by kernel_rfl
theorem Jnm : (Tryz.f125.name == "runtime.NumGoroutine") = false := by kernel_rfl
theorem Jnl : (Tryz.f126.name == "runtime.NumGoroutine") = false := by kernel_rfl
theorem Jnk : (Tryz.f127.name == "runtime.NumGoroutine") = false := by kernel_rfl
theorem Jnj : (Tryz.f128.name == "runtime.NumGoroutine") = false := by kernel_rfl
theorem Jni : (Tryz.f130.name == "runtime.NumGoroutine") = false := by kernel_rfl
theorem Jnh : (Tryz.f131.name == "runtime.NumGoroutine") = false := by kernel_rfl
theorem Jng : (Tryz.f132.name == "runtime.NumGoroutine") = false := by kernel_rfl
theorem Jnf : (Tryz.f133.name == "runtime.NumGoroutine") = false := by kernel_rfl
theorem Jne : (Tryz.f134.name == "runtime.NumGoroutine") = false := by kernel_rfl
theorem Jnd : (Tryz.f135.name == "runtime.NumGoroutine") = false := by kernel_rfl
theorem Jnc : (Tryz.f136.name == "runtime.NumGoroutine") = false := by kernel_rfl
theorem Jnb : (Tryz.f137.name == "runtime.NumGoroutine") = false := by kernel_rfl
theorem Jna : (Tryz.f138.name == "runtime.NumGoroutine") = false := by kernel_rfl
theorem Jm9 : (Tryz.f139.name == "runtime.NumGoroutine") = false := by kernel_rfl
theorem Jm8 : (Tryz.f140.name == "runtime.NumGoroutine") = false := by kernel_rfl
theorem Jm7 : (Tryz.f141.name == "runtime.NumGoroutine") = false := by kernel_rfl
theorem Jm6 : (Tryz.f142.name == "runtime.NumGoroutine") = false := by kernel_rfl
theorem Jm5 : (Tryz.f143.name == "runtime.NumGoroutine") = false := by kernel_rfl
theorem Jm4 : (Tryz.f144.name == "runtime.NumGoroutine") = false := by kernel_rfl
end Go.Proofs.YtjgpkljepgcekaaGreat
namespace Go.Proofs.YtjgpkljepgcekaaGreat
open Go.RowKit
/-! ### short names -/
abbrev Jh5 := Jfr
abbrev Zz := Ja4
abbrev Jdz := Jfq
abbrev Ym := Jfp
abbrev Jh4 := Jfo
abbrev J2 := Jil
abbrev Qf := Jik
abbrev QU := Jij
abbrev ZW := Jii
abbrev Jbd := Jih
abbrev Jh3 := Jig
abbrev Q2 := Jif
abbrev Qt := Jie
abbrev Jxb := Jkt
abbrev XB24 := Jod
abbrev XB27 := Joc
abbrev Jh2 := Job
abbrev XE134 := Joa
abbrev Jw := Jc7
abbrev JY := Jty
abbrev QE := Jtx
abbrev XE3 := Zj
abbrev XE4 := Jxj
abbrev J7 := Jtw
abbrev Jp5 := Tryz.func102
abbrev Jp4 := Tryz.func103
abbrev XF104 := Tryz.func104
abbrev XF105 := Tryz.func105
abbrev Jp3 := Tryz.func106
abbrev Jw9 := Tryz.func107
abbrev XF108 := Tryz.func108
abbrev XF109 := Tryz.func109
abbrev Jw8 := Tryz.func110
abbrev XF111 := Tryz.func111
abbrev Jp2 := Tryz.func112
abbrev XF114 := Tryz.func114
abbrev XF115 := Tryz.func115
abbrev XF116 := Tryz.func116
abbrev XF117 := Tryz.func117
abbrev XF118 := Tryz.func118
abbrev Jw7 := Tryz.func119
abbrev Jge := Tryz.func120
abbrev XF121 := Tryz.func121
abbrev Jp1 := Tryz.func122
abbrev Jgd := Tryz.func123
abbrev XF124 := Tryz.func124
abbrev Jp0 := Tryz.func125
abbrev Jw6 := Tryz.func126
abbrev Jpz := Tryz.func127
abbrev Jw5 := Tryz.func128
abbrev XF130 := Tryz.func130
abbrev XF131 := Tryz.func131
abbrev XF132 := Tryz.func132
abbrev Jgc := Tryz.func133
abbrev Jpy := Tryz.func134
abbrev Jpx := Tryz.func135
abbrev Jw4 := Tryz.func136
abbrev XF137 := Tryz.func137
abbrev XF138 := Tryz.func138
abbrev XF139 := Tryz.func139
abbrev XF14 := Tryz.func14
abbrev XF140 := Tryz.func140
abbrev Jw3 := Tryz.func141
abbrev XF142 := Tryz.func142
abbrev XF143 := Tryz.func143
abbrev XF144 := Tryz.func144
abbrev XF20 := Tryz.func20
abbrev XF21 := Tryz.func21
abbrev XF23 := Tryz.func23
abbrev XF24 := Tryz.func24
abbrev XF25 := Tryz.func25
abbrev XF26 := Tryz.func26
abbrev XF27 := Tryz.func27
abbrev XF28 := Tryz.func28
abbrev XF31 := Tryz.func31
abbrev XF33 := Tryz.func33
abbrev XF34 := Tryz.func34
abbrev XF36 := Tryz.func36
abbrev XF41 := Tryz.func41
abbrev XF42 := Tryz.func42
abbrev XF43 := Tryz.func43
abbrev XF44 := Tryz.func44
abbrev XF46 := Tryz.func46
abbrev XF47 := Tryz.func47
abbrev XF48 := Tryz.func48
abbrev XF49 := Tryz.func49
abbrev XF50 := Tryz.func50
abbrev XF51 := Tryz.func51
abbrev Jr2 := Tryz.func52
abbrev XF53 := Tryz.func53
abbrev XF54 := Tryz.func54
abbrev XF55 := Tryz.func55
abbrev XF56 := Tryz.func56
abbrev XF57 := Tryz.func57
abbrev XF58 := Tryz.func58
abbrev XF59 := Tryz.func59
abbrev XF6 := Tryz.func6
abbrev XF60 := Tryz.func60
abbrev XF61 := Tryz.func61
abbrev XF62 := Tryz.func62
abbrev XF65 := Tryz.func65
abbrev XF66 := Tryz.func66
abbrev XF67 := Tryz.func67
abbrev Jkj := Tryz.func70
abbrev XF71 := Tryz.func71
abbrev XF72 := Tryz.func72
abbrev XF77 := Tryz.func77
abbrev XF78 := Tryz.func78
abbrev XF79 := Tryz.func79
abbrev XF80 := Tryz.func80
abbrev XF82 := Tryz.func82
abbrev XF83 := Tryz.func83
abbrev XF84 := Tryz.func84
abbrev XF85 := Tryz.func85
abbrev XF86 := Tryz.func86
abbrev XF87 := Tryz.func87
abbrev XF88 := Tryz.func88
abbrev XF89 := Tryz.func89
abbrev XF90 := Tryz.func90
abbrev XF91 := Tryz.func91
abbrev XF92 := Tryz.func92
abbrev XF93 := Tryz.func93
abbrev XF95 := Tryz.func95
abbrev XF96 := Tryz.func96
abbrev XF97 := Tryz.func97
abbrev XF98 := Tryz.func98
abbrev XF99 := Tryz.func99
abbrev J1 := Jog
abbrev Zy := Jof
abbrev QX := Joe
abbrev Jw2 := Jn9
abbrev Jw1 := Jn8
abbrev XN104 := Jn7
abbrev XN105 := Jn6
abbrev Jw0 := Jn5
abbrev XN107 := Jn4
abbrev XN108 := Jn3
abbrev XN109 := Jn2
abbrev XN110 := Jn1
abbrev XN111 := Jn0
abbrev Jwz := Jnz
abbrev XN114 := Jnx
abbrev XN115 := Jnw
abbrev XN116 := Jnv
abbrev XN117 := Jnu
abbrev XN118 := Jnt
abbrev XN119 := Jns
abbrev Jwy := Jnr
abbrev XN121 := Jnq
abbrev XN122 := Jnp
abbrev Jki := Jno
abbrev XN124 := Jnn
abbrev XN125 := Jnm
abbrev XN126 := Jnl
abbrev XN127 := Jnk
abbrev XN128 := Jnj
abbrev XN130 := Jni
abbrev XN131 := Jnh
abbrev XN132 := Jng
abbrev Jkh := Jnf
abbrev Jwx := Jne
abbrev Jww := Jnd
abbrev XN136 := Jnc
abbrev XN137 := Jnb
abbrev XN138 := Jna
abbrev XN139 := Jm9
abbrev XN14 := Jtv
abbrev XN140 := Jm8
abbrev XN141 := Jm7
abbrev XN142 := Jm6
abbrev XN143 := Jm5
abbrev XN144 := Jm4
abbrev XN20 := Jtu
abbrev XN21 := Jtt
abbrev XN23 := Jts
abbrev XN24 := Jtr
abbrev XN25 := Jtq
abbrev XN26 := Jtp
abbrev XN27 := Jto
abbrev XN28 := Jtn
abbrev XN31 := Jtm
abbrev XN33 := Jtl
abbrev XN34 := Jtk
abbrev XN36 := Jtj
abbrev XN41 := Jti
abbrev XN42 := Jth
abbrev XN43 := Jtg
abbrev XN44 := Jtf
abbrev XN46 := Jte
abbrev XN47 := Jtd
abbrev XN48 := Jtc
abbrev XN49 := Jtb
abbrev XN50 := Jta
abbrev XN51 := Js9
abbrev XN52 := Js8
abbrev XN53 := Js7
abbrev XN54 := Js6
abbrev XN55 := Js5
abbrev XN56 := Js4
abbrev XN57 := Js3
abbrev XN58 := Js2
abbrev XN59 := Js1
abbrev XN60 := Js0
abbrev XN61 := Jsz
abbrev XN62 := Jsy
abbrev XN65 := Jsx
abbrev XN66 := Jsw
abbrev XN67 := Jsv
abbrev Jm0 := Jsu
abbrev XN71 := Jst
abbrev XN72 := Jss
abbrev XN77 := Jsr
abbrev XN78 := Jsq
abbrev XN79 := Jsp
abbrev XN80 := Jso
abbrev XN82 := Jsn
abbrev XN83 := Jsm
abbrev XN84 := Jsl
abbrev XN85 := Jsk
abbrev XN86 := Jsj
abbrev XN87 := Jsi
abbrev XN88 := Jsh
abbrev XN89 := Jsg
abbrev XN90 := Jsf
abbrev XN91 := Jse
abbrev XN92 := Jsd
abbrev XN93 := Jsc
abbrev XN95 := Jsb
abbrev XN96 := Jsa
abbrev XN97 := Jr9
abbrev XN98 := Jr8
abbrev XN99 := Jr7
abbrev Jgb := Tryz.underlying112
abbrev Je8 := Tryz.underlying134
abbrev Jo := Tryz.underlying22
abbrev Jy := Tryz.underlying25
abbrev XU3 := Tryz.underlying3
abbrev XU4 := Tryz.underlying4
abbrev Jdl := Tryz.underlying85
end Go.Proofs.YtjgpkljepgcekaaGreat
set_option maxRecDepth 4000
set_option maxHeartbeats 4000000
namespace Go.Proofs.YtjgpkljepgcekaaGreat
open Go.RowKit
def Jfd (b : Bool) (Q : Int -> Prop) : Prop :=
  ((b = true) -> (Q 0)) /\ (b = false -> (Q 1))
theorem Jo7 {w : World} {Q : Int -> Prop} {b : Bool}  (hv : Jfd b Q) :
   Calls Tryz.prog 53 #[.bool b] w <| Rt w fun v Qr => ∃ (r0 : Int), v = .int .i64 r0 /\ Qr = [] /\ Q r0 := by
 refine Jk <| Jh (vs := [.bool b]) [2] XF53 rfl rfl rfl rfl ?_; have hS := Jp w; unfold Jfd at hv; refine Jc 9 <| Jf rfl (fun c11 => ?_) (fun c11 => ?_)
 .have hv := hv.1 (c11); refine Jc 4 <| W.ret <| ⟨_, rfl, Fin.nil ?_⟩
  exact (hS.pick [] rfl).fin rfl ⟨(0 : Int), rfl, rfl, hv⟩
 have hv := hv.2 (c11); refine Ji <| Jc 4 <| W.ret <| ⟨_, rfl, Fin.nil ?_⟩
 exact (hS.pick [] rfl).fin rfl ⟨(1 : Int), rfl, rfl, hv⟩
def Yg (x : Int) (Q : Int -> Prop) : Prop :=
  ∃ (I14 : Int -> Prop) (μ15 : Int -> Nat), I14 2 /\ ∀ (z13 : Int), (I14 z13 -> ((I64 (z13 * z13)) /\ ((((z13 * z13) <= x) -> ((z13 ≠ 0) /\ ((((x.tmod z13) = (0 : Int)) -> Q z13) /\ (¬ ((x.tmod z13) = (0 : Int)) -> ((I64 (z13 + 1)) /\ (I14 (z13 + 1) /\ μ15 (z13 + 1) < μ15 z13)))))) /\ (¬ ((z13 * z13) <= x) -> Q x))))
theorem Jdj {w : World} {Q : Int -> Prop} {x : Int}  (hv : Yg x Q) :
   Calls Tryz.prog 87 #[.int .i64 x] w <| Rt w fun v Qr => ∃ (r0 : Int), v = .int .i64 r0 /\ Qr = [] /\ Q r0 := by
 refine Jk <| Jh (vs := [nI x]) [2] XF87 rfl rfl rfl rfl ?_; have hS := Jp w; unfold Yg at hv; refine Jc 9 <| W.block ?_; obtain ⟨I14, μ15, hv, hk22⟩ := hv; refine Jz (σ := Int) (fun z13 w1 => I14 z13 /\ St TT w none w1 []) (fun z13 => [(0, nI x), (2, nI 0), (3, nI z13)]) (fun z13 => μ15 z13) (2 : Int) ⟨hv, hS⟩ ⟨rfl, rfl, rfl, trivial⟩ ?_; rintro z13 w16 ⟨hv, hS⟩; have hv := hk22 z13 hv; refine Jc 5 ?_; obtain ⟨o17, hv⟩ := hv; refine WL.mul (r := (z13 * z13)) rfl rfl (wr o17) rfl <| Jb 3 <| Jf rfl (fun c18 => ?_) (fun c18 => ?_)
 .have hv := hv.1 (oT c18); refine Ji <| Js <| W.block <| Jc 4 ?_; obtain ⟨o19, hv⟩ := hv; refine Qa (r := (x.tmod z13)) rfl rfl o19 rfl rfl <| Jb 2 <| Jf rfl (fun c20 => ?_) (fun c20 => ?_)
  .have hv := hv.1 (oT c20); refine Jc 5 <| W.ret <| ⟨_, rfl, Fin.nil ?_⟩
   exact (hS.pick [] rfl).fin rfl ⟨z13, rfl, rfl, hv⟩
  have hv := hv.2 (oF c20); refine Ji <| Jc 2 ?_; obtain ⟨o21, hv⟩ := hv; refine WL.add (r := (z13 + 1)) rfl rfl (wr o21) rfl <| Jb 2 ?_; exact ⟨(z13 + 1), sp rfl, hv.2, rfl, hv.1, hS⟩
 have hv := hv.2 (oF c18); refine Ju <| Jc 5 <| W.ret <| ⟨_, rfl, Fin.nil ?_⟩
 exact (hS.pick [] rfl).fin rfl ⟨x, rfl, rfl, hv⟩
def Jan (x : Int) (Q : Bool -> Prop) : Prop :=
  (((2 : Int) <= x) -> (Yg x (fun r13 => Q (decide (r13 = x))))) /\ (¬ ((2 : Int) <= x) -> Q false)
theorem Jlu {w : World} {Q : Bool -> Prop} {x : Int}  (hv : Jan x Q) :
   Calls Tryz.prog 51 #[.int .i64 x] w <| Rt w fun v Qr => ∃ (r0 : Bool), v = .bool r0 /\ Qr = [] /\ Q r0 := by
 refine Jk <| Jh (vs := [nI x]) [2] XF51 rfl rfl rfl rfl ?_; have hS := Jp w; unfold Jan at hv; refine Jc 8 <| Jl rfl rfl ?_; by_cases g11 : (2 : Int) <= x
 .have hv := hv.1 g11; rw [decide_eq_true g11]; refine Jb 3 <| SL.call hS (Jdj  hv) XF87 rfl XN87 rfl rfl ?_; rintro _ _ w12 ⟨r13, rfl, rfl, hv⟩ hGw12 hS; have hS := hS.n0; refine Jb 7 <| W.ret <| ⟨_, rfl, Fin.nil ?_⟩
  exact (hS.pick [] rfl).fin rfl ⟨(decide (r13 = x)), rfl, rfl, hv⟩
 have hv := hv.2 g11; rw [decide_eq_false g11]; refine Jb 7 <| W.ret <| ⟨_, rfl, Fin.nil ?_⟩
 exact (hS.pick [] rfl).fin rfl ⟨false, rfl, rfl, hv⟩
def ZD (Pf : Int) (Mf : Int) (mf : LI) (Q : Int -> Prop) : Prop :=
  ∃ J14 : Int -> Prop, (∃ (I21 : Int -> Int -> Prop) (μ22 : Int -> Int -> Nat), I21 1 (0 : Int) /\ ∀ (z19 : Int) (z20 : Int), (I21 z19 z20 -> (((z20 < Mf) -> (((z19 <= 256) -> ((I64 (z19 * Pf)) /\ ((I64 (z20 + 1)) /\ (I21 (z19 * Pf) (z20 + 1) /\ μ22 (z19 * Pf) (z20 + 1) < μ22 z19 z20)))) /\ (¬ (z19 <= 256) -> J14 z19))) /\ (¬ (z20 < Mf) -> J14 z19)))) /\ ∀ (z13 : Int), (J14 z13 -> Q z13)
theorem ZM {w : World} {Q : Int -> Prop} {Pf : Int} {Mf : Int} {mf : LI} {Bf : Nat} {Af : Option Addr} {nf kf : Nat} (hf : Rd Bf w 1 Af nf kf (is mf)) (hv : ZD Pf Mf mf Q) :
   Calls Tryz.prog 52 #[.agg #[.int .i64 Pf, .int .i64 Mf, .slice Af nf kf]] w <| Rt w fun v Qr => ∃ (r0 : Int), v = .int .i64 r0 /\ Qr = [] /\ Q r0 := by
 have hnf := hf.ilen; subst hnf; refine Jk <| Jh (vs := [.agg #[nI Pf, nI Mf, nS Af mf kf]]) [2] Jr2 rfl rfl rfl rfl ?_; have hS := Jp w; unfold ZD at hv; refine Jc 2 <| JC (z := 3) (cs := [nI Pf, nI Mf, nS Af mf kf]) hS rfl rfl rfl rfl ?_; intro g11 w12 hS; refine Jb 2 <| Jc 9 ?_; obtain ⟨J14, hv, hk30⟩ := hv; refine Qe (σ := Int) (fun z13 w1 => J14 z13 /\ St TT w none w1 [.row 24 3 (nA g11) 1 1 [nI Pf, nI Mf, nS Af mf kf]]) (fun z13 => [(2, nI 0), (3, nI z13)]) ?_ ?_
 .refine W.block ?_; obtain ⟨I21, μ22, hv, hk28⟩ := hv; refine Jz (σ := Int × Int) (fun q w1 => match q with | (z19, z20) => I21 z19 z20 /\ St TT w none w1 [.row 24 3 (nA g11) 1 1 [nI Pf, nI Mf, nS Af mf kf]]) (fun (z19, z20) => [(1, nP g11), (2, nI 0), (3, nI z19), (4, nI z20)]) (fun (z19, z20) => μ22 z19 z20) ((1 : Int), (0 : Int)) ⟨hv, hS⟩ ⟨rfl, rfl, rfl, rfl, trivial⟩ ?_; rintro ⟨z19, z20⟩ w23 ⟨hv, hS⟩; have hv := hk28 z19 z20 hv; refine Jc 4 <| Je (off := 1) Qf rfl rfl <| Jm 0 1 XU3 hS rfl rfl rfl ⟨rfl, rfl⟩ <| Qw rfl rfl rfl <| Jl rfl rfl ?_; by_cases g24 : z20 < Mf
  .have hv := hv.1 g24; rw [decide_eq_true g24]; refine Jb 6 <| Jf rfl (fun c25 => ?_) (fun c25 => ?_)
   .have hv := hv.1 (oT c25); refine Ji <| Js <| W.block <| Jc 2 <| Je (off := 0) J2 rfl rfl <| Jm 0 0 XU3 hS rfl rfl rfl ⟨rfl, rfl⟩ ?_; obtain ⟨o26, hv⟩ := hv; refine WL.mul (r := (z19 * Pf)) rfl rfl (wr o26) rfl <| Jb 2 <| Jc 2 ?_; obtain ⟨o27, hv⟩ := hv; refine WL.add (r := (z20 + 1)) rfl rfl (wr o27) rfl <| Jb 2 ?_; exact ⟨((z19 * Pf), (z20 + 1)), sp rfl, hv.2, rfl, hv.1, hS⟩
   have hv := hv.2 (oF c25); refine Ju ?_; exact ⟨z19, ⟨rfl, rfl, trivial⟩, rfl, hv, hS⟩
  have hv := hv.2 g24; rw [decide_eq_false g24]; refine Jb 4 <| QA rfl <| Ju ?_; exact ⟨z19, ⟨rfl, rfl, trivial⟩, rfl, hv, hS⟩
 rintro z13 w29 ⟨hv, hS⟩; have hv := hk30 z13 hv; refine Jc 5 <| W.ret <| ⟨_, rfl, Fin.nil ?_⟩
 exact (hS.pick [] rfl).fin rfl ⟨z13, rfl, rfl, hv⟩
def Zh (p : Int) (n : Int) (x : Int) (Q : LI -> Prop) : Prop :=
  (0 <= n /\ n * 8 <= 281474976710656 /\ n <= 281474976710656) /\ (∃ (I24 : LI -> Int -> Int -> Prop) (μ25 : LI -> Int -> Int -> Nat), I24 (List.replicate n.toNat (0 : Int)) x (0 : Int) /\ ∀ (x21 : LI) (z22 : Int) (z23 : Int), (I24 x21 z22 z23 -> (((z23 < ((n.toNat : Nat) : Int)) -> ((p ≠ 0) /\ ((0 <= z23 /\ z23 < (n.toNat : Nat)) /\ ((p ≠ 0 /\ I64 (z22.tdiv p)) /\ ((I64 (z23 + 1)) /\ (I24 (si x21 z23 (z22.tmod p)) (z22.tdiv p) (z23 + 1) /\ μ25 (si x21 z23 (z22.tmod p)) (z22.tdiv p) (z23 + 1) < μ25 x21 z22 z23)))))) /\ (¬ (z23 < ((n.toNat : Nat) : Int)) -> Q x21))))
theorem Jco {w : World} {Q : LI -> Prop} {p : Int} {n : Int} {x : Int}  (hv : Zh p n x Q) :
  Calls Tryz.prog 90 #[.int .i64 p, .int .i64 n, .int .i64 x] w <| Rt w fun v Qr => ∃ (x : LI)  (A : Option Addr) (c : Nat), v = .slice A x.length c /\ Qr = [.row 3 1 A x.length c (is x)] /\ Q x := by
 refine Jk <| Jh (vs := [nI p, nI n, nI x]) [6] XF90 rfl rfl rfl rfl ?_; have hS := Jp w; unfold Zh at hv; refine Jc 7 ?_; obtain ⟨o11, hv⟩ := hv; refine Qj (J := n) hS Jo XE3 rfl rfl o11 (Qz _) rfl ?_; intro A12 w13 hS; refine Jb 2 <| Jc 4 <| WL.len Jo rfl rfl <| Jb 2 <| W.block ?_; obtain ⟨I24, μ25, hv, hk33⟩ := hv; refine Jz (σ := LI × Int × Int) (fun q w1 => match q with | (x21, z22, z23) => I24 x21 z22 z23 /\ St TT w none w1 [.row 3 1 A12 n.toNat n.toNat (is x21)]) (fun (x21, z22, z23) => [(0, nI p), (2, nI z22), (6, .slice none 0 0), (7, .slice A12 n.toNat n.toNat), (12, nI ((n.toNat : Nat) : Int)), (13, nI z23)]) (fun (x21, z22, z23) => μ25 x21 z22 z23) (List.replicate n.toNat (0 : Int), x, (0 : Int)) ⟨hv, hS⟩ ⟨rfl, rfl, rfl, rfl, rfl, rfl, trivial⟩ ?_; rintro ⟨x21, z22, z23⟩ w26 ⟨hv, hS⟩; have hv := hk33 x21 z22 z23 hv; refine Jc 5 <| Jf rfl (fun c27 => ?_) (fun c27 => ?_)
 .have hv := hv.1 (oT c27); refine Ji <| Js <| W.block <| Jc 11 ?_; obtain ⟨o28, hv⟩ := hv; refine Qa (r := (z22.tmod p)) rfl rfl o28 rfl rfl ?_; obtain ⟨o29, hv⟩ := hv; refine Jg Jo XE3 (hS.rd (i := 0) rfl) rfl rfl o29 rfl <| JB (cs' := is (si x21 z23 (z22.tmod p))) 0 z23.toNat hS rfl XE3 rfl rfl rfl (Qu (hS.rd (i := 0) rfl) o29) (J9 _ _ _) ?_; intro w30 hS; refine Ja <| Jc 3 ?_; obtain ⟨o31, hv⟩ := hv; refine Jm1 (r := (z22.tdiv p)) rfl rfl o31.1 (wr o31.2) rfl <| Jb 2 <| Jt ?_; obtain ⟨o32, hv⟩ := hv; refine WL.add (r := (z23 + 1)) rfl rfl (wr o32) rfl <| Jb 2 ?_; exact ⟨(si x21 z23 (z22.tmod p), (z22.tdiv p), (z23 + 1)), sp rfl, hv.2, rfl, hv.1, hS⟩
 have hv := hv.2 (oF c27); refine Ju <| Jc 5 <| W.ret ?_; have hm := (hS.rd (i := 0) rfl).ilen; have hS := hS.relen (i := 0) rfl hm.symm; refine ⟨_, rfl, Fin.nil ?_⟩; exact ⟨_, hS.ext, (hS.pick [0] rfl).rows, Qb (hS.pick [0] rfl).rows rfl, ⟨x21, A12, n.toNat, (by rw [hm]), rfl, hv⟩⟩
def YS (Pf : Int) (Mf : Int) (mf : LI) (x : Int) (Q : Int -> Prop) : Prop :=
  (Pf ≠ 0) /\ ((I64 (Pf - 1)) /\ ((((x.tmod Pf) = (Pf - 1)) -> ((Pf ≠ 0) /\ ((I64 (x - (x.tmod Pf))) /\ (Q (x - (x.tmod Pf)))))) /\ (¬ ((x.tmod Pf) = (Pf - 1)) -> ((I64 (x + 1)) /\ (Q (x + 1))))))
theorem Jg4 {w : World} {Q : Int -> Prop} {Pf : Int} {Mf : Int} {mf : LI} {x : Int} {Bf : Nat} {Af : Option Addr} {nf kf : Nat} (hf : Rd Bf w 1 Af nf kf (is mf)) (hv : YS Pf Mf mf x Q) :
   Calls Tryz.prog 105 #[.agg #[.int .i64 Pf, .int .i64 Mf, .slice Af nf kf], .int .i64 x] w <| Rt w fun v Qr => ∃ (r0 : Int), v = .int .i64 r0 /\ Qr = [] /\ Q r0 := by
 have hnf := hf.ilen; subst hnf; refine Jk <| Jh (vs := [.agg #[nI Pf, nI Mf, nS Af mf kf], nI x]) [4] XF105 rfl rfl rfl rfl ?_; have hS := Jp w; unfold YS at hv; refine Jc 2 <| JC (z := 3) (cs := [nI Pf, nI Mf, nS Af mf kf]) hS rfl rfl rfl rfl ?_; intro g11 w12 hS; refine Jb 2 <| Jc 2 ?_; obtain ⟨o17, hv⟩ := hv; obtain ⟨o21, hv⟩ := hv; refine JN 8 [⟨[], [1], true⟩, ⟨[], [2], true⟩, ⟨[1], [], false⟩, ⟨[0, 2], [], true⟩, ⟨[], [2], true⟩, ⟨[4], [], false⟩, ⟨[5], [], true⟩, ⟨[3, 6], [], true⟩] [(5, nI x), (6, nP g11), (7, nI Pf), (8, nI (x.tmod Pf)), (9, nP g11), (10, nI Pf), (11, nI (Pf - 1)), (12, .bool (decide ((x.tmod Pf) = (Pf - 1))))] Jr (by kernel_rfl) rfl rfl ?_ ?_
 . refine ⟨oD, fun _ _ _ => Je (off := 0) J2 rfl rfl <| Ja ⟨rfl, rfl⟩, og hS fun _ _ hS => Jm 0 0 XU3 hS rfl rfl rfl ⟨rfl, rfl⟩ <| Ja ⟨rfl, Jd _⟩, fun _ _ _ => Qa (r := (x.tmod Pf)) rfl rfl o17 rfl rfl <| Ja ⟨rfl, rfl⟩, fun _ _ _ => Je (off := 0) J2 rfl rfl <| Ja ⟨rfl, rfl⟩, og hS fun _ _ hS => Jm 0 0 XU3 hS rfl rfl rfl ⟨rfl, rfl⟩ <| Ja ⟨rfl, Jd _⟩, fun _ _ _ => WL.sub (r := (Pf - 1)) rfl rfl (wr o21) rfl <| Ja ⟨rfl, rfl⟩, oD, trivial⟩
 intro w23 hT; have hS := hS.grow hT; refine JL <| Jf rfl (fun c24 => ?_) (fun c24 => ?_)
 .have hv := hv.1 (oT c24); refine Jc 4 <| Je (off := 0) J2 rfl rfl <| Jm 0 0 XU3 hS rfl rfl rfl ⟨rfl, rfl⟩ ?_; obtain ⟨o25, hv⟩ := hv; refine Qa (r := (x.tmod Pf)) rfl rfl o25 rfl rfl ?_; obtain ⟨o26, hv⟩ := hv; refine WL.sub (r := (x - (x.tmod Pf))) rfl rfl (wr o26) rfl <| Jb 2 <| W.ret <| ⟨_, rfl, Fin.nil ?_⟩
  exact (hS.pick [] rfl).fin rfl ⟨(x - (x.tmod Pf)), rfl, rfl, hv⟩
 have hv := hv.2 (oF c24); refine Ji <| Jc 3 ?_; obtain ⟨o27, hv⟩ := hv; refine WL.add (r := (x + 1)) rfl rfl (wr o27) rfl <| Jb 2 <| W.ret <| ⟨_, rfl, Fin.nil ?_⟩
 exact (hS.pick [] rfl).fin rfl ⟨(x + 1), rfl, rfl, hv⟩
def Yo (l : LI) (Q : LI -> Prop) : Prop :=
  ∀ b11 : Bool, (b11 = true -> l = []) -> (((b11 = true) -> (Q ([] : LI))) /\ (b11 = false -> ((((0 : Nat) + (l.length : Nat) : Int) * 8 <= 140737488355328) /\ (Q (([] : LI) ++ l)))))
theorem YE {w : World} {Q : LI -> Prop} {l : LI} {Bl : Nat} {Al : Option Addr} {nl kl : Nat} (hl : Rd Bl w 1 Al nl kl (is l)) (hv : Yo l Q) :
  Calls Tryz.prog 70 #[.slice Al nl kl] w <| Rt w fun v Qr => ∃ (x : LI)  (A : Option Addr) (c : Nat), v = .slice A x.length c /\ Qr = [.row 3 1 A x.length c (is x)] /\ Q x := by
 have hnl := hl.ilen; subst hnl; refine Jk <| Jh (vs := [nS Al l kl]) [2] Jkj rfl rfl rfl rfl ?_; have hS := Jp w; unfold Yo at hv; refine Jc 8 ?_; obtain ⟨b11, hb11⟩ : ∃ b, Al.isNone = b := ⟨_, rfl⟩
 have hv := hv b11 (fun h => Jtz (hS.ro hl) (hb11.trans h)); refine Jr6 hb11 Jo rfl rfl rfl <| Ja <| Jf rfl (fun c12 => ?_) (fun c12 => ?_)
 .have hv := hv.1 (c12); refine Jc 4 <| W.ret ?_; have hS := hS.nil (e := 3) (z := 1); refine ⟨_, rfl, Fin.nil ?_⟩; exact (hS.pick [0] rfl).fin rfl ⟨([] : LI), none, 0, rfl, rfl, hv⟩
 have hv := hv.2 (c12); refine Ji <| Jc 2 <| QG (vs := is ([] : LI)) hS Jo XE3 rfl rfl rfl rfl (Qo _) rfl ?_; intro A13 w14 hS; refine Jl rfl rfl ?_; obtain ⟨o16, hv⟩ := hv; refine SL.append (cs := is ([] : LI)) (cs' := is l) 0 ((([] : LI) ++ l).length) (is (([] : LI) ++ l)) hS rfl Jo XE3 (hS.ro hl) (Qo _) rfl rfl (apk o16).1 (apk o16).2 (Ja2 (hS.rd (i := 0) rfl) (hS.ro hl)) (Qk _ _) rfl ?_; intro A17 k18 w19 hS; refine Jb 2 <| W.ret <| ⟨_, rfl, Fin.nil ?_⟩
 exact (hS.pick [0] rfl).fin rfl ⟨([] : LI) ++ l, A17, k18, rfl, rfl, hv⟩
def Zc (Pf : Int) (Mf : Int) (mf : LI) (Q : Int -> Prop) : Prop :=
  ((Pf < 2) -> (Q 0)) /\ (¬ (Pf < 2) -> (((Mf < 1) -> (Q 0)) /\ (¬ (Mf < 1) -> ((((8 : Int) < Mf) -> (Q 0)) /\ (¬ ((8 : Int) < Mf) -> (∃ (I22 : Int -> Int -> Prop) (μ23 : Int -> Int -> Nat), I22 1 (0 : Int) /\ ∀ (z20 : Int) (z21 : Int), (I22 z20 z21 -> (((z21 < Mf) -> ((Pf ≠ 0 /\ I64 ((256 : Int).tdiv Pf)) /\ (((((256 : Int).tdiv Pf) < z20) -> (Q 0)) /\ (¬ (((256 : Int).tdiv Pf) < z20) -> ((I64 (z20 * Pf)) /\ ((I64 (z21 + 1)) /\ (I22 (z20 * Pf) (z21 + 1) /\ μ23 (z20 * Pf) (z21 + 1) < μ23 z20 z21))))))) /\ (¬ (z21 < Mf) -> Q z20)))))))))
theorem Jck {w : World} {Q : Int -> Prop} {Pf : Int} {Mf : Int} {mf : LI} {Bf : Nat} {Af : Option Addr} {nf kf : Nat} (hf : Rd Bf w 1 Af nf kf (is mf)) (hv : Zc Pf Mf mf Q) :
   Calls Tryz.prog 59 #[.agg #[.int .i64 Pf, .int .i64 Mf, .slice Af nf kf]] w <| Rt w fun v Qr => ∃ (r0 : Int), v = .int .i64 r0 /\ Qr = [] /\ Q r0 := by
 have hnf := hf.ilen; subst hnf; refine Jk <| Jh (vs := [.agg #[nI Pf, nI Mf, nS Af mf kf]]) [2] XF59 rfl rfl rfl rfl ?_; have hS := Jp w; unfold Zc at hv; refine Jc 2 <| JC (z := 3) (cs := [nI Pf, nI Mf, nS Af mf kf]) hS rfl rfl rfl rfl ?_; intro g11 w12 hS; refine Jb 2 <| Jc 3 <| Je (off := 0) J2 rfl rfl <| Jm 0 0 XU3 hS rfl rfl rfl ⟨rfl, rfl⟩ <| Qw rfl rfl rfl <| Jl rfl rfl ?_; by_cases g13 : Pf < 2
 .have hv := hv.1 g13; rw [decide_eq_true g13]; refine Jb 10 <| JX rfl <| Jc 4 <| W.ret <| ⟨_, rfl, Fin.nil ?_⟩
  exact (hS.pick [] rfl).fin rfl ⟨(0 : Int), rfl, rfl, hv⟩
 have hv := hv.2 g13; rw [decide_eq_false g13]; refine WL.take rfl <| Je (off := 1) Qf rfl rfl <| WL.take rfl <| Jm 0 1 XU3 hS rfl rfl rfl ⟨rfl, rfl⟩ <| Jb 3 <| Jl rfl rfl ?_; by_cases g14 : Mf < 1
 .have hv := hv.1 g14; rw [decide_eq_true g14]; refine Jb 5 <| JX rfl <| Jc 4 <| W.ret <| ⟨_, rfl, Fin.nil ?_⟩
  exact (hS.pick [] rfl).fin rfl ⟨(0 : Int), rfl, rfl, hv⟩
 have hv := hv.2 g14; rw [decide_eq_false g14]; refine WL.take rfl <| Je (off := 1) Qf rfl rfl <| WL.take rfl <| Jm 0 1 XU3 hS rfl rfl rfl ⟨rfl, rfl⟩ <| Jb 4 <| Jf rfl (fun c15 => ?_) (fun c15 => ?_)
 .have hv := hv.1 (oT c15); refine Jc 4 <| W.ret <| ⟨_, rfl, Fin.nil ?_⟩
  exact (hS.pick [] rfl).fin rfl ⟨(0 : Int), rfl, rfl, hv⟩
 have hv := hv.2 (oF c15); refine Ji <| Jc 9 <| W.block ?_; obtain ⟨I22, μ23, hv, hk30⟩ := hv; refine Jz (σ := Int × Int) (fun q w1 => match q with | (z20, z21) => I22 z20 z21 /\ St TT w none w1 [.row 24 3 (nA g11) 1 1 [nI Pf, nI Mf, nS Af mf kf]]) (fun (z20, z21) => [(1, nP g11), (2, nI 0), (3, nI z20), (4, nI z21)]) (fun (z20, z21) => μ23 z20 z21) ((1 : Int), (0 : Int)) ⟨hv, hS⟩ ⟨rfl, rfl, rfl, rfl, trivial⟩ ?_; rintro ⟨z20, z21⟩ w24 ⟨hv, hS⟩; have hv := hk30 z20 z21 hv; refine Jc 4 <| Je (off := 1) Qf rfl rfl <| Jm 0 1 XU3 hS rfl rfl rfl ⟨rfl, rfl⟩ <| Jb 2 <| Jf rfl (fun c25 => ?_) (fun c25 => ?_)
 .have hv := hv.1 (oT c25); refine Ji <| Js <| W.block <| Jc 4 <| Je (off := 0) J2 rfl rfl <| Jm 0 0 XU3 hS rfl rfl rfl ⟨rfl, rfl⟩ ?_; obtain ⟨o26, hv⟩ := hv; refine Jm1 (r := ((256 : Int).tdiv Pf)) rfl rfl o26.1 (wr o26.2) rfl <| Jb 2 <| Jf rfl (fun c27 => ?_) (fun c27 => ?_)
  .have hv := hv.1 (oT c27); refine Jc 4 <| W.ret <| ⟨_, rfl, Fin.nil ?_⟩
   exact (hS.pick [] rfl).fin rfl ⟨(0 : Int), rfl, rfl, hv⟩
  have hv := hv.2 (oF c27); refine Ji <| Jc 2 <| Je (off := 0) J2 rfl rfl <| Jm 0 0 XU3 hS rfl rfl rfl ⟨rfl, rfl⟩ ?_; obtain ⟨o28, hv⟩ := hv; refine WL.mul (r := (z20 * Pf)) rfl rfl (wr o28) rfl <| Jb 2 <| Jc 2 ?_; obtain ⟨o29, hv⟩ := hv; refine WL.add (r := (z21 + 1)) rfl rfl (wr o29) rfl <| Jb 2 ?_; exact ⟨((z20 * Pf), (z21 + 1)), sp rfl, hv.2, rfl, hv.1, hS⟩
 have hv := hv.2 (oF c25); refine Ju <| Jc 5 <| W.ret <| ⟨_, rfl, Fin.nil ?_⟩
 exact (hS.pick [] rfl).fin rfl ⟨z20, rfl, rfl, hv⟩
def Jb4 (x : Int) (Q : Bool -> Prop) : Prop :=
  ∃ (I14 : Int -> Prop) (μ15 : Int -> Nat), I14 2 /\ ∀ (z13 : Int), (I14 z13 -> (((z13 < x) -> ((z13 ≠ 0) /\ ((((x.tmod z13) = (0 : Int)) -> Q false) /\ (¬ ((x.tmod z13) = (0 : Int)) -> ((I64 (z13 + 1)) /\ (I14 (z13 + 1) /\ μ15 (z13 + 1) < μ15 z13)))))) /\ (¬ (z13 < x) -> Q true)))
theorem Jqz {w : World} {Q : Bool -> Prop} {x : Int}  (hv : Jb4 x Q) :
   Calls Tryz.prog 60 #[.int .i64 x] w <| Rt w fun v Qr => ∃ (r0 : Bool), v = .bool r0 /\ Qr = [] /\ Q r0 := by
 refine Jk <| Jh (vs := [nI x]) [2] XF60 rfl rfl rfl rfl ?_; have hS := Jp w; unfold Jb4 at hv; refine Jc 9 <| W.block ?_; obtain ⟨I14, μ15, hv, hk21⟩ := hv; refine Jz (σ := Int) (fun z13 w1 => I14 z13 /\ St TT w none w1 []) (fun z13 => [(0, nI x), (2, .bool false), (3, nI z13)]) (fun z13 => μ15 z13) (2 : Int) ⟨hv, hS⟩ ⟨rfl, rfl, rfl, trivial⟩ ?_; rintro z13 w16 ⟨hv, hS⟩; have hv := hk21 z13 hv; refine Jc 7 <| Jf rfl (fun c17 => ?_) (fun c17 => ?_)
 .have hv := hv.1 (oT c17); refine Ji <| Js <| W.block <| Jc 4 ?_; obtain ⟨o18, hv⟩ := hv; refine Qa (r := (x.tmod z13)) rfl rfl o18 rfl rfl <| Jb 2 <| Jf rfl (fun c19 => ?_) (fun c19 => ?_)
  .have hv := hv.1 (oT c19); refine Jc 4 <| W.ret <| ⟨_, rfl, Fin.nil ?_⟩
   exact (hS.pick [] rfl).fin rfl ⟨false, rfl, rfl, hv⟩
  have hv := hv.2 (oF c19); refine Ji <| Jc 2 ?_; obtain ⟨o20, hv⟩ := hv; refine WL.add (r := (z13 + 1)) rfl rfl (wr o20) rfl <| Jb 2 ?_; exact ⟨(z13 + 1), sp rfl, hv.2, rfl, hv.1, hS⟩
 have hv := hv.2 (oF c17); refine Ju <| Jc 4 <| W.ret <| ⟨_, rfl, Fin.nil ?_⟩
 exact (hS.pick [] rfl).fin rfl ⟨true, rfl, rfl, hv⟩
def Zb (x : Int) (p : Int) (n : Int) (Q : LI -> Prop) : Prop :=
  (0 <= n /\ n * 8 <= 281474976710656 /\ n <= 281474976710656) /\ (∃ (I24 : LI -> Int -> Int -> Prop) (μ25 : LI -> Int -> Int -> Nat), I24 (List.replicate n.toNat (0 : Int)) x (0 : Int) /\ ∀ (x21 : LI) (z22 : Int) (z23 : Int), (I24 x21 z22 z23 -> (((z23 < n) -> ((p ≠ 0) /\ ((0 <= z23 /\ z23 < (n.toNat : Nat)) /\ ((p ≠ 0 /\ I64 (z22.tdiv p)) /\ ((I64 (z23 + 1)) /\ (I24 (si x21 z23 (z22.tmod p)) (z22.tdiv p) (z23 + 1) /\ μ25 (si x21 z23 (z22.tmod p)) (z22.tdiv p) (z23 + 1) < μ25 x21 z22 z23)))))) /\ (¬ (z23 < n) -> Q x21))))
theorem Jem {w : World} {Q : LI -> Prop} {x : Int} {p : Int} {n : Int}  (hv : Zb x p n Q) :
  Calls Tryz.prog 92 #[.int .i64 x, .int .i64 p, .int .i64 n] w <| Rt w fun v Qr => ∃ (x : LI)  (A : Option Addr) (c : Nat), v = .slice A x.length c /\ Qr = [.row 3 1 A x.length c (is x)] /\ Q x := by
 refine Jk <| Jh (vs := [nI x, nI p, nI n]) [6] XF92 rfl rfl rfl rfl ?_; have hS := Jp w; unfold Zb at hv; refine Jc 7 ?_; obtain ⟨o11, hv⟩ := hv; refine Qj (J := n) hS Jo XE3 rfl rfl o11 (Qz _) rfl ?_; intro A12 w13 hS; refine Jb 2 <| Jc 5 <| W.block ?_; obtain ⟨I24, μ25, hv, hk33⟩ := hv; refine Jz (σ := LI × Int × Int) (fun q w1 => match q with | (x21, z22, z23) => I24 x21 z22 z23 /\ St TT w none w1 [.row 3 1 A12 n.toNat n.toNat (is x21)]) (fun (x21, z22, z23) => [(0, nI z22), (1, nI p), (2, nI n), (6, .slice none 0 0), (7, .slice A12 n.toNat n.toNat), (8, nI z23)]) (fun (x21, z22, z23) => μ25 x21 z22 z23) (List.replicate n.toNat (0 : Int), x, (0 : Int)) ⟨hv, hS⟩ ⟨rfl, rfl, rfl, rfl, rfl, rfl, trivial⟩ ?_; rintro ⟨x21, z22, z23⟩ w26 ⟨hv, hS⟩; have hv := hk33 x21 z22 z23 hv; refine Jc 7 <| Jf rfl (fun c27 => ?_) (fun c27 => ?_)
 .have hv := hv.1 (oT c27); refine Ji <| Js <| W.block <| Jc 6 ?_; obtain ⟨o28, hv⟩ := hv; refine Qa (r := (z22.tmod p)) rfl rfl o28 rfl rfl ?_; obtain ⟨o29, hv⟩ := hv; refine Jg Jo XE3 (hS.rd (i := 0) rfl) rfl rfl o29 rfl <| JB (cs' := is (si x21 z23 (z22.tmod p))) 0 z23.toNat hS rfl XE3 rfl rfl rfl (Qu (hS.rd (i := 0) rfl) o29) (J9 _ _ _) ?_; intro w30 hS; refine Ja <| Jc 3 ?_; obtain ⟨o31, hv⟩ := hv; refine Jm1 (r := (z22.tdiv p)) rfl rfl o31.1 (wr o31.2) rfl <| Jb 2 <| Jc 2 ?_; obtain ⟨o32, hv⟩ := hv; refine WL.add (r := (z23 + 1)) rfl rfl (wr o32) rfl <| Jb 2 ?_; exact ⟨(si x21 z23 (z22.tmod p), (z22.tdiv p), (z23 + 1)), sp rfl, hv.2, rfl, hv.1, hS⟩
 have hv := hv.2 (oF c27); refine Ju <| Jc 5 <| W.ret ?_; have hm := (hS.rd (i := 0) rfl).ilen; have hS := hS.relen (i := 0) rfl hm.symm; refine ⟨_, rfl, Fin.nil ?_⟩; exact ⟨_, hS.ext, (hS.pick [0] rfl).rows, Qb (hS.pick [0] rfl).rows rfl, ⟨x21, A12, n.toNat, (by rw [hm]), rfl, hv⟩⟩
end Go.Proofs.YtjgpkljepgcekaaGreat
namespace Go.Proofs.YtjgpkljepgcekaaGreat
open Go.RowKit
/-! ### the iterators of the program -/
theorem Jhx {w : World} {p : Addr} {A : Option Addr} {m c : Nat} (hm : m <= 9223372036854775807) :
    SeqJ Tryz.prog 144 #[.pointer (some p)] (fun w1 => w1.cell? p = some (.slice A m c) /\ ∃ l : LI, ∃ B, Rd B w1 1 A m c (is l)) (fun i x w1 => ∃ v : Int, x = #[.int .i64 ((m - 1 - i : Nat) : Int), .int .i64 v] /\ w1.cell? ((JI A).add (m - 1 - i)) = some (.int .i64 v)) m w := by
  intro l J Jx Wn hW hJ hJx hM hY h0
  refine Jh (vs := [.func (.yield l) #[] #[], .pointer (some p)]) (R := fun _ w' => J m w' ∨ ∃ i, i <= m /\ Jx i w') [] Tryz.func144 rfl rfl rfl rfl ?_
  have hM0 := hM 0 Wn h0
  refine Js ?_
  refine Jt ?_
  refine Jj Tryz.underlying22 rfl rfl hM0.1 rfl ?_
  refine WL.len Tryz.underlying22 rfl rfl ?_
  refine WL.sub (r := (m : Int) - 1) rfl rfl (Jqj (by omega) (by omega) rfl) rfl ?_
  refine JT rfl rfl ?_
  refine Ja ?_
  refine W.block ?_
  refine Jz (σ := Nat) (fun i w1 => J i w1 /\ i <= m) (fun i => [(0, .func (.yield l) #[] #[]), (1, .pointer (some p)), (3, .int .i64 ((m : Int) - 1 - i))]) (fun i => m - i) 0 ⟨h0, Nat.zero_le _⟩ ⟨rfl, rfl, iv (by omega), trivial⟩ ?_
  rintro i w1 ⟨hi, hle⟩
  obtain ⟨hMp, xs, Bx, hR⟩ := hM i w1 hi
  refine Js ?_
  refine Js ?_
  refine Jt ?_
  refine Jl rfl rfl ?_
  refine Jp9 rfl rfl rfl ?_
  refine Ja ?_
  refine Jf rfl (fun c => ?_) (fun c => ?_)
  . have c := of_decide_eq_true c
    have hj : (m : Int) - 1 - i = ((m - 1 - i : Nat) : Int) := by omega
    rw [hj]
    refine Ji ?_
    refine Js ?_
    refine W.block ?_
    refine Js ?_
    refine Jt ?_
    refine Jl rfl rfl ?_
    refine Jl rfl rfl ?_
    refine Jj Tryz.underlying22 rfl rfl hMp rfl ?_
    refine Jl rfl rfl ?_
    refine Jai (m - 1 - i) Tryz.underlying22 Zj rfl rfl rfl (by omega) hR rfl ?_
    have hcell := hR.at_ (Jpi (show m - 1 - i < xs.length by have := hR.ilen; omega))
    refine Jj Tryz.underlying3 rfl rfl hcell rfl ?_
    refine Jkk (vs := [.int .i64 ((m - 1 - i : Nat) : Int), .int .i64 (xs.getD (m - 1 - i) 0)]) rfl rfl rfl (hY i #[.int .i64 ((m - 1 - i : Nat) : Int), .int .i64 (xs.getD (m - 1 - i) 0)] w1 hi (by omega) ⟨_, rfl, hcell⟩) (fun e w' h => by rcases h with ⟨h, _⟩ | ⟨h, _⟩ <;> exact ⟨_, h⟩) ?_
    rintro v w2 (⟨hv, h⟩ | ⟨hv, h⟩)
    . cases hv
      refine Jc3 rfl rfl ?_
      refine Ja ?_
      refine QA rfl ?_
      refine Ji ?_
      refine Jt ?_
      refine Jl rfl rfl ?_
      refine WL.sub (r := (m : Int) - 1 - ((i + 1 : Nat) : Int)) rfl rfl (Jqj (by omega) (by omega) (by omega)) rfl ?_
      refine JT rfl rfl ?_
      refine Ja ?_
      exact ⟨i + 1, ⟨rfl, rfl, rfl, trivial⟩, by omega, rfl, h, by omega⟩
    . cases hv
      refine Jc3 rfl rfl ?_
      refine Ja ?_
      refine JX rfl ?_
      refine W.ret ?_
      exact ⟨_, rfl, Fin.nil (.inr ⟨i + 1, by omega, h⟩)⟩
  . have c := of_decide_eq_false c
    refine Ju ?_
    have : i = m := by omega
    subst this
    exact ⟨_, rfl, Fin.nil (.inl hi)⟩
theorem Jhr {w : World} {p ad : Addr} {q : Int} (hq : I64 q) (hp : w.cell? p = some (.pointer (some ad))) (ha : w.cell? (ad.add 3) = some (.int .i64 q)) :
  SeqJ Tryz.prog 137 #[.pointer (some p)] (fun _ => True) (fun i x _ => x = #[.int .i64 (i : Int)]) q.toNat w := by
 intro l J Jx Wn hW hJ hJx _ hY h0; have hp' : Wn.cell? p = some (.pointer (some ad)) := (hW.cell (World.block_lt_of_cell? w _ hp)).trans hp; have ha' : Wn.cell? (ad.add 3) = some (.int .i64 q) := (hW.cell (World.block_lt_of_cell? w _ ha)).trans ha; refine Jh (vs := [.func (.yield l) #[] #[], .pointer (some p)]) (R := fun _ w' => J q.toNat w' ∨ ∃ i, i <= q.toNat /\ Jx i w') [] Tryz.func137 rfl rfl rfl rfl ?_; refine Js ?_; refine Jt ?_; refine Jj Tryz.underlying85 rfl rfl hp' rfl ?_; refine QK rfl rfl ?_; refine Je (off := 3) Ja4 rfl rfl ?_; refine Jj Tryz.underlying3 rfl rfl ha' rfl ?_; refine Jl rfl rfl ?_; refine Ja ?_; refine W.block ?_; refine Jz (σ := Nat) (fun i w1 => J i w1 /\ i <= q.toNat) (fun i => [(0, .func (.yield l) #[] #[]), (7, .int .i64 q), (8, .int .i64 (i : Int))]) (fun i => q.toNat - i) 0 ⟨h0, Nat.zero_le _⟩ ⟨rfl, rfl, rfl, trivial⟩ ?_; rintro i w1 ⟨hi, hle⟩; refine Js ?_; refine Jt ?_; refine Qw rfl rfl rfl ?_; refine Ja ?_; refine Js ?_; refine Jf rfl (fun c => ?_) (fun c => ?_)
 .have c := of_decide_eq_true c; refine Ji ?_; refine Js ?_; refine W.block ?_; refine Js ?_; refine Jt ?_; refine Jl rfl rfl ?_; refine JT rfl rfl ?_; refine Ja ?_; refine Js ?_; refine Jt ?_; refine Jl rfl rfl ?_; refine Jl rfl rfl ?_; refine Jkk (vs := [.int .i64 (i : Int)]) rfl rfl rfl (hY i #[.int .i64 (i : Int)] w1 hi (by omega) rfl) (fun e w' h => by rcases h with ⟨h, _⟩ | ⟨h, _⟩ <;> exact ⟨_, h⟩) ?_; rintro v w2 (⟨hv, h⟩ | ⟨hv, h⟩)
  .cases hv; refine Jc3 rfl rfl ?_; refine Ja ?_; refine QA rfl ?_; refine Ji ?_; refine Jt ?_; refine WL.add (r := ((i + 1 : Nat) : Int)) rfl rfl (Jqj (by omega) (by have := hq.2; omega) (by omega)) rfl ?_; refine Jl rfl rfl ?_; refine Ja ?_; exact ⟨i + 1, ⟨rfl, rfl, rfl, trivial⟩, by omega, rfl, h, by omega⟩
  .cases hv; refine Jc3 rfl rfl ?_; refine Ja ?_; refine JX rfl ?_; refine W.ret ?_; exact ⟨_, rfl, Fin.nil (.inr ⟨i + 1, by omega, h⟩)⟩
 .have c := of_decide_eq_false c; refine Ju ?_; have : i = q.toNat := by omega
  subst this; exact ⟨_, rfl, Fin.nil (.inl hi)⟩
end Go.Proofs.YtjgpkljepgcekaaGreat
namespace Go.Proofs.YtjgpkljepgcekaaGreat
open Go.RowKit
/-! ### a field in memory -/
structure GFv where
  P : Int
  M : Int
  mod : LI
  q : Int
  exp : LI
  log : LI
  above : LI
def GFR (B : Nat) (w : World) (ad : Addr) (F : GFv) : Prop := ∃ A1 k1 A2 k2 A3 k3 A4 k4,
  Rd B w 7 (some ad) 1 1 [.int .i64 F.P, .int .i64 F.M, .slice A1 F.mod.length k1, .int .i64 F.q, .slice A2 F.exp.length k2, .slice A3 F.log.length k3, .slice A4 F.above.length k4] /\
  Rd B w 1 A1 F.mod.length k1 (is F.mod) /\ Rd B w 1 A2 F.exp.length k2 (is F.exp) /\ Rd B w 1 A3 F.log.length k3 (is F.log) /\ Rd B w 1 A4 F.above.length k4 (is F.above)
theorem GFR.ext {B : Nat} {w w' : World} {ad : Addr} {F : GFv} (h : GFR B w ad F) (hg : w.grownBy w' none) : GFR B w' ad F := by
 obtain ⟨A1, k1, A2, k2, A3, k3, A4, k4, h1, h2, h3, h4, h5⟩ := h; exact ⟨A1, k1, A2, k2, A3, k3, A4, k4, h1.ext hg, h2.ext hg, h3.ext hg, h4.ext hg, h5.ext hg⟩
/-- A field that lies between two blocks. -/
def GFX (lo B : Nat) (w : World) (ad : Addr) (F : GFv) : Prop := ∃ A1 k1 A2 k2 A3 k3 A4 k4,
  (Rd B w 7 (some ad) 1 1 [.int .i64 F.P, .int .i64 F.M, .slice A1 F.mod.length k1, .int .i64 F.q, .slice A2 F.exp.length k2, .slice A3 F.log.length k3, .slice A4 F.above.length k4] /\ lo <= ad.block) /\
  (Rd B w 1 A1 F.mod.length k1 (is F.mod) /\ ∀ g, bl A1 = some g -> lo <= g) /\ (Rd B w 1 A2 F.exp.length k2 (is F.exp) /\ ∀ g, bl A2 = some g -> lo <= g) /\ (Rd B w 1 A3 F.log.length k3 (is F.log) /\ ∀ g, bl A3 = some g -> lo <= g) /\ (Rd B w 1 A4 F.above.length k4 (is F.above) /\ ∀ g, bl A4 = some g -> lo <= g)
theorem GFX.gfr {lo B : Nat} {w : World} {ad : Addr} {F : GFv} (h : GFX lo B w ad F) : GFR B w ad F := by
 obtain ⟨A1, k1, A2, k2, A3, k3, A4, k4, h1, h2, h3, h4, h5⟩ := h; exact ⟨A1, k1, A2, k2, A3, k3, A4, k4, h1.1, h2.1, h3.1, h4.1, h5.1⟩
theorem Rd.steady {lo B : Nat} {w w' : World} {z : Nat} {A : Option Addr} {m c : Nat} {cs : List Value} (h : Rd B w z A m c cs) (hl : ∀ g, bl A = some g -> lo <= g) (hw : ∀ k, lo <= k -> k < B -> w'.heap[k]? = w.heap[k]?) : Rd B w' z A m c cs :=
 ⟨h.len, h.cap, h.max, fun hm => by
  obtain ⟨ad, e1, e2, e3⟩ := h.cells hm; refine ⟨ad, e1, e2, fun j u hu => (World.cell?_of_block (hw _ ?_ ?_)).trans (e3 j u hu)⟩
  .rw [QQ]; exact hl _ (by rw [e1]; rfl)
  .rw [QQ]; exact e2⟩
theorem GFX.steady {lo B : Nat} {ad : Addr} {F : GFv} : Jxk lo B (fun w => GFX lo B w ad F) := by
 rintro w w' hw ⟨A1, k1, A2, k2, A3, k3, A4, k4, h1, h2, h3, h4, h5⟩; exact ⟨A1, k1, A2, k2, A3, k3, A4, k4, ⟨h1.1.steady (fun g hg => by cases hg; exact h1.2) hw, h1.2⟩, ⟨h2.1.steady h2.2 hw, h2.2⟩, ⟨h3.1.steady h3.2 hw, h3.2⟩, ⟨h4.1.steady h4.2 hw, h4.2⟩, ⟨h5.1.steady h5.2 hw, h5.2⟩⟩
theorem gfx_mk {lo B : Nat} {w : World} {ad : Addr} {F : GFv} {A1 A2 A3 A4 : Option Addr} {k1 k2 k3 k4 n1 n2 n3 n4 : Nat}
  (h : Rd B w 7 (some ad) 1 1 [.int .i64 F.P, .int .i64 F.M, .slice A1 n1 k1, .int .i64 F.q, .slice A2 n2 k2, .slice A3 n3 k3, .slice A4 n4 k4]) (hl : lo <= ad.block)
  (h1 : Rd B w 1 A1 n1 k1 (is F.mod) /\ ∀ g, bl A1 = some g -> lo <= g) (h2 : Rd B w 1 A2 n2 k2 (is F.exp) /\ ∀ g, bl A2 = some g -> lo <= g) (h3 : Rd B w 1 A3 n3 k3 (is F.log) /\ ∀ g, bl A3 = some g -> lo <= g) (h4 : Rd B w 1 A4 n4 k4 (is F.above) /\ ∀ g, bl A4 = some g -> lo <= g) : GFX lo B w ad F := by
 have e1 := h1.1.ilen; have e2 := h2.1.ilen; have e3 := h3.1.ilen; have e4 := h4.1.ilen; subst e1; subst e2; subst e3; subst e4; exact ⟨A1, k1, A2, k2, A3, k3, A4, k4, ⟨h, hl⟩, h1, h2, h3, h4⟩
theorem St.base {X : World -> Prop} {w0 w : World} {R : List Rw} {i e z m c : Nat} {A : Option Addr} {cs : List Value} (h : St X w0 none w R) (hi : R[i]? = some (.row e z A m c cs)) : ∀ g, bl A = some g -> w0.heap.size <= g := fun g hg => ((h.rows.get hi).2 g hg).resolve_right (by simp)
theorem GFR.norm {B : Nat} {w : World} {ad : Addr} {F : GFv} (h : GFR B w ad F) : GFR w.heap.size w ad F := by
 obtain ⟨A1, k1, A2, k2, A3, k3, A4, k4, h1, h2, h3, h4, h5⟩ := h; exact ⟨A1, k1, A2, k2, A3, k3, A4, k4, h1.norm, h2.norm, h3.norm, h4.norm, h5.norm⟩
end Go.Proofs.YtjgpkljepgcekaaGreat
namespace Go.Proofs.YtjgpkljepgcekaaGreat
open Go.RowKit
def Jfe (x : Int) (Pf : Int) (Mf : Int) (mf : LI) (Q : Bool -> Prop) : Prop :=
  ((x < 0) -> Q true) /\ (¬ (x < 0) -> (Q (decide (Pf <= x))))
theorem Jq6 {w : World} {Q : Bool -> Prop} {x : Int} {Pf : Int} {Mf : Int} {mf : LI} {af : Addr} {Bf Cf : Nat} {Af : Option Addr} {nf kf : Nat} (hcf : Rd Cf w 3 (some af) 1 1 [.int .i64 Pf, .int .i64 Mf, .slice Af nf kf]) (hmf : Rd Bf w 1 Af nf kf (is mf)) (hv : Jfe x Pf Mf mf Q) :
   Calls Tryz.prog 55 #[.int .i64 x, .pointer (some af)] w <| Rt w fun v Qr => ∃ (r0 : Bool), v = .bool r0 /\ Qr = [] /\ Q r0 := by
 have hnf := hmf.ilen; subst hnf; refine Jk <| Jh (vs := [nI x, .pointer (some af)]) [3] XF55 rfl rfl rfl rfl ?_; have hS := Jp w; unfold Jfe at hv; refine Jc 8 <| Jl rfl rfl ?_; by_cases g11 : x < 0
 .have hv := hv.1 g11; rw [decide_eq_true g11]; refine Jb 7 <| W.ret <| ⟨_, rfl, Fin.nil ?_⟩
  exact (hS.pick [] rfl).fin rfl ⟨true, rfl, rfl, hv⟩
 have hv := hv.2 g11; rw [decide_eq_false g11]; refine Jb 3 <| Je (off := 0) J2 rfl rfl <| WL.take rfl <| Jj XU3 rfl rfl (Rd.at_ (hS.ro hcf) (j := 0) rfl) rfl <| Jb 5 <| W.ret <| ⟨_, rfl, Fin.nil ?_⟩
 exact (hS.pick [] rfl).fin rfl ⟨(decide (Pf <= x)), rfl, rfl, hv⟩
def Jbf (x : Int) (Q : Bool -> Prop) : Prop :=
  Q (decide (x ≠ 0))
theorem Jjf {w : World} {Q : Bool -> Prop} {x : Int}  (hv : Jbf x Q) :
  Calls Tryz.prog 114 #[.int .i64 x] w <| Rt w fun v Qr => ∃ (r0 : Bool), v = .bool r0 /\ Qr = [] /\ Q r0 := by
 refine Jk <| Jh (vs := [nI x]) [2] XF114 rfl rfl rfl rfl ?_; have hS := Jp w; unfold Jbf at hv; refine Jc 10 <| W.ret <| ⟨_, rfl, Fin.nil ?_⟩
 exact (hS.pick [] rfl).fin rfl ⟨(decide (x ≠ 0)), rfl, rfl, hv⟩
def YA (l : LI) (p : Int -> (Bool -> Prop) -> Prop) (Q : Int -> Prop) : Prop :=
  ∃ (I14 : Int -> Prop) (μ15 : Int -> Nat), I14 0 /\ ∀ (z13 : Int), (I14 z13 -> (((z13 < (l.length : Int)) -> ((0 <= z13 /\ z13 < (l.length : Nat)) /\ (p (gi l z13) (fun b20 => ((b20 = true) -> Q z13) /\ (b20 = false -> ((I64 (z13 + 1)) /\ (I14 (z13 + 1) /\ μ15 (z13 + 1) < μ15 z13))))))) /\ (¬ (z13 < (l.length : Int)) -> (Q (-1 : Int)))))
theorem Jeo {w : World} {Q : Int -> Prop} {l : LI} {p : Int -> (Bool -> Prop) -> Prop} {Bl : Nat} {Al : Option Addr} {nl kl : Nat} (hl : Rd Bl w 1 Al nl kl (is l)) {cfp : Nat} {cgp : Func} {ccp : Code} {csp : List Value} (hcfp : Tryz.prog.funcs[cfp]? = some cgp) (hcbp : cgp.body = some ccp) (hcnp : (cgp.name == "runtime.NumGoroutine") = false) (hclp : ∀ (wc : World) (xc : Int) (Qc : Bool -> Prop), w.grownBy wc none -> p xc Qc -> Calls Tryz.prog cfp (.int .i64 xc :: csp).toArray wc fun e w' => ∃ v Qr, e = .returned v /\ wc.grownBy w' none /\ Rows wc.heap.size none w' Qr /\ News wc.heap.size Qr /\ ∃ b : Bool, v = .bool b /\ Qr = [] /\ Qc b) (hv : YA l p Q) :
   Calls Tryz.prog 88 #[.slice Al nl kl, .func (.func cfp) #[] csp.toArray] w <| Rt w fun v Qr => ∃ (r0 : Int), v = .int .i64 r0 /\ Qr = [] /\ Q r0 := by
 have hnl := hl.ilen; subst hnl; refine Jk <| Jh (vs := [nS Al l kl, .func (.func cfp) #[] csp.toArray]) [4] XF88 rfl rfl rfl rfl ?_; have hS := Jp w; unfold YA at hv; refine Jc 8 <| WL.len Jo rfl rfl <| Jb 2 <| W.block ?_; obtain ⟨I14, μ15, hv, hk23⟩ := hv; refine Jz (σ := Int) (fun z13 w1 => I14 z13 /\ St TT w none w1 []) (fun z13 => [(0, nS Al l kl), (1, .func (.func cfp) #[] csp.toArray), (4, nI 0), (7, nI (l.length : Int)), (8, nI z13)]) (fun z13 => μ15 z13) (0 : Int) ⟨hv, hS⟩ ⟨rfl, rfl, rfl, rfl, rfl, trivial⟩ ?_; rintro z13 w16 ⟨hv, hS⟩; have hv := hk23 z13 hv; refine Jc 5 <| Jf rfl (fun c17 => ?_) (fun c17 => ?_)
 .have hv := hv.1 (oT c17); refine Ji <| Js <| W.block <| Jc 10 ?_; obtain ⟨o18, hv⟩ := hv; refine Jg Jo XE3 (hS.ro hl) rfl rfl o18 rfl <| Jj XU3 rfl rfl (JG (hS.ro hl) o18) rfl <| Jxq (vs := [nI (gi l z13)]) (cs := csp) hS (hclp _ _ _ hS.ext hv) rfl hcfp hcbp hcnp rfl rfl ?_; rintro _ _ w19 ⟨b20, rfl, rfl, hv⟩ hGw19 hS
  change St _ _ _ _ [] at hS
  refine Ja <| Jf rfl (fun c21 => ?_) (fun c21 => ?_)
  .have hv := hv.1 (c21); refine Jc 5 <| W.ret <| ⟨_, rfl, Fin.nil ?_⟩
   exact (hS.pick [] rfl).fin rfl ⟨z13, rfl, rfl, hv⟩
  have hv := hv.2 (c21); refine Ji <| Jt ?_; obtain ⟨o22, hv⟩ := hv; refine WL.add (r := (z13 + 1)) rfl rfl (wr o22) rfl <| Jb 2 ?_; exact ⟨(z13 + 1), sp rfl, hv.2, rfl, hv.1, hS⟩
 have hv := hv.2 (oF c17); refine Ju <| Jc 4 <| W.ret <| ⟨_, rfl, Fin.nil ?_⟩
 exact (hS.pick [] rfl).fin rfl ⟨(-1 : Int), rfl, rfl, hv⟩
def Q3 (l : LI) (p : Int -> (Bool -> Prop) -> Prop) (Q : Bool -> Prop) : Prop :=
  YA l p (fun r12 => Q (decide ((0 : Int) <= r12)))
theorem ZN {w : World} {Q : Bool -> Prop} {l : LI} {p : Int -> (Bool -> Prop) -> Prop} {Bl : Nat} {Al : Option Addr} {nl kl : Nat} (hl : Rd Bl w 1 Al nl kl (is l)) {cfp : Nat} {cgp : Func} {ccp : Code} {csp : List Value} (hcfp : Tryz.prog.funcs[cfp]? = some cgp) (hcbp : cgp.body = some ccp) (hcnp : (cgp.name == "runtime.NumGoroutine") = false) (hclp : ∀ (wc : World) (xc : Int) (Qc : Bool -> Prop), w.grownBy wc none -> p xc Qc -> Calls Tryz.prog cfp (.int .i64 xc :: csp).toArray wc fun e w' => ∃ v Qr, e = .returned v /\ wc.grownBy w' none /\ Rows wc.heap.size none w' Qr /\ News wc.heap.size Qr /\ ∃ b : Bool, v = .bool b /\ Qr = [] /\ Qc b) (hv : Q3 l p Q) :
  Calls Tryz.prog 54 #[.slice Al nl kl, .func (.func cfp) #[] csp.toArray] w <| Rt w fun v Qr => ∃ (r0 : Bool), v = .bool r0 /\ Qr = [] /\ Q r0 := by
 have hnl := hl.ilen; subst hnl; refine Jk <| Jh (vs := [nS Al l kl, .func (.func cfp) #[] csp.toArray]) [4] XF54 rfl rfl rfl rfl ?_; have hS := Jp w; unfold Q3 at hv; refine Jc 8 <| SL.call hS (Jeo (hS.ro hl) hcfp hcbp hcnp (fun wc xc Qc hg hv => hclp wc xc Qc (Jcw hS.ext hg) hv) hv) XF88 rfl XN88 rfl rfl ?_; rintro _ _ w11 ⟨r12, rfl, rfl, hv⟩ hGw11 hS; have hS := hS.n0; refine Jb 3 <| W.ret <| ⟨_, rfl, Fin.nil ?_⟩
 exact (hS.pick [] rfl).fin rfl ⟨(decide ((0 : Int) <= r12)), rfl, rfl, hv⟩
def Zg (p : Int) (l : LI) (o : LI) (Q : Bool -> Prop) : Prop :=
  Yo o (fun x12 => (I64 ((x12.length : Int) - (1 : Int))) /\ (∃ (I23 : LI -> Int -> Prop) (μ24 : LI -> Int -> Nat), I23 x12 ((x12.length : Int) - (1 : Int)) /\ ∀ (x21 : LI) (z22 : Int), (I23 x21 z22 -> ((((l.length : Int) <= z22) -> (∃ (I33 : LI -> Int -> Prop) (μ34 : LI -> Int -> Nat), I33 x21 (0 : Int) /\ ∀ (x31 : LI) (z32 : Int), (I33 x31 z32 -> (((z32 < (l.length : Int)) -> ((0 <= z32 /\ z32 < (l.length : Nat)) /\ ((I64 (z22 - (l.length : Int))) /\ ((I64 ((z22 - (l.length : Int)) + z32)) /\ ((0 <= ((z22 - (l.length : Int)) + z32) /\ ((z22 - (l.length : Int)) + z32) < (x12.length : Nat)) /\ ((I64 (p - (gi l z32))) /\ ((0 <= z22 /\ z22 < (x12.length : Nat)) /\ ((I64 ((p - (gi l z32)) * (gi x31 z22))) /\ ((I64 ((gi x31 ((z22 - (l.length : Int)) + z32)) + ((p - (gi l z32)) * (gi x31 z22)))) /\ ((p ≠ 0) /\ ((0 <= ((z22 - (l.length : Int)) + z32) /\ ((z22 - (l.length : Int)) + z32) < (x12.length : Nat)) /\ ((I64 (z32 + 1)) /\ (I33 (si x31 ((z22 - (l.length : Int)) + z32) (((gi x31 ((z22 - (l.length : Int)) + z32)) + ((p - (gi l z32)) * (gi x31 z22))).tmod p)) (z32 + 1) /\ μ34 (si x31 ((z22 - (l.length : Int)) + z32) (((gi x31 ((z22 - (l.length : Int)) + z32)) + ((p - (gi l z32)) * (gi x31 z22))).tmod p)) (z32 + 1) < μ34 x31 z32))))))))))))) /\ (¬ (z32 < (l.length : Int)) -> ((I64 (z22 - 1)) /\ (I23 x31 (z22 - 1) /\ μ24 x31 (z22 - 1) < μ24 x21 z22))))))) /\ (¬ ((l.length : Int) <= z22) -> ((0 <= (l.length : Int) /\ (l.length : Int) <= (x12.length : Nat)) /\ (Q3 (x21.take (l.length : Int).toNat) (fun xc Qc => Jbf xc  Qc) (fun r71 => Q (!r71)))))))))
theorem Jlv {w : World} {Q : Bool -> Prop} {p : Int} {l : LI} {o : LI} {Bl : Nat} {Al : Option Addr} {nl kl : Nat} (hl : Rd Bl w 1 Al nl kl (is l)) {Bo : Nat} {Ao : Option Addr} {no ko : Nat} (ho : Rd Bo w 1 Ao no ko (is o)) (hv : Zg p l o Q) :
   Calls Tryz.prog 89 #[.int .i64 p, .slice Al nl kl, .slice Ao no ko] w <| Rt w fun v Qr => ∃ (r0 : Bool), v = .bool r0 /\ Qr = [] /\ Q r0 := by
 have hnl := hl.ilen; subst hnl; have hno := ho.ilen; subst hno; refine Jk <| Jh (vs := [nI p, nS Al l kl, nS Ao o ko]) [6] XF89 rfl rfl rfl rfl ?_; have hS := Jp w; unfold Zg at hv; refine Jc 7 <| SL.call hS (YE (hS.ro ho) hv) Jkj rfl Jm0 rfl rfl ?_; rintro _ _ w11 ⟨x12, A13, k14, rfl, rfl, hv⟩ hGw11 hS; have hS := hS.n1; refine Jb 2 <| Jc 4 <| WL.len Jo rfl rfl ?_; obtain ⟨o16, hv⟩ := hv; refine WL.sub (r := ((x12.length : Int) - (1 : Int))) rfl rfl (wr o16) rfl <| Jb 2 <| W.block ?_; obtain ⟨I23, μ24, hv, hk72⟩ := hv; refine Jz (σ := LI × Int) (fun q w1 => match q with | (x21, z22) => I23 x21 z22 /\ St TT w none w1 [.row 3 1 A13 x12.length k14 (is x21)]) (fun (x21, z22) => [(0, nI p), (1, nS Al l kl), (6, .bool false), (7, nS A13 x12 k14), (8, nI z22)]) (fun (x21, z22) => μ24 x21 z22) (x12, ((x12.length : Int) - (1 : Int))) ⟨hv, hS⟩ ⟨rfl, rfl, rfl, rfl, rfl, trivial⟩ ?_; rintro ⟨x21, z22⟩ w25 ⟨hv, hS⟩; have hv := hk72 x21 z22 hv; refine Jc 5 <| WL.len Jo rfl rfl <| Jb 2 <| Jf rfl (fun c26 => ?_) (fun c26 => ?_)
 .have hv := hv.1 (oT c26); refine Ji <| Js <| W.block <| Jc 3 <| WL.len Jo rfl rfl <| Jb 2 <| W.block ?_; obtain ⟨I33, μ34, hv, hk68⟩ := hv; refine Jz (σ := LI × Int) (fun q w1 => match q with | (x31, z32) => I33 x31 z32 /\ St TT w none w1 [.row 3 1 A13 x12.length k14 (is x31)]) (fun (x31, z32) => [(0, nI p), (1, nS Al l kl), (6, .bool false), (7, nS A13 x12 k14), (8, nI z22), (20, .bool (decide ((l.length : Int) <= z22))), (23, nS Al l kl), (24, nI (l.length : Int)), (25, nI z32)]) (fun (x31, z32) => μ34 x31 z32) (x21, (0 : Int)) ⟨hv, hS⟩ ⟨rfl, rfl, rfl, rfl, rfl, rfl, rfl, rfl, rfl, trivial⟩ ?_; rintro ⟨x31, z32⟩ w35 ⟨hv, hS⟩; have hv := hk68 x31 z32 hv; refine Jc 5 <| Jf rfl (fun c36 => ?_) (fun c36 => ?_)
  .have hv := hv.1 (oT c36); refine Ji <| Js <| W.block <| Jc 3 ?_; obtain ⟨o37, hv⟩ := hv; refine Jg Jo XE3 (hS.ro hl) rfl rfl o37 rfl <| Jj XU3 rfl rfl (JG (hS.ro hl) o37) rfl <| Jb 3 <| Jc 4 <| WL.len Jo rfl rfl ?_; obtain ⟨o38, hv⟩ := hv; refine WL.sub (r := (z22 - (l.length : Int))) rfl rfl (wr o38) rfl <| Jl rfl rfl ?_; obtain ⟨o39, hv⟩ := hv; refine WL.add (r := ((z22 - (l.length : Int)) + z32)) rfl rfl (wr o39) rfl <| Jb 2 ?_; obtain ⟨o45, hv⟩ := hv; obtain ⟨o50, hv⟩ := hv; obtain ⟨o54, hv⟩ := hv; obtain ⟨o57, hv⟩ := hv; obtain ⟨o59, hv⟩ := hv; obtain ⟨o62, hv⟩ := hv; refine JN 17 [⟨[], [7], true⟩, ⟨[], [11], true⟩, ⟨[], [7], true⟩, ⟨[], [11], true⟩, ⟨[2, 3], [], true⟩, ⟨[4], [], false⟩, ⟨[], [0], true⟩, ⟨[], [10], true⟩, ⟨[6, 7], [], true⟩, ⟨[], [7], true⟩, ⟨[], [8], true⟩, ⟨[9, 10], [], true⟩, ⟨[11], [], false⟩, ⟨[8, 12], [], true⟩, ⟨[5, 13], [], true⟩, ⟨[], [0], true⟩, ⟨[14, 15], [], true⟩] [(36, nS A13 x12 k14), (37, nI ((z22 - (l.length : Int)) + z32)), (38, nS A13 x12 k14), (39, nI ((z22 - (l.length : Int)) + z32)), (40, .pointer (some ((JI A13).add (((z22 - (l.length : Int)) + z32).toNat)))), (41, nI (gi x31 ((z22 - (l.length : Int)) + z32))), (42, nI p), (43, nI (gi l z32)), (44, nI (p - (gi l z32))), (45, nS A13 x12 k14), (46, nI z22), (47, .pointer (some ((JI A13).add z22.toNat))), (48, nI (gi x31 z22)), (49, nI ((p - (gi l z32)) * (gi x31 z22))), (50, nI ((gi x31 ((z22 - (l.length : Int)) + z32)) + ((p - (gi l z32)) * (gi x31 z22)))), (51, nI p), (52, nI (((gi x31 ((z22 - (l.length : Int)) + z32)) + ((p - (gi l z32)) * (gi x31 z22))).tmod p))] Jr (by kernel_rfl) rfl rfl ?_ ?_
   .refine ⟨oD, oD, oD, oD, fun _ _ _ => Jg Jo XE3 (hS.rd (i := 0) rfl) rfl rfl o45 rfl <| Ja ⟨rfl, rfl⟩, og hS fun _ _ hS => Jj XU3 rfl rfl (JG (hS.rd (i := 0) rfl) o45) rfl <| Ja ⟨rfl, Jd _⟩, oD, oD, fun _ _ _ => WL.sub (r := (p - (gi l z32))) rfl rfl (wr o50) rfl <| Ja ⟨rfl, rfl⟩, oD, oD, fun _ _ _ => Jg Jo XE3 (hS.rd (i := 0) rfl) rfl rfl o54 rfl <| Ja ⟨rfl, rfl⟩, og hS fun _ _ hS => Jj XU3 rfl rfl (JG (hS.rd (i := 0) rfl) o54) rfl <| Ja ⟨rfl, Jd _⟩, fun _ _ _ => WL.mul (r := ((p - (gi l z32)) * (gi x31 z22))) rfl rfl (wr o57) rfl <| Ja ⟨rfl, rfl⟩, fun _ _ _ => WL.add (r := ((gi x31 ((z22 - (l.length : Int)) + z32)) + ((p - (gi l z32)) * (gi x31 z22)))) rfl rfl (wr o59) rfl <| Ja ⟨rfl, rfl⟩, oD, fun _ _ _ => Qa (r := (((gi x31 ((z22 - (l.length : Int)) + z32)) + ((p - (gi l z32)) * (gi x31 z22))).tmod p)) rfl rfl o62 rfl rfl <| Ja ⟨rfl, rfl⟩, trivial⟩
   intro w63 hT; have hS := hS.grow hT; refine Jn 17 rfl ?_; obtain ⟨o64, hv⟩ := hv; refine Jg Jo XE3 (hS.rd (i := 0) rfl) rfl rfl o64 rfl <| Ja <| Jn 18 rfl <| JB (cs' := is (si x31 ((z22 - (l.length : Int)) + z32) (((gi x31 ((z22 - (l.length : Int)) + z32)) + ((p - (gi l z32)) * (gi x31 z22))).tmod p))) 0 ((z22 - (l.length : Int)) + z32).toNat hS rfl XE3 rfl rfl rfl (Qu (hS.rd (i := 0) rfl) o64) (J9 _ _ _) ?_; intro w65 hS; refine Ja <| JL <| Jt ?_; obtain ⟨o66, hv⟩ := hv; refine WL.add (r := (z32 + 1)) rfl rfl (wr o66) rfl <| Jb 2 ?_; exact ⟨(si x31 ((z22 - (l.length : Int)) + z32) (((gi x31 ((z22 - (l.length : Int)) + z32)) + ((p - (gi l z32)) * (gi x31 z22))).tmod p), (z32 + 1)), sp rfl, hv.2, rfl, hv.1, hS⟩
  have hv := hv.2 (oF c36); refine Ju <| Jc 2 ?_; obtain ⟨o67, hv⟩ := hv; refine WL.sub (r := (z22 - 1)) rfl rfl (wr o67) rfl <| Jb 2 ?_; exact ⟨(x31, (z22 - 1)), sp rfl, hv.2, rfl, hv.1, hS⟩
 have hv := hv.2 (oF c26); refine Ju <| Jc 4 <| WL.len Jo rfl rfl ?_; obtain ⟨o69, hv⟩ := hv; refine ZG Jo XE3 (hS.rd (i := 0) rfl) rfl rfl o69 rfl (x21.take (l.length : Int).toNat).length (Jdt (hS.rd (i := 0) rfl) o69) <| SL.call hS (ZN (Jok (hS.rd (i := 0) rfl) o69) XF114 rfl XN114 (fun wc xc Qc hg hv => Jjf  hv) hv) XF54 rfl XN54 rfl rfl ?_; rintro _ _ w70 ⟨r71, rfl, rfl, hv⟩ hGw70 hS; have hS := hS.n0; refine Jb 3 <| W.ret <| ⟨_, rfl, Fin.nil ?_⟩
 exact (hS.pick [] rfl).fin rfl ⟨(!r71), rfl, rfl, hv⟩
def Q0 (Pf : Int) (Mf : Int) (mf : LI) (Q : Bool -> Prop) : Prop :=
  Yo mf (fun x14 => (((x14.length : Nat) + (1 : Nat) : Int) * 8 <= 140737488355328) /\ (∃ (I36 : Int -> Int -> Prop) (μ37 : Int -> Int -> Nat), I36 1 Pf /\ ∀ (z34 : Int) (z35 : Int), (I36 z34 z35 -> ((I64 ((2 : Int) * z34)) /\ (((((2 : Int) * z34) <= Mf) -> (∃ (I44 : Int -> Prop) (μ45 : Int -> Nat), I44 0 /\ ∀ (z43 : Int), (I44 z43 -> (((z43 < z35) -> (∃ (x55 : LI), Zh Pf z34 z43 (fun q => q = x55) /\ (∃ (r65 : Bool), Zg Pf x55 (x14 ++ ([(1 : Int)] : LI)) (fun q => q = r65) /\ (((r65 = true) -> Q false) /\ (r65 = false -> ((I64 (z43 + 1)) /\ (I44 (z43 + 1) /\ μ45 (z43 + 1) < μ45 z43))))))) /\ (¬ (z43 < z35) -> ((I64 (z34 + 1)) /\ ((I64 (z35 * Pf)) /\ (I36 (z34 + 1) (z35 * Pf) /\ μ37 (z34 + 1) (z35 * Pf) < μ37 z34 z35)))))))) /\ (¬ (((2 : Int) * z34) <= Mf) -> Q true))))))
theorem Jcn {w : World} {Q : Bool -> Prop} {Pf : Int} {Mf : Int} {mf : LI} {Bf : Nat} {Af : Option Addr} {nf kf : Nat} (hf : Rd Bf w 1 Af nf kf (is mf)) (hv : Q0 Pf Mf mf Q) :
   Calls Tryz.prog 56 #[.agg #[.int .i64 Pf, .int .i64 Mf, .slice Af nf kf]] w <| Rt w fun v Qr => ∃ (r0 : Bool), v = .bool r0 /\ Qr = [] /\ Q r0 := by
 have hnf := hf.ilen; subst hnf; refine Jk <| Jh (vs := [.agg #[nI Pf, nI Mf, nS Af mf kf]]) [2] XF56 rfl rfl rfl rfl ?_; have hS := Jp w; unfold Q0 at hv; refine Jc 2 <| JC (z := 3) (cs := [nI Pf, nI Mf, nS Af mf kf]) hS rfl rfl rfl rfl ?_; intro g11 w12 hS; refine Jb 2 <| Jc 2 <| Je (off := 2) QU rfl rfl <| Jm 0 2 Jo hS rfl rfl rfl ⟨rfl, rfl⟩ <| SL.call hS (YE (hS.ro hf) hv) Jkj rfl Jm0 rfl rfl ?_; rintro _ _ w13 ⟨x14, A15, k16, rfl, rfl, hv⟩ hGw13 hS; have hS := hS.n1; refine QG (vs := is ([(1 : Int)] : LI)) hS Jo XE3 rfl rfl rfl rfl (Qo _) rfl ?_; intro A18 w19 hS; obtain ⟨o21, hv⟩ := hv; refine SL.append (cs := is x14) (cs' := is ([(1 : Int)] : LI)) 1 ((x14 ++ ([(1 : Int)] : LI)).length) (is (x14 ++ ([(1 : Int)] : LI))) hS rfl Jo XE3 (hS.rd (i := 0) rfl) (Qo _) rfl rfl (apk o21).1 (apk o21).2 (Ja2 (hS.rd (i := 1) rfl) (hS.rd (i := 0) rfl)) (Qk _ _) rfl ?_; intro A22 k23 w24 hS; refine Jb 2 <| Jc 2 <| JN 4 [⟨[], [1], true⟩, ⟨[0], [], false⟩, ⟨[], [], true⟩, ⟨[1], [], true⟩] [(12, nP g11), (13, nI Pf), (4, nI 1), (5, nI Pf)] Jr (by kernel_rfl) rfl rfl ?_ ?_
 . refine ⟨fun _ _ _ => Je (off := 0) J2 rfl rfl <| Ja ⟨rfl, rfl⟩, og hS fun _ _ hS => Jm 2 0 XU3 hS rfl rfl rfl ⟨rfl, rfl⟩ <| Ja ⟨rfl, Jd _⟩, oD, oD, trivial⟩
 intro w29 hT; have hS := hS.grow hT; refine JL <| W.block ?_; obtain ⟨I36, μ37, hv, hk83⟩ := hv; refine Jz (σ := Int × Int) (fun q w1 => match q with | (z34, z35) => I36 z34 z35 /\ St TT w none w1 [.row 3 1 A18 1 1 (is ([(1 : Int)] : LI)), .row 3 1 A22 ((x14 ++ ([(1 : Int)] : LI)).length) k23 (is (x14 ++ ([(1 : Int)] : LI))), .row 24 3 (nA g11) 1 1 [nI Pf, nI Mf, nS Af mf kf]]) (fun (z34, z35) => [(1, nP g11), (2, .bool false), (3, .slice A22 ((x14 ++ ([(1 : Int)] : LI)).length) k23), (4, nI z34), (5, nI z35)]) (fun (z34, z35) => μ37 z34 z35) ((1 : Int), Pf) ⟨hv, hS⟩ ⟨rfl, rfl, rfl, rfl, rfl, trivial⟩ ?_; rintro ⟨z34, z35⟩ w38 ⟨hv, hS⟩; have hv := hk83 z34 z35 hv; refine Jc 4 ?_; obtain ⟨o39, hv⟩ := hv; refine WL.mul (r := ((2 : Int) * z34)) rfl rfl (wr o39) rfl <| Je (off := 1) Qf rfl rfl <| Jm 2 1 XU3 hS rfl rfl rfl ⟨rfl, rfl⟩ <| Jb 2 <| Jf rfl (fun c40 => ?_) (fun c40 => ?_)
 .have hv := hv.1 (oT c40); refine Ji <| Js <| W.block <| Jc 5 <| W.block ?_; obtain ⟨I44, μ45, hv, hk82⟩ := hv; refine Jz (σ := Int) (fun z43 w1 => I44 z43 /\ St TT w none w1 [.row 3 1 A18 1 1 (is ([(1 : Int)] : LI)), .row 3 1 A22 ((x14 ++ ([(1 : Int)] : LI)).length) k23 (is (x14 ++ ([(1 : Int)] : LI))), .row 24 3 (nA g11) 1 1 [nI Pf, nI Mf, nS Af mf kf]]) (fun z43 => [(1, nP g11), (2, .bool false), (3, .slice A22 ((x14 ++ ([(1 : Int)] : LI)).length) k23), (4, nI z34), (5, nI z35), (18, .bool (decide (((2 : Int) * z34) <= Mf))), (25, nI z35), (26, nI z43)]) (fun z43 => μ45 z43) (0 : Int) ⟨hv, hS⟩ ⟨rfl, rfl, rfl, rfl, rfl, rfl, rfl, rfl, trivial⟩ ?_; rintro z43 w46 ⟨hv, hS⟩; have hv := hk82 z43 hv; refine Jc 5 <| Jf rfl (fun c47 => ?_) (fun c47 => ?_)
  .have hv := hv.1 (oT c47); refine Ji <| Js <| W.block <| Jc 6 ?_; obtain ⟨x55, o62, hv⟩ := hv; obtain ⟨r65, o67, hv⟩ := hv; have hS0 := hS; refine QN 9 (fun iA => [false, false, false, false, false, false, true, false, false].getD iA false) (fun _ => none) (fun _ v u => u = v) [⟨[], [1], true⟩, ⟨[0], [], false⟩, ⟨[], [1], true⟩, ⟨[2], [], false⟩, ⟨[], [4], true⟩, ⟨[], [6], true⟩, ⟨[3, 4, 5], [], false⟩, ⟨[], [3], true⟩, ⟨[1, 6, 7], [], false⟩] [.k 29 (nP g11), .k 30 (nI Pf), .k 31 (nP g11), .k 32 (nI Pf), .k 33 (nI z34), .k 34 (nI z43), eS w46 35 3 x55.length (is x55), .k 36 (.slice A22 ((x14 ++ ([(1 : Int)] : LI)).length) k23), .k 37 (.bool r65)] (fun _ => vbD) Jr (by kernel_rfl) rfl rfl (fun _ _ _ _ _ _ _ h => h) ?_ ?_
   . refine ⟨fun _ _ _ => Je (off := 0) J2 rfl rfl <| Ja ⟨rfl, rfl⟩, og hS fun _ _ hS => Jm 2 0 XU3 hS rfl rfl rfl ⟨rfl, rfl⟩ <| Ja ⟨rfl, Jd _⟩, fun _ _ _ => Je (off := 0) J2 rfl rfl <| Ja ⟨rfl, rfl⟩, og hS fun _ _ hS => Jm 2 0 XU3 hS rfl rfl rfl ⟨rfl, rfl⟩ <| Ja ⟨rfl, Jd _⟩, oC, oC, ?_, oC, ?_, trivial⟩
     .intro w54 hE; have hE := hE rfl; have hS := hS.grow hE; intro RR; refine WL.call XF90 rfl XN90 rfl rfl (JJ (Jco  o62)) ?_; rintro _ w59 ⟨_, hGw59, hRww59, hNww59, x55q, A56, k57, rfl, rfl, he⟩; subst he; have hO60 := (hRww59.get (i := 0) rfl).1; have hN61 : ∀ g, bl A56 = some g -> _ <= g := fun g hg => Nat.le_trans hE.size (hNww59.1 g hg); exact Ja ⟨_, rfl, hGw59, ⟨A56, k57, rfl, hO60, hN61⟩, (fun _ => fun g hg => ⟨hNww59.1 g hg, (hO60.bl_ge g hg).2⟩), (fun j h => by cases h)⟩
     intro w64 hE; have hS := hS.grow (hE rfl); rintro _ ⟨A56_6, k57_6, rfl, hO60_6, hN61_6⟩; intro RR; refine WL.call XF89 rfl XN89 rfl rfl (JJ (Jlv hO60_6.rd (hS.rd (i := 1) rfl) o67)) ?_; rintro _ w66 ⟨_, hGw66, hRww66, hNww66, r65q, rfl, rfl, he⟩; subst he; exact Ja ⟨rfl, hGw66⟩
   intro vals w68 hT hVs hAp hCp; have hS := hS.grow hT; obtain ⟨A56_6, k57_6, hv6, hO60_6, hN61_6⟩ := hVs 6 (by decide); refine Za [(6, nS A56_6 x55 k57_6)] ⟨hv6, trivial⟩ <| JL <| Jf rfl (fun c69 => ?_) (fun c69 => ?_)
   .have hv := hv.1 (c69); refine Jc 4 <| W.ret <| ⟨_, rfl, Fin.nil ?_⟩
    exact (hS.pick [] rfl).fin rfl ⟨false, rfl, rfl, hv⟩
   have hv := hv.2 (c69); refine Ji <| Jt ?_; obtain ⟨o70, hv⟩ := hv; refine WL.add (r := (z43 + 1)) rfl rfl (wr o70) rfl <| Jb 2 ?_; exact ⟨(z43 + 1), sp rfl, hv.2, rfl, hv.1, hS⟩
  have hv := hv.2 (oF c47); refine Ju ?_; obtain ⟨o73, hv⟩ := hv; obtain ⟨o78, hv⟩ := hv; refine JN 8 [⟨[], [4], true⟩, ⟨[0], [], true⟩, ⟨[], [5], true⟩, ⟨[], [1], true⟩, ⟨[3], [], false⟩, ⟨[2, 4], [], true⟩, ⟨[1], [], true⟩, ⟨[5], [], true⟩] [(19, nI z34), (20, nI (z34 + 1)), (21, nI z35), (22, nP g11), (23, nI Pf), (24, nI (z35 * Pf)), (4, nI (z34 + 1)), (5, nI (z35 * Pf))] Jr (by kernel_rfl) rfl rfl ?_ ?_
  . refine ⟨oD, fun _ _ _ => WL.add (r := (z34 + 1)) rfl rfl (wr o73) rfl <| Ja ⟨rfl, rfl⟩, oD, fun _ _ _ => Je (off := 0) J2 rfl rfl <| Ja ⟨rfl, rfl⟩, og hS fun _ _ hS => Jm 2 0 XU3 hS rfl rfl rfl ⟨rfl, rfl⟩ <| Ja ⟨rfl, Jd _⟩, fun _ _ _ => WL.mul (r := (z35 * Pf)) rfl rfl (wr o78) rfl <| Ja ⟨rfl, rfl⟩, oD, oD, trivial⟩
  intro w81 hT; have hS := hS.grow hT; refine JL ?_; exact ⟨((z34 + 1), (z35 * Pf)), sp rfl, hv.2, rfl, hv.1, hS⟩
 have hv := hv.2 (oF c40); refine Ju <| Jc 4 <| W.ret <| ⟨_, rfl, Fin.nil ?_⟩
 exact (hS.pick [] rfl).fin rfl ⟨true, rfl, rfl, hv⟩
def Jca (Pf : Int) (Mf : Int) (mf : LI) (Q : Int -> Prop) : Prop :=
  (((256 : Int) < Pf) -> (Q 1)) /\ (¬ ((256 : Int) < Pf) -> (Jan Pf (fun r15 => (((!r15) = true) -> (Q 1)) /\ ((!r15) = false -> (((Mf < 1) -> (Q 1)) /\ (¬ (Mf < 1) -> (ZD Pf Mf mf (fun r19 => (((256 : Int) < r19) -> (Q 1)) /\ (¬ ((256 : Int) < r19) -> (((Mf = 1) -> (Jfd (decide ((mf.length : Int) = (0 : Int))) (fun r23 => Q r23))) /\ (¬ (Mf = 1) -> ((((mf.length : Int) ≠ Mf) -> (Q 1)) /\ (¬ ((mf.length : Int) ≠ Mf) -> (Q3 mf (fun xc Qc => Jfe xc Pf Mf mf Qc) (fun r26 => ((r26 = true) -> (Q 1)) /\ (r26 = false -> (Q0 Pf Mf mf (fun r29 => Jfd r29 (fun r31 => Q r31)))))))))))))))))))
theorem Jjg {w : World} {Q : Int -> Prop} {Pf : Int} {Mf : Int} {mf : LI} {Bf : Nat} {Af : Option Addr} {nf kf : Nat} (hf : Rd Bf w 1 Af nf kf (is mf)) (hv : Jca Pf Mf mf Q) :
   Calls Tryz.prog 26 #[.agg #[.int .i64 Pf, .int .i64 Mf, .slice Af nf kf]] w <| Rt w fun v Qr => ∃ (r0 : Int), v = .int .i64 r0 /\ Qr = [] /\ Q r0 := by
 have hnf := hf.ilen; subst hnf; refine Jk <| Jh (vs := [.agg #[nI Pf, nI Mf, nS Af mf kf]]) [2] XF26 rfl rfl rfl rfl ?_; have hS := Jp w; unfold Jca at hv; refine Jc 2 <| JC (z := 3) (cs := [nI Pf, nI Mf, nS Af mf kf]) hS rfl rfl rfl rfl ?_; intro g11 w12 hS; refine Jb 2 <| Jc 3 <| Je (off := 0) J2 rfl rfl <| Jm 0 0 XU3 hS rfl rfl rfl ⟨rfl, rfl⟩ <| Jh8 rfl rfl rfl <| Jl rfl rfl ?_; by_cases g13 : (256 : Int) < Pf
 .have hv := hv.1 g13; rw [decide_eq_true g13]; refine Jb 16 <| JX rfl <| Jc 4 <| W.ret <| ⟨_, rfl, Fin.nil ?_⟩
  exact (hS.pick [] rfl).fin rfl ⟨(1 : Int), rfl, rfl, hv⟩
 have hv := hv.2 g13; rw [decide_eq_false g13]; refine WL.take rfl <| Je (off := 0) J2 rfl rfl <| WL.take rfl <| Jm 0 0 XU3 hS rfl rfl rfl ⟨rfl, rfl⟩ <| WL.take rfl <| SL.call hS (Jlu  hv) XF51 rfl XN51 rfl rfl ?_; rintro _ _ w14 ⟨r15, rfl, rfl, hv⟩ hGw14 hS; have hS := hS.n0; refine Jb 3 <| Jl rfl rfl ?_; rcases g16 : (!r15) with _ | _
 .have hv := hv.2 g16; refine WL.take rfl <| Je (off := 1) Qf rfl rfl <| WL.take rfl <| Jm 0 1 XU3 hS rfl rfl rfl ⟨rfl, rfl⟩ <| Jb 3 <| Jl rfl rfl ?_; by_cases g17 : Mf < 1
  .have hv := hv.1 g17; rw [decide_eq_true g17]; refine Jb 5 <| JX rfl <| Jc 4 <| W.ret <| ⟨_, rfl, Fin.nil ?_⟩
   exact (hS.pick [] rfl).fin rfl ⟨(1 : Int), rfl, rfl, hv⟩
  have hv := hv.2 g17; rw [decide_eq_false g17]; refine WL.take rfl <| JF 0 JY J1 hS rfl ⟨rfl, rfl⟩ rfl <| WL.take rfl <| SL.call hS (ZM (hS.ro hf) hv) Jr2 rfl XN52 rfl rfl ?_; rintro _ _ w18 ⟨r19, rfl, rfl, hv⟩ hGw18 hS; have hS := hS.n0; refine Jb 4 <| Jf rfl (fun c20 => ?_) (fun c20 => ?_)
  .have hv := hv.1 (oT c20); refine Jc 4 <| W.ret <| ⟨_, rfl, Fin.nil ?_⟩
   exact (hS.pick [] rfl).fin rfl ⟨(1 : Int), rfl, rfl, hv⟩
  have hv := hv.2 (oF c20); refine Ji <| Jc 3 <| Je (off := 1) Qf rfl rfl <| Jm 0 1 XU3 hS rfl rfl rfl ⟨rfl, rfl⟩ <| Jb 2 <| Jf rfl (fun c21 => ?_) (fun c21 => ?_)
  .have hv := hv.1 (oT c21); refine Jc 2 <| Je (off := 2) QU rfl rfl <| Jm 0 2 Jo hS rfl rfl rfl ⟨rfl, rfl⟩ <| WL.len Jo rfl rfl <| Jh9 rfl rfl rfl <| SL.call hS (Jo7  hv) XF53 rfl XN53 rfl rfl ?_; rintro _ _ w22 ⟨r23, rfl, rfl, hv⟩ hGw22 hS; have hS := hS.n0; refine Jb 2 <| W.ret <| ⟨_, rfl, Fin.nil ?_⟩
   exact (hS.pick [] rfl).fin rfl ⟨r23, rfl, rfl, hv⟩
  have hv := hv.2 (oF c21); refine Ji <| Jc 3 <| Je (off := 2) QU rfl rfl <| Jm 0 2 Jo hS rfl rfl rfl ⟨rfl, rfl⟩ <| WL.len Jo rfl rfl <| Je (off := 1) Qf rfl rfl <| Jm 0 1 XU3 hS rfl rfl rfl ⟨rfl, rfl⟩ <| Jh7 rfl rfl rfl <| Jl rfl rfl ?_; by_cases g24 : (mf.length : Int) ≠ Mf
  .have hv := hv.1 g24; rw [decide_eq_true g24]; refine Jb 6 <| JX rfl <| Jc 4 <| W.ret <| ⟨_, rfl, Fin.nil ?_⟩
   exact (hS.pick [] rfl).fin rfl ⟨(1 : Int), rfl, rfl, hv⟩
  have hv := hv.2 g24; rw [decide_eq_false g24]; refine WL.take rfl <| Je (off := 2) QU rfl rfl <| WL.take rfl <| Jm 0 2 Jo hS rfl rfl rfl ⟨rfl, rfl⟩ <| WL.take rfl <| QL (vs := [nP g11]) rfl rfl <| WL.take rfl <| SL.call hS (ZN (hS.ro hf) XF55 rfl XN55 (fun wc xc Qc hg hv => Jq6 ((hS.rd (i := 0) rfl).ext hg) ((hS.ro hf).ext hg) hv) hv) XF54 rfl XN54 rfl rfl ?_; rintro _ _ w25 ⟨r26, rfl, rfl, hv⟩ hGw25 hS; have hS := hS.n0; refine Jb 2 <| Jf rfl (fun c27 => ?_) (fun c27 => ?_)
  .have hv := hv.1 (c27); refine Jc 4 <| W.ret <| ⟨_, rfl, Fin.nil ?_⟩
   exact (hS.pick [] rfl).fin rfl ⟨(1 : Int), rfl, rfl, hv⟩
  have hv := hv.2 (c27); refine Ji <| Jc 2 <| JF 0 JY J1 hS rfl ⟨rfl, rfl⟩ rfl <| SL.call hS (Jcn (hS.ro hf) hv) XF56 rfl XN56 rfl rfl ?_; rintro _ _ w28 ⟨r29, rfl, rfl, hv⟩ hGw28 hS; have hS := hS.n0; refine SL.call hS (Jo7  hv) XF53 rfl XN53 rfl rfl ?_; rintro _ _ w30 ⟨r31, rfl, rfl, hv⟩ hGw30 hS; have hS := hS.n0; refine Jb 2 <| W.ret <| ⟨_, rfl, Fin.nil ?_⟩
  exact (hS.pick [] rfl).fin rfl ⟨r31, rfl, rfl, hv⟩
 have hv := hv.1 g16; refine Jb 10 <| JX rfl <| Jc 4 <| W.ret <| ⟨_, rfl, Fin.nil ?_⟩
 exact (hS.pick [] rfl).fin rfl ⟨(1 : Int), rfl, rfl, hv⟩
def Jbe (Fg : GFv) (Q : Unit -> Prop) : Prop :=
  Q ()
theorem Jje {w : World} {Q : Unit -> Prop} {Fg : GFv} {ag : Addr} {Bg : Nat} (hgg : GFR Bg w ag Fg) (hv : Jbe Fg Q) :
  Calls Tryz.prog 130 #[.pointer (some ag)] w <| Rt w fun v Qr => ∃ g : Nat, v = .func (.func 137) #[] #[.pointer (some ⟨g, 0, none⟩)] /\ Qr = [.row 85 1 (some ⟨g, 0, none⟩) 1 1 [.pointer (some ag)]] /\ Q () := by
 have hgg_ := hgg; obtain ⟨Ag_mod, kg_mod, Ag_exp, kg_exp, Ag_log, kg_log, Ag_above, kg_above, hg_c, hg_mod, hg_exp, hg_log, hg_above⟩ := hgg_; refine Jk <| Jh (vs := [.pointer (some ag)]) [2] XF130 rfl rfl rfl rfl ?_; have hS := Jp w; unfold Jbe at hv; refine Jc 2 <| JC (z := 1) (cs := [.pointer (some ag)]) hS rfl rfl rfl rfl ?_; intro g11 w12 hS; refine Jb 2 <| Jc 2 <| QL (vs := [nP g11]) rfl rfl <| Jb 2 <| W.ret <| ⟨_, rfl, Fin.nil ?_⟩
 exact (hS.pick [0] rfl).fin rfl ⟨g11, rfl, rfl, hv⟩
def Jbg (l : LI) (Q : Unit -> Prop) : Prop :=
  Q ()
theorem Jjh {w : World} {Q : Unit -> Prop} {l : LI} {Bl : Nat} {Al : Option Addr} {nl kl : Nat} (hl : Rd Bl w 1 Al nl kl (is l)) (hv : Jbg l Q) :
  Calls Tryz.prog 143 #[.slice Al nl kl] w <| Rt w fun v Qr => ∃ g : Nat, v = .func (.func 144) #[] #[.pointer (some ⟨g, 0, none⟩)] /\ Qr = [.row 22 1 (some ⟨g, 0, none⟩) 1 1 [.slice Al nl kl]] /\ Q () := by
 have hnl := hl.ilen; subst hnl; refine Jk <| Jh (vs := [nS Al l kl]) [2] XF143 rfl rfl rfl rfl ?_; have hS := Jp w; unfold Jbg at hv; refine Jc 2 <| JC (z := 1) (cs := [nS Al l kl]) hS rfl rfl rfl rfl ?_; intro g11 w12 hS; refine Jb 2 <| Jc 2 <| QL (vs := [nP g11]) rfl rfl <| Jb 2 <| W.ret <| ⟨_, rfl, Fin.nil ?_⟩
 exact (hS.pick [0] rfl).fin rfl ⟨g11, rfl, rfl, hv⟩
def YB (p : Int) (l : LI) (Q : Int -> Prop) : Prop :=
  Jbg l (fun _ => ∃ (I22 : Nat -> Int -> Prop), I22 0 (0 : Int) /\ (∀ i18 : Nat, i18 < l.length -> ∀ (z21 : Int), I22 i18 z21 -> ((I64 (z21 * p)) /\ ((I64 ((z21 * p) + (gi l ((l.length - 1 - i18 : Nat) : Int)))) /\ (I22 (i18 + 1) ((z21 * p) + (gi l ((l.length - 1 - i18 : Nat) : Int))))))) /\ (∀ (z21 : Int), I22 l.length z21 -> Q z21))
theorem Jfl {w : World} {Q : Int -> Prop} {p : Int} {l : LI} {Bl : Nat} {Al : Option Addr} {nl kl : Nat} (hl : Rd Bl w 1 Al nl kl (is l)) (hv : YB p l Q) :
   Calls Tryz.prog 139 #[.int .i64 p, .slice Al nl kl] w <| Rt w fun v Qr => ∃ (r0 : Int), v = .int .i64 r0 /\ Qr = [] /\ Q r0 := by
 have hnl := hl.ilen; subst hnl; refine Jk <| Jh (vs := [nI p, nS Al l kl]) [4] XF139 rfl rfl rfl rfl ?_; have hS := Jp w; unfold YB at hv; refine Jc 2 <| JC (z := 1) (cs := [nI p]) hS rfl rfl rfl rfl ?_; intro g11 w12 hS; refine Jb 2 <| Jc 2 <| SL.alloc (cs := [nI 0]) hS XE3 rfl rfl ?_; intro g13 w14 hS; refine JB (cs' := [nI 0]) 0 0 hS rfl XE3 rfl rfl rfl (QS rfl) rfl ?_; intro w15 hS; refine Ja <| Jc 4 <| SL.call hS (Jjh (hS.ro hl) hv) XF143 rfl XN143 rfl rfl ?_; rintro _ _ w16 ⟨g17, rfl, rfl, hv⟩ hGw16 hS; have hS := hS.n1; refine Ja <| W.block ?_; obtain ⟨I22, hv, hk29, hd30⟩ := hv; refine Jkw (σ := Int) (fun i q => match q with | z21 => I22 i z21) (fun z21 => [.row 22 1 (some ⟨g17, 0, none⟩) 1 1 [.slice Al l.length kl], .row 3 1 (some ⟨g13, 0, none⟩) 1 1 [.int .i64 z21], .row 3 1 (some ⟨g11, 0, none⟩) 1 1 [.int .i64 p]]) (fun _ _ => False) (fun vs => [(2, .pointer (some ⟨g11, 0, none⟩)), (4, .int .i64 0), (5, .pointer (some ⟨g13, 0, none⟩)), (7, vs.getD 1 undef)]) (0 : Int) hS hv (fun q => by obtain z21 := q; exact trivial) rfl XF144 rfl XN144 (Jhx (A := Al) (m := l.length) (c := kl) (Rd.m64 (hS.ro hl))) (Below.refl _ _) (fun _ _ _ h => by obtain ⟨_, h, _⟩ := h; rw [h]; rfl) (fun i x => Jy9) (by decide) (fun _ q _ _ hS => by obtain z21 := q; exact ⟨JE (hS.own (i := 0) rfl) 0 _ rfl, _, _, (hS.ro hl)⟩) ?_ ?_ ?_ ?_
 .intro lq vsq W1q hlq
  match vsq, hlq with
  | [a0, a1], _ =>
    refine Jc 3 ?_; exact ⟨rfl, rfl, sp rfl⟩
 .rintro lq i18 _ z21 w23 hi ⟨vb, rfl, hcell⟩ hI hS; have hvb : vb = (gi l ((l.length - 1 - i18 : Nat) : Int)) := bw_val (hS.ro hl) (by omega) hcell; subst hvb; have hv := hk29 i18 hi z21 hI; refine W.block <| Jt <| Jm 1 0 XU3 hS rfl rfl rfl ⟨rfl, rfl⟩ <| Jm 2 0 XU3 hS rfl rfl rfl ⟨rfl, rfl⟩ ?_; obtain ⟨o24, hv⟩ := hv; refine WL.mul (r := (z21 * p)) rfl rfl (wr o24) rfl <| Jl rfl rfl ?_; obtain ⟨o25, hv⟩ := hv; refine WL.add (r := ((z21 * p) + (gi l ((l.length - 1 - i18 : Nat) : Int)))) rfl rfl (wr o25) rfl <| JB (cs' := [nI ((z21 * p) + (gi l ((l.length - 1 - i18 : Nat) : Int)))]) 1 0 hS rfl XE3 rfl rfl rfl (QS rfl) rfl ?_; intro w26 hS; refine Ja ?_; exact ⟨((z21 * p) + (gi l ((l.length - 1 - i18 : Nat) : Int))), hv, hS⟩
 .rintro D27 z21 w28 hv hD hS; have hv := hd30 z21 hv; refine Jc 2 <| Jm 2 0 XU3 hS rfl rfl rfl ⟨rfl, rfl⟩ <| Jb 2 <| W.ret ?_; have hS := hS.pick [0] rfl; obtain ⟨hDD27, hS⟩ := hS.taken trivial; refine ⟨_, rfl, Fin.cons hDD27 (Fin.nil ?_)⟩; exact (hS.pick [] rfl).fin rfl ⟨z21, rfl, rfl, hv⟩
 rintro _ e _ _ _ hv; exact hv.elim
end Go.Proofs.YtjgpkljepgcekaaGreat
namespace Go.Proofs.YtjgpkljepgcekaaGreat
open Go.RowKit
def Jb2 (Pf : Int) (Mf : Int) (mf : LI) (a : LI) (Q : LI -> Prop) : Prop :=
  (I64 (Mf - 1)) /\ ((0 <= (Mf - 1) /\ (Mf - 1) < (a.length : Nat)) /\ ((0 <= (1 : Int) /\ (1 : Int) <= (a.length : Nat)) /\ ((0 <= (0 : Int) /\ (0 : Int) < (a.length : Nat)) /\ ((((gi a (Mf - 1)) = 0) -> (Q (si (a.take ((1 : Int).toNat) ++ a.take (min a.length (a.length - ((1 : Int).toNat))) ++ a.drop ((1 : Int).toNat + (min a.length (a.length - ((1 : Int).toNat))))) (0 : Int) (0 : Int)))) /\ (¬ ((gi a (Mf - 1)) = 0) -> (∃ (I26 : LI -> Int -> Prop) (μ27 : LI -> Int -> Nat), I26 (si (a.take ((1 : Int).toNat) ++ a.take (min a.length (a.length - ((1 : Int).toNat))) ++ a.drop ((1 : Int).toNat + (min a.length (a.length - ((1 : Int).toNat))))) (0 : Int) (0 : Int)) (0 : Int) /\ ∀ (x24 : LI) (z25 : Int), (I26 x24 z25 -> (((z25 < (mf.length : Int)) -> ((0 <= z25 /\ z25 < (mf.length : Nat)) /\ ((0 <= z25 /\ z25 < (a.length : Nat)) /\ ((I64 (Pf - (gi mf z25))) /\ ((I64 ((Pf - (gi mf z25)) * (gi a (Mf - 1)))) /\ ((I64 ((gi x24 z25) + ((Pf - (gi mf z25)) * (gi a (Mf - 1))))) /\ ((Pf ≠ 0) /\ ((0 <= z25 /\ z25 < (a.length : Nat)) /\ ((I64 (z25 + 1)) /\ (I26 (si x24 z25 (((gi x24 z25) + ((Pf - (gi mf z25)) * (gi a (Mf - 1)))).tmod Pf)) (z25 + 1) /\ μ27 (si x24 z25 (((gi x24 z25) + ((Pf - (gi mf z25)) * (gi a (Mf - 1)))).tmod Pf)) (z25 + 1) < μ27 x24 z25)))))))))) /\ (¬ (z25 < (mf.length : Int)) -> Q x24)))))))))
theorem Jqx {w : World} {Q : LI -> Prop} {Pf : Int} {Mf : Int} {mf : LI} {a : LI} {Aa : Option Addr} {na ka : Nat} (ha : Own 0 w 3 1 Aa na ka (is a)) {Bf : Nat} {Af : Option Addr} {nf kf : Nat} (hf : Rd Bf w 1 Af nf kf (is mf)) (hapf : 0 < nf -> ∀ g, bl Aa = some g -> bl Af ≠ some g) (hv : Jb2 Pf Mf mf a Q) :
   Calls Tryz.prog 142 #[.agg #[.int .i64 Pf, .int .i64 Mf, .slice Af nf kf], .slice Aa na ka] w fun e w' => ∃ v cs', e = .returned v /\ w.grownBy w' (bl Aa) /\ Own 0 w' 3 1 Aa na ka cs' /\ ∃ x : LI, v = .tuple #[] /\ cs' = is x /\ Q x := by
 have hnf := hf.ilen; subst hnf; have hna := ha.rd.ilen; subst hna; refine YQ <| Jh (vs := [.agg #[nI Pf, nI Mf, nS Af mf kf], nS Aa a ka]) [] XF142 rfl rfl rfl rfl ?_; have hS := Jar ha; unfold Jb2 at hv; refine Jc 2 <| JC (z := 3) (cs := [nI Pf, nI Mf, nS Af mf kf]) hS rfl rfl rfl rfl ?_; intro g11 w12 hS; refine Ja <| Jc 3 <| Je (off := 1) Qf rfl rfl <| Jm 0 1 XU3 hS rfl rfl rfl ⟨rfl, rfl⟩ ?_; obtain ⟨o13, hv⟩ := hv; refine WL.sub (r := (Mf - 1)) rfl rfl (wr o13) rfl ?_; obtain ⟨o14, hv⟩ := hv; refine Jg Jo XE3 (hS.rd (i := 1) rfl) rfl rfl o14 rfl <| Jj XU3 rfl rfl (JG (hS.rd (i := 1) rfl) o14) rfl <| Jb 2 <| Jc 3 ?_; obtain ⟨o15, hv⟩ := hv; refine Jgg Jo XE3 (hS.rd (i := 1) rfl) rfl rfl o15 rfl <| Jl rfl rfl <| Jzw (xs := a) (ys := a) 1 ((1 : Int).toNat) hS rfl Jo XE3 (hS.rd (i := 1) rfl) rfl (by omega) rfl rfl rfl ?_; intro w16 hS; refine Ja <| Jc 3 ?_; obtain ⟨o17, hv⟩ := hv; refine Jg Jo XE3 (hS.rd (i := 1) rfl) rfl rfl o17 rfl <| JB (cs' := is (si (a.take ((1 : Int).toNat) ++ a.take (min a.length (a.length - ((1 : Int).toNat))) ++ a.drop ((1 : Int).toNat + (min a.length (a.length - ((1 : Int).toNat))))) (0 : Int) (0 : Int))) 1 (0 : Int).toNat hS rfl XE3 rfl rfl rfl (Qu (hS.rd (i := 1) rfl) o17) (J9 _ _ _) ?_; intro w18 hS; refine Ja <| Jc 6 <| Jf rfl (fun c19 => ?_) (fun c19 => ?_)
 .have hv := hv.1 (oT c19); refine W.ret <| ⟨_, rfl, Fin.nil ?_⟩
  exact ⟨_, hS.ext, hS.own (i := 1) rfl, si (a.take ((1 : Int).toNat) ++ a.take (min a.length (a.length - ((1 : Int).toNat))) ++ a.drop ((1 : Int).toNat + (min a.length (a.length - ((1 : Int).toNat))))) (0 : Int) (0 : Int), rfl, rfl, hv⟩
 have hv := hv.2 (oF c19); refine Ji <| Jc 2 <| Je (off := 2) QU rfl rfl <| Jm 0 2 Jo hS rfl rfl rfl ⟨rfl, rfl⟩ <| WL.len Jo rfl rfl <| Jb 2 <| W.block ?_; obtain ⟨I26, μ27, hv, hk56⟩ := hv; refine Jz (σ := LI × Int) (fun q w1 => match q with | (x24, z25) => I26 x24 z25 /\ St TT w (bl Aa) w1 [.row 24 3 (nA g11) 1 1 [nI Pf, nI Mf, nS Af mf kf], .row 3 1 Aa a.length ka (is x24)]) (fun (x24, z25) => [(1, nS Aa a ka), (2, nP g11), (4, nI (gi a (Mf - 1))), (22, nS Af mf kf), (23, nI (mf.length : Int)), (24, nI z25)]) (fun (x24, z25) => μ27 x24 z25) (si (a.take ((1 : Int).toNat) ++ a.take (min a.length (a.length - ((1 : Int).toNat))) ++ a.drop ((1 : Int).toNat + (min a.length (a.length - ((1 : Int).toNat))))) (0 : Int) (0 : Int), (0 : Int)) ⟨hv, hS⟩ ⟨rfl, rfl, rfl, rfl, rfl, rfl, trivial⟩ ?_; rintro ⟨x24, z25⟩ w28 ⟨hv, hS⟩; have hv := hk56 x24 z25 hv; refine Jc 5 <| Jf rfl (fun c29 => ?_) (fun c29 => ?_)
 .have hv := hv.1 (oT c29); refine Ji <| Js <| W.block <| Jc 3 ?_; obtain ⟨o30, hv⟩ := hv; refine Jg Jo XE3 (hS.rom' hf hapf) rfl rfl o30 rfl <| Jj XU3 rfl rfl (JG (hS.rom' hf hapf) o30) rfl <| Jb 3 ?_; obtain ⟨o36, hv⟩ := hv; obtain ⟨o42, hv⟩ := hv; obtain ⟨o45, hv⟩ := hv; obtain ⟨o47, hv⟩ := hv; obtain ⟨o51, hv⟩ := hv; refine JN 16 [⟨[], [1], true⟩, ⟨[], [5], true⟩, ⟨[], [1], true⟩, ⟨[], [5], true⟩, ⟨[2, 3], [], true⟩, ⟨[4], [], false⟩, ⟨[], [2], true⟩, ⟨[6], [], false⟩, ⟨[], [6], true⟩, ⟨[7, 8], [], true⟩, ⟨[], [4], true⟩, ⟨[9, 10], [], true⟩, ⟨[5, 11], [], true⟩, ⟨[], [2], true⟩, ⟨[13], [], false⟩, ⟨[12, 14], [], true⟩] [(29, nS Aa a ka), (30, nI z25), (31, nS Aa a ka), (32, nI z25), (33, .pointer (some ((JI Aa).add z25.toNat))), (34, nI (gi x24 z25)), (35, nP g11), (36, nI Pf), (37, nI (gi mf z25)), (38, nI (Pf - (gi mf z25))), (39, nI (gi a (Mf - 1))), (40, nI ((Pf - (gi mf z25)) * (gi a (Mf - 1)))), (41, nI ((gi x24 z25) + ((Pf - (gi mf z25)) * (gi a (Mf - 1))))), (42, nP g11), (43, nI Pf), (44, nI (((gi x24 z25) + ((Pf - (gi mf z25)) * (gi a (Mf - 1)))).tmod Pf))] Jr (by kernel_rfl) rfl rfl ?_ ?_
  .refine ⟨oD, oD, oD, oD, fun _ _ _ => Jg Jo XE3 (hS.rd (i := 1) rfl) rfl rfl o36 rfl <| Ja ⟨rfl, rfl⟩, og hS fun _ _ hS => Jj XU3 rfl rfl (JG (hS.rd (i := 1) rfl) o36) rfl <| Ja ⟨rfl, Jd _⟩, fun _ _ _ => Je (off := 0) J2 rfl rfl <| Ja ⟨rfl, rfl⟩, og hS fun _ _ hS => Jm 0 0 XU3 hS rfl rfl rfl ⟨rfl, rfl⟩ <| Ja ⟨rfl, Jd _⟩, oD, fun _ _ _ => WL.sub (r := (Pf - (gi mf z25))) rfl rfl (wr o42) rfl <| Ja ⟨rfl, rfl⟩, oD, fun _ _ _ => WL.mul (r := ((Pf - (gi mf z25)) * (gi a (Mf - 1)))) rfl rfl (wr o45) rfl <| Ja ⟨rfl, rfl⟩, fun _ _ _ => WL.add (r := ((gi x24 z25) + ((Pf - (gi mf z25)) * (gi a (Mf - 1))))) rfl rfl (wr o47) rfl <| Ja ⟨rfl, rfl⟩, fun _ _ _ => Je (off := 0) J2 rfl rfl <| Ja ⟨rfl, rfl⟩, og hS fun _ _ hS => Jm 0 0 XU3 hS rfl rfl rfl ⟨rfl, rfl⟩ <| Ja ⟨rfl, Jd _⟩, fun _ _ _ => Qa (r := (((gi x24 z25) + ((Pf - (gi mf z25)) * (gi a (Mf - 1)))).tmod Pf)) rfl rfl o51 rfl rfl <| Ja ⟨rfl, rfl⟩, trivial⟩
  intro w52 hT; have hS := hS.grow hT; refine Jn 16 rfl ?_; obtain ⟨o53, hv⟩ := hv; refine Jg Jo XE3 (hS.rd (i := 1) rfl) rfl rfl o53 rfl <| Ja <| Jn 17 rfl <| JB (cs' := is (si x24 z25 (((gi x24 z25) + ((Pf - (gi mf z25)) * (gi a (Mf - 1)))).tmod Pf))) 1 z25.toNat hS rfl XE3 rfl rfl rfl (Qu (hS.rd (i := 1) rfl) o53) (J9 _ _ _) ?_; intro w54 hS; refine Ja <| JL <| Jt ?_; obtain ⟨o55, hv⟩ := hv; refine WL.add (r := (z25 + 1)) rfl rfl (wr o55) rfl <| Jb 2 ?_; exact ⟨(si x24 z25 (((gi x24 z25) + ((Pf - (gi mf z25)) * (gi a (Mf - 1)))).tmod Pf), (z25 + 1)), sp rfl, hv.2, rfl, hv.1, hS⟩
 have hv := hv.2 (oF c29); refine Ju <| ⟨_, rfl, Fin.nil ?_⟩
 exact ⟨_, hS.ext, hS.own (i := 1) rfl, x24, rfl, rfl, hv⟩
def Jam (Pf : Int) (Mf : Int) (mf : LI) (o : LI) (a : LI) (b : LI) (Q : LI -> Prop) : Prop :=
  (I64 (Mf - 1)) /\ (∃ J16 : Int -> Prop, (∃ (I20 : Int -> Prop) (μ21 : Int -> Nat), I20 (Mf - 1) /\ ∀ (z19 : Int), (I20 z19 -> ((((0 : Int) < z19) -> ((0 <= z19 /\ z19 < (b.length : Nat)) /\ ((((gi b z19) = (0 : Int)) -> ((I64 (z19 - 1)) /\ (I20 (z19 - 1) /\ μ21 (z19 - 1) < μ21 z19))) /\ (¬ ((gi b z19) = (0 : Int)) -> J16 z19)))) /\ (¬ ((0 : Int) < z19) -> J16 z19)))) /\ ∀ (z15 : Int), (J16 z15 -> (∃ (I35 : LI -> Int -> Prop) (μ36 : LI -> Int -> Nat), I35 (List.replicate o.length (0 : Int)) z15 /\ ∀ (x33 : LI) (z34 : Int), (I35 x33 z34 -> ((((0 : Int) <= z34) -> (Jb2 Pf Mf mf x33 (fun x40 => ∃ (I47 : LI -> Int -> Prop) (μ48 : LI -> Int -> Nat), I47 x40 (0 : Int) /\ ∀ (x45 : LI) (z46 : Int), (I47 x45 z46 -> (((z46 < (a.length : Int)) -> ((0 <= z46 /\ z46 < (a.length : Nat)) /\ ((0 <= z46 /\ z46 < (o.length : Nat)) /\ ((0 <= z34 /\ z34 < (b.length : Nat)) /\ ((I64 ((gi b z34) * (gi a z46))) /\ ((I64 ((gi x45 z46) + ((gi b z34) * (gi a z46)))) /\ ((Pf ≠ 0) /\ ((0 <= z46 /\ z46 < (o.length : Nat)) /\ ((I64 (z46 + 1)) /\ (I47 (si x45 z46 (((gi x45 z46) + ((gi b z34) * (gi a z46))).tmod Pf)) (z46 + 1) /\ μ48 (si x45 z46 (((gi x45 z46) + ((gi b z34) * (gi a z46))).tmod Pf)) (z46 + 1) < μ48 x45 z46)))))))))) /\ (¬ (z46 < (a.length : Int)) -> ((I64 (z34 - 1)) /\ (I35 x45 (z34 - 1) /\ μ36 x45 (z34 - 1) < μ36 x33 z34)))))))) /\ (¬ ((0 : Int) <= z34) -> Q x33))))))
theorem Jlt {w : World} {Q : LI -> Prop} {Pf : Int} {Mf : Int} {mf : LI} {o : LI} {a : LI} {b : LI} {Ao : Option Addr} {no ko : Nat} (ho : Own 0 w 3 1 Ao no ko (is o)) {Bf : Nat} {Af : Option Addr} {nf kf : Nat} (hf : Rd Bf w 1 Af nf kf (is mf)) {Ba : Nat} {Aa : Option Addr} {na ka : Nat} (ha : Rd Ba w 1 Aa na ka (is a)) {Bb : Nat} {Ab : Option Addr} {nb kb : Nat} (hb : Rd Bb w 1 Ab nb kb (is b)) (hapf : 0 < nf -> ∀ g, bl Ao = some g -> bl Af ≠ some g) (hapa : 0 < na -> ∀ g, bl Ao = some g -> bl Aa ≠ some g) (hapb : 0 < nb -> ∀ g, bl Ao = some g -> bl Ab ≠ some g) (hv : Jam Pf Mf mf o a b Q) :
   Calls Tryz.prog 138 #[.agg #[.int .i64 Pf, .int .i64 Mf, .slice Af nf kf], .slice Ao no ko, .slice Aa na ka, .slice Ab nb kb] w fun e w' => ∃ v cs', e = .returned v /\ w.grownBy w' (bl Ao) /\ Own 0 w' 3 1 Ao no ko cs' /\ ∃ x : LI, v = .tuple #[] /\ cs' = is x /\ Q x := by
 have hnf := hf.ilen; subst hnf; have hno := ho.rd.ilen; subst hno; have hna := ha.ilen; subst hna; have hnb := hb.ilen; subst hnb; refine YQ <| Jh (vs := [.agg #[nI Pf, nI Mf, nS Af mf kf], nS Ao o ko, nS Aa a ka, nS Ab b kb]) [] XF138 rfl rfl rfl rfl ?_; have hS := Jar ho; unfold Jam at hv; refine Jc 2 <| JC (z := 3) (cs := [nI Pf, nI Mf, nS Af mf kf]) hS rfl rfl rfl rfl ?_; intro g11 w12 hS; refine Ja <| Jc 3 <| Jxp (xs := o) 1 hS rfl Jo XE3 rfl ?_; intro w13 hS; refine Ja <| Jc 2 <| Je (off := 1) Qf rfl rfl <| Jm 0 1 XU3 hS rfl rfl rfl ⟨rfl, rfl⟩ ?_; obtain ⟨o14, hv⟩ := hv; refine WL.sub (r := (Mf - 1)) rfl rfl (wr o14) rfl <| Jb 2 <| Js ?_; obtain ⟨J16, hv, hk80⟩ := hv; refine Qe (σ := Int) (fun z15 w1 => J16 z15 /\ St TT w (bl Ao) w1 [.row 24 3 (nA g11) 1 1 [nI Pf, nI Mf, nS Af mf kf], .row 3 1 Ao o.length ko (is (List.replicate o.length (0 : Int)))]) (fun z15 => [(1, nS Ao o ko), (2, nS Aa a ka), (3, nS Ab b kb), (4, nP g11), (8, nI z15)]) ?_ ?_
 .refine W.block ?_; obtain ⟨I20, μ21, hv, hk27⟩ := hv; refine Jz (σ := Int) (fun z19 w1 => I20 z19 /\ St TT w (bl Ao) w1 [.row 24 3 (nA g11) 1 1 [nI Pf, nI Mf, nS Af mf kf], .row 3 1 Ao o.length ko (is (List.replicate o.length (0 : Int)))]) (fun z19 => [(1, nS Ao o ko), (2, nS Aa a ka), (3, nS Ab b kb), (4, nP g11), (8, nI z19)]) (fun z19 => μ21 z19) (Mf - 1) ⟨hv, hS⟩ ⟨rfl, rfl, rfl, rfl, rfl, trivial⟩ ?_; rintro z19 w22 ⟨hv, hS⟩; have hv := hk27 z19 hv; refine Jc 5 <| Jl rfl rfl ?_; by_cases g23 : (0 : Int) < z19
  .have hv := hv.1 g23; rw [decide_eq_true g23]; refine Jb 5 ?_; obtain ⟨o24, hv⟩ := hv; refine Jg Jo XE3 (hS.rom' hb hapb) rfl rfl o24 rfl <| WL.take rfl <| Jj XU3 rfl rfl (JG (hS.rom' hb hapb) o24) rfl <| Jb 4 <| Jf rfl (fun c25 => ?_) (fun c25 => ?_)
   .have hv := hv.1 (oT c25); refine Ji <| W.block <| Jc 2 ?_; obtain ⟨o26, hv⟩ := hv; refine WL.sub (r := (z19 - 1)) rfl rfl (wr o26) rfl <| Jb 2 ?_; exact ⟨(z19 - 1), sp rfl, hv.2, rfl, hv.1, hS⟩
   have hv := hv.2 (oF c25); refine Ju ?_; exact ⟨z19, sp rfl, rfl, hv, hS⟩
  have hv := hv.2 g23; rw [decide_eq_false g23]; refine Jb 7 <| QA rfl <| Ju ?_; exact ⟨z19, sp rfl, rfl, hv, hS⟩
 rintro z15 w28 ⟨hv, hS⟩; have hv := hk80 z15 hv; refine Jc 5 <| W.block ?_; obtain ⟨I35, μ36, hv, hk79⟩ := hv; refine Jz (σ := LI × Int) (fun q w1 => match q with | (x33, z34) => I35 x33 z34 /\ St TT w (bl Ao) w1 [.row 24 3 (nA g11) 1 1 [nI Pf, nI Mf, nS Af mf kf], .row 3 1 Ao o.length ko (is x33)]) (fun (x33, z34) => [(1, nS Ao o ko), (2, nS Aa a ka), (3, nS Ab b kb), (4, nP g11), (9, nI z34)]) (fun (x33, z34) => μ36 x33 z34) (List.replicate o.length (0 : Int), z15) ⟨hv, hS⟩ ⟨rfl, rfl, rfl, rfl, rfl, trivial⟩ ?_; rintro ⟨x33, z34⟩ w37 ⟨hv, hS⟩; have hv := hk79 x33 z34 hv; refine Jc 6 <| Jf rfl (fun c38 => ?_) (fun c38 => ?_)
 .have hv := hv.1 (oT c38); refine Ji <| Js <| W.block <| Jc 2 <| JF 0 JY J1 hS rfl ⟨rfl, rfl⟩ rfl <| Jl rfl rfl <| SL.callm 1 hS rfl (Jqx (hS.own (i := 1) rfl) (hS.rom' hf hapf) (hS.aptRoM (i := 1) rfl hf hapf) hv) XF142 rfl XN142 rfl rfl ?_; rintro _ _ w39 ⟨x40, rfl, rfl, hv⟩ hS; refine Ja <| Jc 3 <| WL.len Jo rfl rfl <| Jb 2 <| W.block ?_; obtain ⟨I47, μ48, hv, hk78⟩ := hv; refine Jz (σ := LI × Int) (fun q w1 => match q with | (x45, z46) => I47 x45 z46 /\ St TT w (bl Ao) w1 [.row 24 3 (nA g11) 1 1 [nI Pf, nI Mf, nS Af mf kf], .row 3 1 Ao o.length ko (is x45)]) (fun (x45, z46) => [(1, nS Ao o ko), (2, nS Aa a ka), (3, nS Ab b kb), (4, nP g11), (9, nI z34), (29, .bool (decide ((0 : Int) <= z34))), (35, nS Aa a ka), (36, nI (a.length : Int)), (37, nI z46)]) (fun (x45, z46) => μ48 x45 z46) (x40, (0 : Int)) ⟨hv, hS⟩ ⟨rfl, rfl, rfl, rfl, rfl, rfl, rfl, rfl, rfl, trivial⟩ ?_; rintro ⟨x45, z46⟩ w49 ⟨hv, hS⟩; have hv := hk78 x45 z46 hv; refine Jc 5 <| Jf rfl (fun c50 => ?_) (fun c50 => ?_)
  .have hv := hv.1 (oT c50); refine Ji <| Js <| W.block <| Jc 3 ?_; obtain ⟨o51, hv⟩ := hv; refine Jg Jo XE3 (hS.rom' ha hapa) rfl rfl o51 rfl <| Jj XU3 rfl rfl (JG (hS.rom' ha hapa) o51) rfl <| Jb 3 ?_; obtain ⟨o57, hv⟩ := hv; obtain ⟨o62, hv⟩ := hv; obtain ⟨o66, hv⟩ := hv; obtain ⟨o68, hv⟩ := hv; obtain ⟨o72, hv⟩ := hv; refine JN 16 [⟨[], [1], true⟩, ⟨[], [10], true⟩, ⟨[], [1], true⟩, ⟨[], [10], true⟩, ⟨[2, 3], [], true⟩, ⟨[4], [], false⟩, ⟨[], [3], true⟩, ⟨[], [9], true⟩, ⟨[6, 7], [], true⟩, ⟨[8], [], false⟩, ⟨[], [11], true⟩, ⟨[9, 10], [], true⟩, ⟨[5, 11], [], true⟩, ⟨[], [4], true⟩, ⟨[13], [], false⟩, ⟨[12, 14], [], true⟩] [(42, nS Ao o ko), (43, nI z46), (44, nS Ao o ko), (45, nI z46), (46, .pointer (some ((JI Ao).add z46.toNat))), (47, nI (gi x45 z46)), (48, nS Ab b kb), (49, nI z34), (50, .pointer (some ((JI Ab).add z34.toNat))), (51, nI (gi b z34)), (52, nI (gi a z46)), (53, nI ((gi b z34) * (gi a z46))), (54, nI ((gi x45 z46) + ((gi b z34) * (gi a z46)))), (55, nP g11), (56, nI Pf), (57, nI (((gi x45 z46) + ((gi b z34) * (gi a z46))).tmod Pf))] Jr (by kernel_rfl) rfl rfl ?_ ?_
   .refine ⟨oD, oD, oD, oD, fun _ _ _ => Jg Jo XE3 (hS.rd (i := 1) rfl) rfl rfl o57 rfl <| Ja ⟨rfl, rfl⟩, og hS fun _ _ hS => Jj XU3 rfl rfl (JG (hS.rd (i := 1) rfl) o57) rfl <| Ja ⟨rfl, Jd _⟩, oD, oD, fun _ _ _ => Jg Jo XE3 (hS.rom' hb hapb) rfl rfl o62 rfl <| Ja ⟨rfl, rfl⟩, og hS fun _ _ hS => Jj XU3 rfl rfl (JG (hS.rom' hb hapb) o62) rfl <| Ja ⟨rfl, Jd _⟩, oD, fun _ _ _ => WL.mul (r := ((gi b z34) * (gi a z46))) rfl rfl (wr o66) rfl <| Ja ⟨rfl, rfl⟩, fun _ _ _ => WL.add (r := ((gi x45 z46) + ((gi b z34) * (gi a z46)))) rfl rfl (wr o68) rfl <| Ja ⟨rfl, rfl⟩, fun _ _ _ => Je (off := 0) J2 rfl rfl <| Ja ⟨rfl, rfl⟩, og hS fun _ _ hS => Jm 0 0 XU3 hS rfl rfl rfl ⟨rfl, rfl⟩ <| Ja ⟨rfl, Jd _⟩, fun _ _ _ => Qa (r := (((gi x45 z46) + ((gi b z34) * (gi a z46))).tmod Pf)) rfl rfl o72 rfl rfl <| Ja ⟨rfl, rfl⟩, trivial⟩
   intro w73 hT; have hS := hS.grow hT; refine Jn 16 rfl ?_; obtain ⟨o74, hv⟩ := hv; refine Jg Jo XE3 (hS.rd (i := 1) rfl) rfl rfl o74 rfl <| Ja <| Jn 17 rfl <| JB (cs' := is (si x45 z46 (((gi x45 z46) + ((gi b z34) * (gi a z46))).tmod Pf))) 1 z46.toNat hS rfl XE3 rfl rfl rfl (Qu (hS.rd (i := 1) rfl) o74) (J9 _ _ _) ?_; intro w75 hS; refine Ja <| JL <| Jt ?_; obtain ⟨o76, hv⟩ := hv; refine WL.add (r := (z46 + 1)) rfl rfl (wr o76) rfl <| Jb 2 ?_; exact ⟨(si x45 z46 (((gi x45 z46) + ((gi b z34) * (gi a z46))).tmod Pf), (z46 + 1)), sp rfl, hv.2, rfl, hv.1, hS⟩
  have hv := hv.2 (oF c50); refine Ju <| Jc 2 ?_; obtain ⟨o77, hv⟩ := hv; refine WL.sub (r := (z34 - 1)) rfl rfl (wr o77) rfl <| Jb 2 ?_; exact ⟨(x45, (z34 - 1)), sp rfl, hv.2, rfl, hv.1, hS⟩
 have hv := hv.2 (oF c38); refine Ju <| ⟨_, rfl, Fin.nil ?_⟩
 exact ⟨_, hS.ext, hS.own (i := 1) rfl, x33, rfl, rfl, hv⟩
def Jb6 (Pf : Int) (Mf : Int) (mf : LI) (x : Int) (Q : LI -> Prop) : Prop :=
  ZD Pf Mf mf (fun r14 => (0 <= r14 /\ r14 * 8 <= 281474976710656 /\ r14 <= 281474976710656) /\ ((((0 : Nat) + (1 : Nat) : Int) * 8 <= 140737488355328) /\ (∃ (x32 : LI), Zh Pf Mf x (fun q => q = x32) /\ (∃ (x46 : LI), Zh Pf Mf x (fun q => q = x46) /\ ((0 <= Mf /\ Mf * 8 <= 281474976710656 /\ Mf <= 281474976710656) /\ (∃ (I119 : LI -> Int -> LI -> LI -> Prop) (μ120 : LI -> Int -> LI -> LI -> Nat), I119 (([] : LI) ++ ([(1 : Int)] : LI)) x x46 (List.replicate Mf.toNat (0 : Int)) /\ ∀ (x107 : LI) (z110 : Int) (x111 : LI) (x115 : LI), (I119 x107 z110 x111 x115 -> (((z110 ≠ 1) -> ((((x107.length : Nat) + (1 : Nat) : Int) * 8 <= 140737488355328) /\ (Jam Pf Mf mf x115 x111 x32 (fun x131 => YB Pf x131 (fun r133 => I119 (x107 ++ ([z110] : LI)) r133 x131 x111 /\ μ120 (x107 ++ ([z110] : LI)) r133 x131 x111 < μ120 x107 z110 x111 x115))))) /\ (¬ (z110 ≠ 1) -> Q x107)))))))))
theorem Jq3 {w : World} {Q : LI -> Prop} {Pf : Int} {Mf : Int} {mf : LI} {x : Int} {Bf : Nat} {Af : Option Addr} {nf kf : Nat} (hf : Rd Bf w 1 Af nf kf (is mf)) (hv : Jb6 Pf Mf mf x Q) :
   Calls Tryz.prog 131 #[.agg #[.int .i64 Pf, .int .i64 Mf, .slice Af nf kf], .int .i64 x] w <| Rt w fun v Qr => ∃ (x : LI)  (A : Option Addr) (c : Nat), v = .slice A x.length c /\ Qr = [.row 3 1 A x.length c (is x)] /\ Q x := by
 have hnf := hf.ilen; subst hnf; refine Jk <| Jh (vs := [.agg #[nI Pf, nI Mf, nS Af mf kf], nI x]) [4] XF131 rfl rfl rfl rfl ?_; have hS := Jp w; unfold Jb6 at hv; refine Jc 2 <| JC (z := 3) (cs := [nI Pf, nI Mf, nS Af mf kf]) hS rfl rfl rfl rfl ?_; intro g11 w12 hS; refine Jb 2 <| Jc 2 <| JF 0 JY J1 hS rfl ⟨rfl, rfl⟩ rfl <| SL.call hS (ZM (hS.ro hf) hv) Jr2 rfl XN52 rfl rfl ?_; rintro _ _ w13 ⟨r14, rfl, rfl, hv⟩ hGw13 hS; have hS := hS.n0; obtain ⟨o15, hv⟩ := hv; refine Jxo (J := r14) (cs := is []) hS Jo XE3 rfl rfl o15 rfl rfl ?_; intro A16 w17 hS; refine Jb 2 <| Jc 3 <| QG (vs := is ([(1 : Int)] : LI)) hS Jo XE3 rfl rfl rfl rfl (Qo _) rfl ?_; intro A19 w20 hS; obtain ⟨o22, hv⟩ := hv; refine SL.append (cs := is ([] : LI)) (cs' := is ([(1 : Int)] : LI)) 1 ((([] : LI) ++ ([(1 : Int)] : LI)).length) (is (([] : LI) ++ ([(1 : Int)] : LI))) hS rfl Jo XE3 (hS.rd (i := 0) rfl) (Qo _) rfl rfl (apk o22).1 (apk o22).2 (Ja2 (hS.rd (i := 1) rfl) (hS.rd (i := 0) rfl)) (Qk _ _) rfl ?_; intro A23 k24 w25 hS; refine Jb 2 <| Js ?_; obtain ⟨x32, o39, hv⟩ := hv; obtain ⟨x46, o53, hv⟩ := hv; obtain ⟨o57, hv⟩ := hv; have hS0 := hS; refine QN 18 (fun iA => [false, false, false, false, false, true, false, false, false, false, false, true, false, false, true, false, false, false].getD iA false) (fun iC => match iC with | 15 => some 5 | 16 => some 11 | 17 => some 14 | _ => none) (fun _ v u => u = v) [⟨[], [2], true⟩, ⟨[0], [], false⟩, ⟨[], [2], true⟩, ⟨[2], [], false⟩, ⟨[], [1], true⟩, ⟨[1, 3, 4], [], false⟩, ⟨[], [2], true⟩, ⟨[6], [], false⟩, ⟨[], [2], true⟩, ⟨[8], [], false⟩, ⟨[], [1], true⟩, ⟨[7, 9, 10], [], false⟩, ⟨[], [2], true⟩, ⟨[12], [], false⟩, ⟨[13], [], false⟩, ⟨[5], [], true⟩, ⟨[11], [], true⟩, ⟨[14], [], true⟩] [.k 15 (nP g11), .k 16 (nI Pf), .k 17 (.pointer (some ((⟨g11, 0, none⟩ : Addr).add 1))), .k 18 (nI Mf), .k 19 (nI x), eS w25 20 3 x32.length (is x32), .k 21 (nP g11), .k 22 (nI Pf), .k 23 (.pointer (some ((⟨g11, 0, none⟩ : Addr).add 1))), .k 24 (nI Mf), .k 25 (nI x), eS w25 26 3 x46.length (is x46), .k 27 (.pointer (some ((⟨g11, 0, none⟩ : Addr).add 1))), .k 28 (nI Mf), eS w25 29 3 Mf.toNat (is (List.replicate Mf.toNat (0 : Int))), eS w25 6 3 x32.length (is x32), eS w25 7 3 x46.length (is x46), eS w25 8 3 Mf.toNat (is (List.replicate Mf.toNat (0 : Int)))] (fun _ => vbD) Jr (by kernel_rfl) rfl rfl (fun _ _ _ _ _ _ _ h => h) ?_ ?_
 . refine ⟨fun _ _ _ => Je (off := 0) J2 rfl rfl <| Ja ⟨rfl, rfl⟩, og hS fun _ _ hS => Jm 2 0 XU3 hS rfl rfl rfl ⟨rfl, rfl⟩ <| Ja ⟨rfl, Jd _⟩, fun _ _ _ => Je (off := 1) Qf rfl rfl <| Ja ⟨rfl, rfl⟩, og hS fun _ _ hS => Jm 2 1 XU3 hS rfl rfl rfl ⟨rfl, rfl⟩ <| Ja ⟨rfl, Jd _⟩, oC, ?_, fun _ _ _ => Je (off := 0) J2 rfl rfl <| Ja ⟨rfl, rfl⟩, og hS fun _ _ hS => Jm 2 0 XU3 hS rfl rfl rfl ⟨rfl, rfl⟩ <| Ja ⟨rfl, Jd _⟩, fun _ _ _ => Je (off := 1) Qf rfl rfl <| Ja ⟨rfl, rfl⟩, og hS fun _ _ hS => Jm 2 1 XU3 hS rfl rfl rfl ⟨rfl, rfl⟩ <| Ja ⟨rfl, Jd _⟩, oC, ?_, fun _ _ _ => Je (off := 1) Qf rfl rfl <| Ja ⟨rfl, rfl⟩, og hS fun _ _ hS => Jm 2 1 XU3 hS rfl rfl rfl ⟨rfl, rfl⟩ <| Ja ⟨rfl, Jd _⟩, ?_, ?_, ?_, ?_, trivial⟩
   .intro w31 hE; have hE := hE rfl; have hS := hS.grow hE; intro RR; refine WL.call XF90 rfl XN90 rfl rfl (JJ (Jco  o39)) ?_; rintro _ w36 ⟨_, hGw36, hRww36, hNww36, x32q, A33, k34, rfl, rfl, he⟩; subst he; have hO37 := (hRww36.get (i := 0) rfl).1; have hN38 : ∀ g, bl A33 = some g -> _ <= g := fun g hg => Nat.le_trans hE.size (hNww36.1 g hg); exact Ja ⟨_, rfl, hGw36, ⟨A33, k34, rfl, hO37, hN38⟩, (fun _ => fun g hg => ⟨hNww36.1 g hg, (hO37.bl_ge g hg).2⟩), (fun j h => by cases h)⟩
   .intro w45 hE; have hE := hE rfl; have hS := hS.grow hE; intro RR; refine WL.call XF90 rfl XN90 rfl rfl (JJ (Jco  o53)) ?_; rintro _ w50 ⟨_, hGw50, hRww50, hNww50, x46q, A47, k48, rfl, rfl, he⟩; subst he; have hO51 := (hRww50.get (i := 0) rfl).1; have hN52 : ∀ g, bl A47 = some g -> _ <= g := fun g hg => Nat.le_trans hE.size (hNww50.1 g hg); exact Ja ⟨_, rfl, hGw50, ⟨A47, k48, rfl, hO51, hN52⟩, (fun _ => fun g hg => ⟨hNww50.1 g hg, (hO51.bl_ge g hg).2⟩), (fun j h => by cases h)⟩
   .intro w56 hE; have hE := hE rfl; have hS := hS.grow hE; intro RR; refine Jkx (J := Mf) Jo XE3 rfl rfl o57 (Qz _) rfl ?_; intro A58 k62 w59 hO60 hN61g hGw59; have hN61 : ∀ g, bl A58 = some g -> _ <= g := fun g hg => Nat.le_trans hE.size (hN61g g hg); exact Ja ⟨_, rfl, hGw59, ⟨A58, k62, rfl, hO60, hN61⟩, (fun _ => fun g hg => ⟨hN61g g hg, (hO60.bl_ge g hg).2⟩), (fun j h => by cases h)⟩
   .intro w63 hE; rintro _ ⟨A33_5, k34_5, rfl, hO37_5, hN38_5⟩; intro RR; refine JT rfl rfl ?_; exact Ja ⟨_, rfl, rfl, ⟨A33_5, k34_5, rfl, hO37_5, hN38_5⟩, (fun h => absurd h (by decide)), (fun j h => by cases h; exact ⟨_, rfl, rfl⟩)⟩
   .intro w64 hE; rintro _ ⟨A47_11, k48_11, rfl, hO51_11, hN52_11⟩; intro RR; refine JT rfl rfl ?_; exact Ja ⟨_, rfl, rfl, ⟨A47_11, k48_11, rfl, hO51_11, hN52_11⟩, (fun h => absurd h (by decide)), (fun j h => by cases h; exact ⟨_, rfl, rfl⟩)⟩
   intro w65 hE; rintro _ ⟨A58_14, k62_14, rfl, hO60_14, hN61_14⟩; intro RR; refine JT rfl rfl ?_; exact Ja ⟨_, rfl, rfl, ⟨A58_14, k62_14, rfl, hO60_14, hN61_14⟩, (fun h => absurd h (by decide)), (fun j h => by cases h; exact ⟨_, rfl, rfl⟩)⟩
 intro vals w66 hT hVs hAp hCp; have hS := hS.grow hT; obtain ⟨A33_5, k34_5, hv5, hO37_5, hN38_5⟩ := hVs 5 (by decide); obtain ⟨A47_11, k48_11, hv11, hO51_11, hN52_11⟩ := hVs 11 (by decide); obtain ⟨A58_14, k62_14, hv14, hO60_14, hN61_14⟩ := hVs 14 (by decide); have hv15 : vals 15 = nS A33_5 x32 k34_5 := (hCp 15 5 (by decide) rfl).trans hv5; have hv16 : vals 16 = nS A47_11 x46 k48_11 := (hCp 16 11 (by decide) rfl).trans hv11; have hv17 : vals 17 = .slice A58_14 Mf.toNat k62_14 := (hCp 17 14 (by decide) rfl).trans hv14; have hS := Ql [] hS0 hS hO37_5 hN38_5 (fun s hs => by cases hs); have hap11_5 : ∀ g, (.row 3 1 A47_11 x46.length k48_11 (is x46) : Rw).at_ g -> ¬ (.row 3 1 A33_5 x32.length k34_5 (is x32) : Rw).at_ g := by have h_ := hAp 11 5 (by decide) (by decide) (by decide) rfl rfl; rw [hv11, hv5] at h_; exact fun g h1 h2 => h_ g h1 h2
 have hS := Ql [nR 3 A33_5 x32 k34_5] hS0 hS hO51_11 hN52_11 (by intro s hs g hg; simp only [List.mem_cons, List.not_mem_nil, or_false] at hs; obtain rfl := hs; exact hap11_5 g hg); have hap14_11 : ∀ g, (.row 3 1 A58_14 Mf.toNat k62_14 (is (List.replicate Mf.toNat (0 : Int))) : Rw).at_ g -> ¬ (.row 3 1 A47_11 x46.length k48_11 (is x46) : Rw).at_ g := by have h_ := hAp 14 11 (by decide) (by decide) (by decide) rfl rfl; rw [hv14, hv11] at h_; exact fun g h1 h2 => h_ g h1 h2
 have hap14_5 : ∀ g, (.row 3 1 A58_14 Mf.toNat k62_14 (is (List.replicate Mf.toNat (0 : Int))) : Rw).at_ g -> ¬ (.row 3 1 A33_5 x32.length k34_5 (is x32) : Rw).at_ g := by have h_ := hAp 14 5 (by decide) (by decide) (by decide) rfl rfl; rw [hv14, hv5] at h_; exact fun g h1 h2 => h_ g h1 h2
 have hS := Ql [nR 3 A47_11 x46 k48_11, nR 3 A33_5 x32 k34_5] hS0 hS hO60_14 hN61_14 (by intro s hs g hg; simp only [List.mem_cons, List.not_mem_nil, or_false] at hs; rcases hs with rfl | rfl <;> first | exact hap14_11 g hg | exact hap14_5 g hg); refine Za [(5, nS A33_5 x32 k34_5), (11, nS A47_11 x46 k48_11), (14, .slice A58_14 Mf.toNat k62_14), (15, nS A33_5 x32 k34_5), (16, nS A47_11 x46 k48_11), (17, .slice A58_14 Mf.toNat k62_14)] ⟨hv5, hv11, hv14, hv15, hv16, hv17, trivial⟩ <| JL <| Js <| W.block ?_; obtain ⟨I119, μ120, hv, hk134⟩ := hv; have hS := hS.pick [1, 0, 2, 3, 4, 5] rfl; have hm1 : Mf.toNat = (List.replicate Mf.toNat (0 : Int)).length := (hS.rd (i := 1) rfl).ilen.symm; have hS := hS.relen (i := 1) rfl hm1
 change St _ _ _ _ [_, _, _, _, _, _] at hS
 refine Jz (σ := LI × Int × LI × LI × Option Addr × Nat × Option Addr × Nat × Option Addr × Nat) (fun q w1 => match q with | (x107, z110, x111, x115, A108, k109, A112, k113, A116, k117) => I119 x107 z110 x111 x115 /\ St TT w none w1 [nR 3 A112 x111 k113, nR 3 A116 x115 k117, nR 3 A33_5 x32 k34_5, .row 3 1 A19 1 1 (is ([(1 : Int)] : LI)), nR 3 A108 x107 k109, .row 24 3 (nA g11) 1 1 [nI Pf, nI Mf, nS Af mf kf]]) (fun (x107, z110, x111, x115, A108, k109, A112, k113, A116, k117) => [(1, nI z110), (2, nP g11), (4, .slice none 0 0), (5, nS A108 x107 k109), (6, nS A33_5 x32 k34_5), (7, nS A112 x111 k113), (8, nS A116 x115 k117)]) (fun (x107, z110, x111, x115, A108, k109, A112, k113, A116, k117) => μ120 x107 z110 x111 x115) (([] : LI) ++ ([(1 : Int)] : LI), x, x46, List.replicate Mf.toNat (0 : Int), A23, k24, A47_11, k48_11, A58_14, k62_14) ⟨hv, hS⟩ ⟨rfl, rfl, rfl, rfl, rfl, rfl, (sm (by first | rfl | assumption | omega)), trivial⟩ ?_; rintro ⟨x107, z110, x111, x115, A108, k109, A112, k113, A116, k117⟩ w121 ⟨hv, hS⟩; have hv := hk134 x107 z110 x111 x115 hv; refine Jc 6 <| Jf rfl (fun c122 => ?_) (fun c122 => ?_)
 .have hv := hv.1 (oT c122); refine Ji <| W.block <| Jc 4 <| QG (vs := is ([z110] : LI)) hS Jo XE3 rfl rfl rfl rfl (Qo _) rfl ?_; intro A123 w124 hS; obtain ⟨o126, hv⟩ := hv; refine SL.append (cs := is x107) (cs' := is ([z110] : LI)) 5 ((x107 ++ ([z110] : LI)).length) (is (x107 ++ ([z110] : LI))) hS rfl Jo XE3 (hS.rd (i := 0) rfl) (Qo _) rfl rfl (apk o126).1 (apk o126).2 (Ja2 (hS.rd (i := 5) rfl) (hS.rd (i := 0) rfl)) (Qk _ _) rfl ?_; intro A127 k128 w129 hS; refine Jb 2 <| Jc 2 <| JF 6 JY J1 hS rfl ⟨rfl, rfl⟩ rfl <| Jb 3 <| SL.callm 2 hS rfl (Jlt (hS.own (i := 2) rfl) (hS.ro hf) (hS.rd (i := 1) rfl) (hS.rd (i := 3) rfl) (hS.aptRo (i := 2) rfl hf) (hS.aptRow (i := 2) (j := 1) (by decide) rfl rfl) (hS.aptRow (i := 2) (j := 3) (by decide) rfl rfl) hv) XF138 rfl XN138 rfl rfl ?_; rintro _ _ w130 ⟨x131, rfl, rfl, hv⟩ hS; refine Ja <| Jc 8 <| Je (off := 0) J2 rfl rfl <| Jm 6 0 XU3 hS rfl rfl rfl ⟨rfl, rfl⟩ <| Jl rfl rfl <| SL.call hS (Jfl (hS.rd (i := 2) rfl) hv) XF139 rfl XN139 rfl rfl ?_; rintro _ _ w132 ⟨r133, rfl, rfl, hv⟩ hGw132 hS; have hS := hS.n0; refine Jb 2 ?_; have hS := hS.pick [2, 1, 3, 4, 5, 6] rfl; have hm0 : x115.length = x131.length := (hS.rd (i := 0) rfl).ilen.symm; have hS := hS.relen (i := 0) rfl hm0
  change St _ _ _ _ [_, _, _, _, _, _] at hS
  exact ⟨(x107 ++ ([z110] : LI), r133, x131, x111, A127, k128, A116, k117, A112, k113), ⟨rfl, rfl, rfl, rfl, rfl, (sm (by first | rfl | assumption | omega)), rfl, trivial⟩, hv.2, rfl, hv.1, hS⟩
 have hv := hv.2 (oF c122); refine Ju <| Jc 5 <| W.ret <| ⟨_, rfl, Fin.nil ?_⟩
 exact (hS.pick [4] rfl).fin rfl ⟨x107, A108, k109, rfl, rfl, hv⟩
def Jd0 (Fg : GFv) (Q : LI -> Prop) : Prop :=
  (0 <= Fg.q /\ Fg.q * 1 <= 281474976710656 /\ Fg.q <= 281474976710656) /\ ((0 <= (0 : Int) /\ (0 : Int) < (Fg.q.toNat : Nat)) /\ (Jbe Fg (fun _ => I64 Fg.q /\ ∃ (I42 : Nat -> LI -> List Bool -> Prop) (J43 : LI -> List Bool -> Prop), I42 0 ([] : LI) (sb (List.replicate Fg.q.toNat false) (0 : Int) true) /\ (∀ i26 : Nat, i26 < Fg.q.toNat -> ∀ (x37 : LI) (x41 : List Bool), I42 i26 x37 x41 -> ((0 <= (i26 : Int) /\ (i26 : Int) < (Fg.q.toNat : Nat)) /\ ((((gb x41 (i26 : Int)) = true) -> (I42 (i26 + 1) x37 x41)) /\ ((gb x41 (i26 : Int)) = false -> (Jb6 Fg.P Fg.M Fg.mod (i26 : Int) (fun x48 => (I64 (Fg.q - 1)) /\ ((((x48.length : Int) = (Fg.q - 1)) -> J43 x48 x41) /\ (¬ ((x48.length : Int) = (Fg.q - 1)) -> (∃ (I70 : List Bool -> Int -> Prop) (μ71 : List Bool -> Int -> Nat), I70 x41 (0 : Int) /\ ∀ (x68 : List Bool) (z69 : Int), (I70 x68 z69 -> (((z69 < (x48.length : Int)) -> ((0 <= z69 /\ z69 < (x48.length : Nat)) /\ ((0 <= (gi x48 z69) /\ (gi x48 z69) < (Fg.q.toNat : Nat)) /\ ((I64 (z69 + 1)) /\ (I70 (sb x68 (gi x48 z69) true) (z69 + 1) /\ μ71 (sb x68 (gi x48 z69) true) (z69 + 1) < μ71 x68 z69))))) /\ (¬ (z69 < (x48.length : Int)) -> (I42 (i26 + 1) x48 x68))))))))))))) /\ (∀ (x37 : LI) (x41 : List Bool), I42 Fg.q.toNat x37 x41 -> Q x37) /\ (∀ (x37 : LI) (x41 : List Bool), J43 x37 x41 -> Q x37))))
theorem Jvk {w : World} {Q : LI -> Prop} {Fg : GFv} {ag : Addr} {Bg : Nat} (hgg : GFR Bg w ag Fg) (hv : Jd0 Fg Q) :
   Calls Tryz.prog 104 #[.pointer (some ag)] w <| Rt w fun v Qr => ∃ (x : LI)  (A : Option Addr) (c : Nat), v = .slice A x.length c /\ Qr = [.row 3 1 A x.length c (is x)] /\ Q x := by
 have hgg_ := hgg; obtain ⟨Ag_mod, kg_mod, Ag_exp, kg_exp, Ag_log, kg_log, Ag_above, kg_above, hg_c, hg_mod, hg_exp, hg_log, hg_above⟩ := hgg_; refine Jk <| Jh (vs := [.pointer (some ag)]) [2] XF104 rfl rfl rfl rfl ?_; have hS := Jp w; unfold Jd0 at hv; refine Jc 2 <| JC (z := 1) (cs := [.pointer (some ag)]) hS rfl rfl rfl rfl ?_; intro g11 w12 hS; refine Jb 2 <| Jc 2 <| Jm 0 0 Jdl hS rfl rfl rfl ⟨rfl, rfl⟩ <| QK rfl rfl <| Je (off := 3) Zz rfl rfl <| Jj XU3 rfl rfl (Rd.at_ (hS.ro hg_c) (j := 3) rfl) rfl ?_; obtain ⟨o13, hv⟩ := hv; refine Qj (J := Fg.q) hS Je8 XE4 rfl rfl o13 (Jyt _) rfl ?_; intro A14 w15 hS; refine SL.alloc (cs := [.slice none 0 0]) hS XE134 rfl rfl ?_; intro g17 w18 hS; refine JB (cs' := [.slice A14 Fg.q.toNat Fg.q.toNat]) 0 0 hS rfl XE134 rfl rfl rfl (QS rfl) rfl ?_; intro w19 hS; refine Ja <| Jc 2 <| Jm 0 0 Je8 hS rfl rfl rfl ⟨rfl, rfl⟩ ?_; obtain ⟨o20, hv⟩ := hv; refine Jg Je8 XE4 (hS.rd (i := 1) rfl) rfl rfl o20 rfl <| JB (cs' := bs (sb (List.replicate Fg.q.toNat false) (0 : Int) true)) 1 (0 : Int).toNat hS rfl XE4 rfl rfl rfl (bs_lt (hS.rd (i := 1) rfl) o20) (Jwl _ _ _) ?_; intro w21 hS; refine Ja <| Jc 2 <| SL.alloc (cs := [.slice none 0 0]) hS Jw rfl rfl ?_; intro g22 w23 hS; refine Ja <| Jc 3 <| Jm 3 0 Jdl hS rfl rfl rfl ⟨rfl, rfl⟩ <| SL.call hS (Jje (GFR.ext (GFR.norm hgg) hS.ext) hv) XF130 rfl XN130 rfl rfl ?_; rintro _ _ w24 ⟨g25, rfl, rfl, hv⟩ hGw24 hS; have hS := hS.n1; refine Ja <| W.block ?_; obtain ⟨o85, hv⟩ := hv; obtain ⟨I42, J43, hv, hk82, hd83, hx84⟩ := hv; have hS := hS.nil (e := 3) (z := 1); have hm0 : 0 = ([] : LI).length := (hS.rd (i := 0) rfl).ilen.symm; have hS := hS.relen (i := 0) rfl hm0
 change St _ _ _ _ [_, _, _, _, _, _] at hS
 refine Jkw (σ := LI × List Bool × Option Addr × Nat) (fun i q => match q with | (x37, x41, A38, k39) => I42 i x37 x41) (fun (x37, x41, A38, k39) => [.row 3 1 A38 x37.length k39 (is x37), .row 85 1 (some ⟨g25, 0, none⟩) 1 1 [.pointer (some ag)], .row 22 1 (some ⟨g22, 0, none⟩) 1 1 [.slice A38 x37.length k39], .row 134 1 (some ⟨g17, 0, none⟩) 1 1 [.slice A14 Fg.q.toNat Fg.q.toNat], .row 4 1 A14 Fg.q.toNat Fg.q.toNat (bs x41), .row 85 1 (some ⟨g11, 0, none⟩) 1 1 [.pointer (some ag)]]) (fun e q => match e, q with | .exit 0, (x37, x41, A38, k39) => J43 x37 x41 | _, _ => False) (fun vs => [(1, .pointer (some ⟨g11, 0, none⟩)), (2, .slice none 0 0), (3, .pointer (some ⟨g17, 0, none⟩)), (4, .pointer (some ⟨g22, 0, none⟩)), (5, vs.getD 0 undef)]) (([] : LI), sb (List.replicate Fg.q.toNat false) (0 : Int) true, none, 0) hS hv (fun q => by obtain ⟨x37, x41, A38, k39⟩ := q; exact trivial) rfl XF137 rfl XN137 (Jhr o85 (JE (hS.own (i := 1) rfl) 0 _ rfl) (Rd.at_ (hS.ro hg_c) (j := 3) rfl)) (Below.refl _ _) (fun _ _ _ h => by rw [h]; rfl) (fun _ _ _ _ _ h _ _ => h) (by decide) (fun _ _ _ _ _ => trivial) ?_ ?_ ?_ ?_
 .intro lq vsq W1q hlq
  match vsq, hlq with
  | [a0], _ =>
    refine Jc 3 ?_; exact ⟨rfl, rfl, sp rfl⟩
 .rintro lq i26 _ ⟨x37, x41, A38, k39⟩ w44 hi rfl hI hS; have hv := hk82 i26 hi x37 x41 hI; refine W.block <| Jc 3 <| Jm 3 0 Je8 hS rfl rfl rfl ⟨rfl, rfl⟩ <| Jl rfl rfl ?_; obtain ⟨o45, hv⟩ := hv; refine Jg Je8 XE4 (hS.rd (i := 4) rfl) rfl rfl o45 rfl <| Jj XU4 rfl rfl (Rd.gb (hS.rd (i := 4) rfl) o45) rfl <| Ja <| Jf rfl (fun c46 => ?_) (fun c46 => ?_)
  .have hv := hv.1 (c46); refine Ju ?_; exact ⟨(x37, x41, A38, k39), hv, hS⟩
  have hv := hv.2 (c46); refine Ji <| Jc 2 <| Jm 5 0 Jdl hS rfl rfl rfl ⟨rfl, rfl⟩ <| QK rfl rfl <| Je (off := 0) Jh5 rfl rfl <| QB (cs := [nI Fg.P, nI Fg.M, nS Ag_mod Fg.mod kg_mod]) JY J1 rfl rfl (ZI (hS.ro hg_c) 0 rfl) rfl <| Jl rfl rfl <| SL.call hS (Jq3 (hS.ro hg_mod) hv) XF131 rfl XN131 rfl rfl ?_; rintro _ _ w47 ⟨x48, A49, k50, rfl, rfl, hv⟩ hGw47 hS; have hS := hS.n1; refine JB (cs' := [nS A49 x48 k50]) 3 0 hS rfl Jw rfl rfl rfl (QS rfl) rfl ?_; intro w52 hS; refine Ja <| Jc 2 ?_; obtain ⟨o60, hv⟩ := hv; refine JN 8 [⟨[], [4], false⟩, ⟨[0], [], true⟩, ⟨[], [1], false⟩, ⟨[2], [], true⟩, ⟨[3], [], true⟩, ⟨[4], [], false⟩, ⟨[5], [], true⟩, ⟨[1, 6], [], true⟩] [(28, nS A49 x48 k50), (29, nI (x48.length : Int)), (30, .pointer (some ag)), (31, .pointer (some ag)), (32, .pointer (some (ag.add 3))), (33, nI Fg.q), (34, nI (Fg.q - 1)), (35, .bool (decide ((x48.length : Int) = (Fg.q - 1))))] Jr (by kernel_rfl) rfl rfl ?_ ?_
  . refine ⟨og hS fun _ _ hS => Jm 3 0 Jo hS rfl rfl rfl ⟨rfl, rfl⟩ <| Ja ⟨rfl, Jd _⟩, fun _ _ _ => WL.len Jo rfl rfl <| Ja ⟨rfl, rfl⟩, og hS fun _ _ hS => Jm 6 0 Jdl hS rfl rfl rfl ⟨rfl, rfl⟩ <| Ja ⟨rfl, Jd _⟩, oD, fun _ _ _ => Je (off := 3) Zz rfl rfl <| Ja ⟨rfl, rfl⟩, og hS fun _ _ hS => Jj XU3 rfl rfl (Rd.at_ (hS.ro hg_c) (j := 3) rfl) rfl <| Ja ⟨rfl, Jd _⟩, fun _ _ _ => WL.sub (r := (Fg.q - 1)) rfl rfl (wr o60) rfl <| Ja ⟨rfl, rfl⟩, oD, trivial⟩
  intro w62 hT; have hS := hS.grow hT; refine JL <| Jf rfl (fun c63 => ?_) (fun c63 => ?_)
  .have hv := hv.1 (oT c63); refine Ju ?_; have hS := hS.pick [0, 2, 3, 4, 5, 6] rfl; exact ⟨(x48, x41, A49, k50), rfl, hv, hS⟩
  have hv := hv.2 (oF c63); refine Ji <| Jc 2 <| Jm 3 0 Jo hS rfl rfl rfl ⟨rfl, rfl⟩ <| WL.len Jo rfl rfl <| Jb 2 <| W.block ?_; obtain ⟨I70, μ71, hv, hk78⟩ := hv; refine Jz (σ := List Bool × Int) (fun q w1 => match q with | (x68, z69) => I70 x68 z69 /\ St (KO w44) w none w1 [nR 3 A49 x48 k50, nR 3 A38 x37 k39, nV 85 g25 (.pointer (some ag)), nV 22 g22 (nS A49 x48 k50), nV 134 g17 (.slice A14 Fg.q.toNat Fg.q.toNat), .row 4 1 A14 Fg.q.toNat Fg.q.toNat (bs x68), nV 85 g11 (.pointer (some ag))]) (fun (x68, z69) => [(1, nP g11), (2, .slice none 0 0), (3, nP g17), (4, nP g22), (5, nI (i26 : Int)), (21, .bool (gb x41 (i26 : Int))), (35, .bool (decide ((x48.length : Int) = (Fg.q - 1)))), (36, nS A49 x48 k50), (37, nI (x48.length : Int)), (38, nI z69)]) (fun (x68, z69) => μ71 x68 z69) (x41, (0 : Int)) ⟨hv, hS⟩ ⟨rfl, rfl, rfl, rfl, rfl, rfl, rfl, rfl, rfl, rfl, trivial⟩ ?_; rintro ⟨x68, z69⟩ w72 ⟨hv, hS⟩; have hv := hk78 x68 z69 hv; refine Jc 5 <| Jf rfl (fun c73 => ?_) (fun c73 => ?_)
  .have hv := hv.1 (oT c73); refine Ji <| Js <| W.block <| Jc 2 ?_; obtain ⟨o74, hv⟩ := hv; refine Jg Jo XE3 (hS.rd (i := 0) rfl) rfl rfl o74 rfl <| Jj XU3 rfl rfl (JG (hS.rd (i := 0) rfl) o74) rfl <| Jb 2 <| Jt <| Jm 4 0 Je8 hS rfl rfl rfl ⟨rfl, rfl⟩ <| Jl rfl rfl ?_; obtain ⟨o75, hv⟩ := hv; refine Jg Je8 XE4 (hS.rd (i := 5) rfl) rfl rfl o75 rfl <| JB (cs' := bs (sb x68 (gi x48 z69) true)) 5 (gi x48 z69).toNat hS rfl XE4 rfl rfl rfl (bs_lt (hS.rd (i := 5) rfl) o75) (Jwl _ _ _) ?_; intro w76 hS; refine Ja <| Jt ?_; obtain ⟨o77, hv⟩ := hv; refine WL.add (r := (z69 + 1)) rfl rfl (wr o77) rfl <| Jb 2 ?_; exact ⟨(sb x68 (gi x48 z69) true, (z69 + 1)), sp rfl, hv.2, rfl, hv.1, hS⟩
  have hv := hv.2 (oF c73); refine Ju ?_; have hS := hS.pick [0, 2, 3, 4, 5, 6] rfl; exact ⟨(x48, x68, A49, k50), hv, hS⟩
 .rintro D79 ⟨x37, x41, A38, k39⟩ w80 hv hD hS; have hv := hd83 x37 x41 hv; refine Jc 2 <| Jm 3 0 Jo hS rfl rfl rfl ⟨rfl, rfl⟩ <| Jb 2 <| W.ret ?_; have hS := hS.pick [0, 1] rfl; obtain ⟨hDD79, hS⟩ := hS.taken trivial; refine ⟨_, rfl, Fin.cons hDD79 (Fin.nil ?_)⟩; exact (hS.pick [0] rfl).fin rfl ⟨x37, A38, k39, rfl, rfl, hv⟩
 rintro D79 e ⟨x37, x41, A38, k39⟩ w80 he hv hD hS; cases e with
 | exit id =>
   by_cases hid : id = 0
   .subst hid; have hv := hx84 x37 x41 hv; refine Jc 2 <| Jm 3 0 Jo hS rfl rfl rfl ⟨rfl, rfl⟩ <| Jb 2 <| W.ret ?_; have hS := hS.pick [0, 1] rfl; obtain ⟨hDD79, hS⟩ := hS.taken trivial; refine ⟨_, rfl, Fin.cons hDD79 (Fin.nil ?_)⟩; exact (hS.pick [0] rfl).fin rfl ⟨x37, A38, k39, rfl, rfl, hv⟩
   exact absurd hv (by simp [hid])
 | ret => exact hv.elim
 | _ => simp [QC] at he
end Go.Proofs.YtjgpkljepgcekaaGreat
