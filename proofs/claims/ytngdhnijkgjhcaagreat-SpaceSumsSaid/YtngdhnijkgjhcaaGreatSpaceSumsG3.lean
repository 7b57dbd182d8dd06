/- Contracts of functions of the program, and what they lean on: Nt, Xl, Facts, Ab, D1, It, Gf, D2, D3. -/
import Derived.Test.YtngdhnijkgjhcaaGreatSpaceSumsG2
import Derived.Test.YtngdhnijkgjhcaaGreatProg
set_option linter.unusedSimpArgs false
set_option linter.unusedVariables false
namespace Go.Proofs.YtngdhnijkgjhcaaGreat
open Go.RowKit
abbrev nI (x : Int) : Value := .int .i64 x
abbrev nA (g : Nat) : Option Addr := some ⟨g, 0, none⟩
abbrev nP (g : Nat) : Value := .pointer (some ⟨g, 0, none⟩)
abbrev nS {α : Type} (A : Option Addr) (x : List α) (k : Nat) : Value := .slice A x.length k
abbrev nR (e : Nat) (A : Option Addr) (x : List Int) (k : Nat) : Rw := .row e 1 A x.length k (is x)
abbrev nV (e g : Nat) (v : Value) : Rw := .row e 1 (some ⟨g, 0, none⟩) 1 1 [v]
section
variable {P : Program} {n : Nat} {ro : Option Nat} {df : List Deferred} {N : Qo} {L : Fr} {w w0 : World} {ops : Array Oper} {rest : List Oper}
variable {d : Nat} {ty : TypeId} {pos : String} {af : Array Edge} {X : World -> Prop} {mr : Option Nat} {R : List Rw}
theorem Jo (i j : Nat) {x : Operand} {t e z g : Nat} {D : TypeDesc} {cs : List Value} {v : Value} (hu : P.underlying t = some D) (hS : St X w0 mr w R) (hr : R[i]? = some (.row e z (some ⟨g, 0, none⟩) 1 1 cs)) (hx : ev L x = some (.pointer (some ((⟨g, 0, none⟩ : Addr).add j)))) (hc : cs[j]? = some v)
    (hq : (match D with | .struct _ | .array _ _ => true | _ => false) = false /\ Nat.blt d n = true) (h : WL P n ro df ops rest N ((d, v) :: L) w) : WL P n ro df ops (⟨some d, .load t x, ty, pos, af, none⟩ :: rest) N L w :=
  Jm hu hq.1 hx (Jc (hS.own hr) j v hc) hq.2 h
end
def Jsv (all : Array Oper) (n : Nat) (L : Fr) : Oper -> Option (Nat × Value)
  | ⟨some d, op, _, _, _, some (j, want)⟩ => match (all[j]?.bind (·.dst)).bind (lk L) with
    | some (.bool b) => bif b == want then (opv L op).bind (fun v => bif Nat.blt d n then some (d, v) else none) else bif Nat.blt d n then some (d, undef) else none
    | some (.tuple ⟨[]⟩) => bif Nat.blt d n then some (d, undef) else none
    | _ => none
  | ⟨some d, op, _, _, _, none⟩ => (opv L op).bind fun v => bif Nat.blt d n then some (d, v) else none
  | _ => none
theorem Jq3 {P : Program} {n : Nat} {ro : Option Nat} {df : List Deferred} {N : Qo} {L : Fr} {w : World} {all : Array Oper} {o : Oper} {q : Nat × Value} (h : Jsv all n L o = some q) (hN : N df (q :: L) w) : WL P n ro df all [o] N L w := by
 obtain ⟨dst, op, ty, ps, af, g⟩ := o; cases dst with
 | none => simp [Jsv] at h
 | some d =>
  cases g with
  | none =>
   simp only [Jsv] at h; cases hv : opv L op with
   | none => rw [hv] at h; simp at h
   | some v =>
    rw [hv] at h; cases hn : Nat.blt d n <;> simp [hn] at h; subst h; exact Jes hv hn (Ja hN)
  | some jw =>
   obtain ⟨j, want⟩ := jw; simp only [Jsv] at h; split at h
   .rename_i b hb
    cases hbw : (b == want) <;> rw [hbw] at h
    .cases hn : Nat.blt d n <;> simp [hn] at h; subst h; exact Jr8 hb hbw hn (Ja hN)
    .have e : b = want := by simpa using hbw
     subst e; simp only [cond_true] at h; cases hv : opv L op with
     | none => rw [hv] at h; simp at h
     | some v =>
      rw [hv] at h; cases hn : Nat.blt d n <;> simp [hn] at h; subst h; exact WL.take hb (Jes hv hn (Ja hN))
   .rename_i hb
    cases hn : Nat.blt d n <;> simp [hn] at h; subst h; exact QR hb hn (Ja hN)
   .cases h
theorem oA {P : Program} {n : Nat} {ro : Option Nat} {df : List Deferred} {l : List Oper} {F : Fr} {w0 : World} {i : Nat} {o : Oper} {p : Plan} {b : Fr} (h : ∀ R, Jsv l.toArray n (Jky F p.on b ++ R) o = some (F.getD i F0)) : obV P n ro df l F w0 i o p b := fun w _ R => Jq3 (h R) ⟨rfl, by
 cases p.pure
 .exact Jf _
 .rfl⟩
def ekV : Ent -> Option (Nat × Value)
  | .k d v => some (d, v)
  | _ => none
def tolF (F : List Ent) : List Nat -> Fr -> Option Fr
  | [], A => some A
  | j :: js, A => match F.getD j E0 with
    | .k d v => tolF F js ((d, v) :: A)
    | _ => none
theorem Jq1 {F : List Ent} {w : World} {K : Fr -> Prop} : ∀ (js : List Nat) (A B : Fr), tolF F js A = some B -> K B -> Jb6 F w K js A
 | [], _, _, h, hk => by cases h; exact hk
 | j :: js, A, B, h, hk => by
  unfold tolF at h; unfold Jb6; cases e : F.getD j E0 with
  | k d v => rw [e] at h; exact Jq1 js _ _ h hk
  | m d Pr hh => rw [e] at h; cases h
def stpB (l : List Oper) (n : Nat) (F : List Ent) (o : Oper) (on : List Nat) (b R : Fr) : Option (Nat × Value) := (tolF F on b).bind fun A => Jsv l.toArray n (A ++ R) o
def isK : Option (Nat × Value) -> Bool
  | some _ => true
  | none => false
theorem oB {P : Program} {n : Nat} {ro : Option Nat} {df : List Deferred} {l : List Oper} {al : Nat -> Bool} {cp : Nat -> Option Nat} {ph : Nat -> Value -> Value -> Prop} {F : List Ent} {D : Nat -> Value -> World -> Nat -> Prop} {w0 : World} {i : Nat} {o : Oper} {p : Plan} {b : Fr}
  (h : ∀ R, stpB l n F o p.on b R = ekV (F.getD i E0)) (hk : isK (ekV (F.getD i E0)) = true) : obY P n ro df l al cp ph F D w0 i o p b := fun w _ => by
 cases e : F.getD i E0 with
 | m d Pr hh => rw [e] at hk; cases hk
 | k d v =>
  cases hA : tolF F p.on b with
  | none =>
   have := h []; rw [e] at this; unfold stpB at this; rw [hA] at this; cases this
  | some A =>
   refine Jq1 _ _ _ hA fun R => ?_; have := h R; rw [e] at this; unfold stpB at this; rw [hA] at this; exact Jq3 this ⟨rfl, by
    cases p.pure
    .exact Jf _
    .rfl⟩
theorem St.pickN {X : World -> Prop} {w0 w : World} {mr : Option Nat} {R : List Rw} (k : Nat) (is : List Nat) (hn : Jeh is = true) (h : St X w0 mr w R) : St X w0 mr w ((is.filterMap fun i => (R.take k)[i]?) ++ R.drop k) :=
  Qab (T := R.drop k) (R.take k) is hn (by rw [List.take_append_drop]; exact h)
theorem St.fin {w0 w : World} {R : List Rw} {K : List Rw -> Prop} (h : St TT w0 none w R) (hr : R.all (fun r => !r.isRo) = true) (hk : K R) : ∃ Q, w0.grownBy w none /\ Rows w0.heap.size none w Q /\ News w0.heap.size Q /\ K Q := ⟨R, h.ext, h.rows, JT h.rows hr, hk⟩
theorem oT {p : Prop} [Decidable p] (h : decide p = true) : p := of_decide_eq_true h
theorem oF {p : Prop} [Decidable p] (h : decide p = false) : ¬ p := of_decide_eq_false h
end Go.Proofs.YtngdhnijkgjhcaaGreat
namespace Go.Proofs.YtngdhnijkgjhcaaGreat
open Go.RowKit
def RlR (w : World) (hs : Hs) (ls : List (List Int)) : Prop := ∀ i, i < ls.length -> ∃ B, Rd B w 1 (hs i).1 (ls.getD i []).length (hs i).2 (is (ls.getD i []))
theorem RlR.ext {w w' : World} {hs : Hs} {ls : List (List Int)} (h : RlR w hs ls) (hg : w.grownBy w' none) : RlR w' hs ls := fun i hi => by obtain ⟨B, h2⟩ := h i hi; exact ⟨B, h2.ext hg⟩
theorem RlR.nil (w : World) (hs : Hs) : RlR w hs [] := fun i hi => absurd hi (Nat.not_lt_zero i)
theorem RlR.append {w : World} {hs hs' : Hs} {ls ls' : List (List Int)} (h : RlR w hs ls) (h' : RlR w hs' ls') : RlR w (Y3 ls.length hs hs') (ls ++ ls') := fun i hi => by
 rw [List.length_append] at hi; rcases Nat.lt_or_ge i ls.length with hl | hl
 .have e1 : (ls ++ ls').getD i [] = ls.getD i [] := by rw [List.getD_eq_getElem?_getD, List.getElem?_append_left hl, <- List.getD_eq_getElem?_getD]
  have e2 : Y3 ls.length hs hs' i = hs i := by unfold Y3; rw [if_pos hl]
  rw [e1, e2]; exact h i hl
 .have e1 : (ls ++ ls').getD i [] = ls'.getD (i - ls.length) [] := by rw [List.getD_eq_getElem?_getD, List.getElem?_append_right hl, <- List.getD_eq_getElem?_getD]
  have e2 : Y3 ls.length hs hs' i = hs' (i - ls.length) := by unfold Y3; rw [if_neg (by omega)]
  rw [e1, e2]; exact h' _ (by omega)
theorem RlR.rl {w : World} {A : Option Addr} {n k B : Nat} {hs : Hs} {ls : List (List Int)} (h : RlR w hs ls) (hA : Rd B w 1 A n k (JM hs ls)) : Rl w A n k ls := RlH.rl ⟨⟨B, hA⟩, h⟩
theorem RlH.rows {w : World} {A : Option Addr} {n k : Nat} {hs : Hs} {ls : List (List Int)} (h : RlH w A n k hs ls) : RlR w hs ls := h.at__
theorem Jd1 {w : World} {eI : Nat} {hs : Hs} {ls : List (List Int)} (h : Rows 0 none w (inr eI hs ls)) : RlR w hs ls := fun i hi => by
 have := (h.get (Jag eI hs ls hi)).1.rd; exact ⟨_, this⟩
section
variable {P : Program} {n : Nat} {ro : Option Nat} {df : List Deferred} {N : Qo} {L : Fr} {w w0 : World} {ops : Array Oper} {rest : List Oper}
variable {d : Nat} {ty : TypeId} {pos : String} {af : Array Edge} {X : World -> Prop} {mr : Option Nat} {R : List Rw} {eI m c : Nat} {A : Option Addr} {hs : Hs} {ls : List (List Int)}
theorem St.inrs {i : Nat} {L : List Rw} (h : St X w0 mr w R) (hi : R[i]? = some (grp L)) : Rows 0 none w L := (h.rows.get hi).1
theorem JS {x y : Operand} {t e by_ m' c' : Nat} {zero : Value} {A' : Option Addr} {hs' : Hs} {ls' : List (List Int)} (hS : St X w0 mr w (mx e eI A m c hs ls :: R)) (hY : RlH w A' m' c' hs' ls') (ht : P.underlying t = some (.slice e)) (he : Elem P e 1 by_ zero)
    (hx : ev L x = some (.slice A m c)) (hy : ev L y = some (.slice A' m' c')) (hmax : m + m' <= maxLen) (hby : (m + m') * by_ <= 140737488355328) (hn : Nat.blt d n = true)
    (h : ∀ A2 c2 w', St X w0 mr w' (.row e 1 A2 (ls ++ ls').length c2 (JM (Y3 ls.length hs hs') (ls ++ ls')) :: grp (inr eI hs ls) :: R) -> WL P n ro df ops rest N ((d, .slice A2 (ls ++ ls').length c2) :: L) w') :
    WL P n ro df ops (⟨some d, .call ⟨.builtin .append, #[x, y], #[t, t]⟩, ty, pos, af, none⟩ :: rest) N L w := by
  have hl := hS.mxlen (i := 0) rfl
  have hl' := hY.len
  obtain ⟨B, hR⟩ := hY.out
  have h1 := hS.mxOpen
  refine SL.append 0 (ls ++ ls').length (JM hs ls ++ JM hs' ls') h1 rfl ht he hR (Jcl _ _) hx hy hmax hby (by rw [List.length_append, hl, hl']) rfl hn fun A2 c2 w' h2 => h A2 c2 w' ?_
  rw [<- ZA]
  have h3 : St X w0 mr w' (inr eI hs ls ++ (Rw.row e 1 A2 (ls ++ ls').length c2 (JM hs ls ++ JM hs' ls') :: R)) := h2.perm (by
    show (Rw.row e 1 A2 (ls ++ ls').length c2 _ :: (inr eI hs ls ++ R)).Perm _
    exact List.perm_middle.symm)
  exact (St.toGrp (Jfq eI hs ls) h3).perm (List.Perm.swap _ _ _)
end
abbrev HZ := Nat -> (Option Addr × Nat) × Hs
def Jf1 (H : HZ) (zs : List (List (List Int))) : List Value := zs.mapIdx fun i l => .slice (H i).1.1 l.length (H i).1.2
structure Rll (w : World) (A : Option Addr) (n k : Nat) (H : HZ) (zs : List (List (List Int))) : Prop where
  out : ∃ B, Rd B w 1 A n k (Jf1 H zs)
  at__ : ∀ i, i < zs.length -> RlH w (H i).1.1 (zs.getD i []).length (H i).1.2 (H i).2 (zs.getD i [])
theorem Jh3 (H : HZ) (zs : List (List (List Int))) {i : Nat} (hi : i < zs.length) : (Jf1 H zs)[i]? = some (.slice (H i).1.1 (zs.getD i []).length (H i).1.2) := by
 simp only [Jf1, List.getElem?_mapIdx, Y7 (d := []) hi, Option.map_some]
theorem Jm7 (H : HZ) (zs : List (List (List Int))) : (Jf1 H zs).length = zs.length := by simp [Jf1]
def catH : List (List (List Int)) -> HZ -> Nat -> Hs
  | _, _, 0 => fun _ => (none, 0)
  | zs, H, k + 1 => Y3 ((zs.take k).flatten).length (catH zs H k) (H k).2
theorem Jd3 {zs : List (List (List Int))} {k : Nat} (h : k < zs.length) : (zs.take (k + 1)).flatten = (zs.take k).flatten ++ zs.getD k [] := by
 rw [List.take_add_one, Y7 (d := []) h, List.flatten_append]; simp
theorem Rll.cat {w : World} {A : Option Addr} {n k : Nat} {H : HZ} {zs : List (List (List Int))} (h : Rll w A n k H zs) : ∀ j, j <= zs.length -> RlR w (catH zs H j) ((zs.take j).flatten)
 | 0, _ => by rw [List.take_zero]; exact RlR.nil _ _
 | j + 1, hj => by
  rw [Jd3 hj]; exact (Rll.cat h j (by omega)).append (h.at__ j hj).rows
theorem Rll.ext {w w' : World} {A : Option Addr} {n k : Nat} {H : HZ} {zs : List (List (List Int))} (h : Rll w A n k H zs) (hg : w.grownBy w' none) : Rll w' A n k H zs := by
 obtain ⟨B, h1⟩ := h.out; exact ⟨⟨B, h1.ext hg⟩, fun i hi => (h.at__ i hi).ext hg⟩
theorem St.mxH {X : World -> Prop} {w0 w : World} {mr : Option Nat} {R : List Rw} {i eS eI m c : Nat} {A : Option Addr} {hs : Hs} {ls : List (List Int)} (h : St X w0 mr w R) (hi : R[i]? = some (mx eS eI A m c hs ls)) : RlH w A m c hs ls :=
 ⟨⟨_, h.mxout hi⟩, Jd1 (eI := eI) (h.mxrows hi).2.2⟩
theorem Rll.two {w : World} {A A1 A2 : Option Addr} {B k m1 k1 m2 k2 : Nat} {hs1 hs2 : Hs} {l1 l2 : List (List Int)} (hA : Rd B w 1 A 2 k [.slice A1 m1 k1, .slice A2 m2 k2]) (h1 : RlH w A1 m1 k1 hs1 l1) (h2 : RlH w A2 m2 k2 hs2 l2) :
  Rll w A 2 k (fun i => if i = 0 then ((A1, k1), hs1) else ((A2, k2), hs2)) [l1, l2] := by
 obtain rfl := h1.len; obtain rfl := h2.len; refine ⟨⟨B, hA⟩, fun i hi => ?_⟩
 match i, hi with
 | 0, _ => exact h1
 | 1, _ => exact h2
def exT : Nat -> Value -> Value
  | i, .tuple cs => cs.getD i undef
  | _, v => v
def rchT : Value -> World -> Nat -> Prop := fun v w g => rch (snd1 (exT 0 v)) w g
end Go.Proofs.YtngdhnijkgjhcaaGreat
namespace Go.Proofs.YtngdhnijkgjhcaaGreat
open Go.RowKit
theorem Jv : Tryz.prog.follows .mixedOrders = true := by kernel_rfl
theorem Jm0 : Elem Tryz.prog 3 1 8 (.int .i64 0) := .mk' (by kernel_rfl) rfl (by decide)
theorem Jz9 : Elem Tryz.prog 4 1 1 (.bool false) := .mk' (by kernel_rfl) rfl (by decide)
theorem ZW : Elem Tryz.prog 22 1 24 (.slice none 0 0) := .mk' (by kernel_rfl) rfl (by decide)
theorem Jqj : Elem Tryz.prog 128 1 24 (.slice none 0 0) := .mk' (by kernel_rfl) rfl (by decide)
theorem Jew : Elem Tryz.prog 25 1 24 (.slice none 0 0) := .mk' (by kernel_rfl) rfl (by decide)
theorem Jv9 : Elem Tryz.prog 27 2 32 (.agg #[.int .i64 0, .slice none 0 0]) := .mk' (by kernel_rfl) rfl (by decide)
theorem Jkf : Jek Tryz.prog 27 0 0 = true := by kernel_rfl
theorem Jke : Jek Tryz.prog 27 1 1 = true := by kernel_rfl
theorem Jqk : bldP Tryz.prog 27 [(0, 1), (1, 1)] #[.int .i64 0, .slice none 0 0] := ⟨by kernel_rfl, _, Tryz.underlying27, by kernel_rfl⟩
theorem Jwa : Elem Tryz.prog 24 3 40 (.agg #[.int .i64 0, .int .i64 0, .slice none 0 0]) := .mk' (by kernel_rfl) rfl (by decide)
theorem Jqn : Jt1 Tryz.prog 24 = true := by kernel_rfl
theorem Jqm : Jt1 Tryz.prog 27 = true := by kernel_rfl
theorem Jki : Jek Tryz.prog 24 0 0 = true := by kernel_rfl
theorem Jkh : Jek Tryz.prog 24 1 1 = true := by kernel_rfl
theorem Jkg : Jek Tryz.prog 24 2 2 = true := by kernel_rfl
theorem Jql : bldP Tryz.prog 24 [(0, 1), (1, 1), (2, 1)] #[.int .i64 0, .int .i64 0, .slice none 0 0] := ⟨by kernel_rfl, _, Tryz.underlying24, by kernel_rfl⟩
theorem Jh1 : Jek Tryz.prog 117 0 0 = true := by kernel_rfl
theorem Jce : Jek Tryz.prog 117 1 3 = true := by kernel_rfl
theorem Jh0 : Jek Tryz.prog 117 2 4 = true := by kernel_rfl
theorem Jhz : Jek Tryz.prog 117 3 5 = true := by kernel_rfl
theorem Jhy : Jek Tryz.prog 117 4 6 = true := by kernel_rfl
theorem Jm1 : bldP Tryz.prog 117 [(0, 3), (3, 1), (4, 1), (5, 1), (6, 1)] #[.int .i64 0, .int .i64 0, .slice none 0 0, .int .i64 0, .slice none 0 0, .slice none 0 0, .slice none 0 0] := ⟨by kernel_rfl, _, Tryz.underlying117, by kernel_rfl⟩
theorem Jv8 : (Tryz.f11.name == "runtime.NumGoroutine") = false := by kernel_rfl
theorem Jv7 : (Tryz.f12.name == "runtime.NumGoroutine") = false := by kernel_rfl
theorem Jv6 : (Tryz.f13.name == "runtime.NumGoroutine") = false := by kernel_rfl
theorem Jv5 : (Tryz.f14.name == "runtime.NumGoroutine") = false := by kernel_rfl
theorem Jv4 : (Tryz.f15.name == "runtime.NumGoroutine") = false := by kernel_rfl
theorem Jv3 : (Tryz.f16.name == "runtime.NumGoroutine") = false := by kernel_rfl
theorem Jv2 : (Tryz.f17.name == "runtime.NumGoroutine") = false := by kernel_rfl
theorem Jv1 : (Tryz.f18.name == "runtime.NumGoroutine") = false := by kernel_rfl
theorem Jv0 : (Tryz.f19.name == "runtime.NumGoroutine") = false := by kernel_rfl
theorem Jvz : (Tryz.f20.name == "runtime.NumGoroutine") = false := by kernel_rfl
theorem Jvy : (Tryz.f21.name == "runtime.NumGoroutine") = false := by kernel_rfl
theorem Jvx : (Tryz.f22.name == "runtime.NumGoroutine") = false := by kernel_rfl
theorem Jvw : (Tryz.f24.name == "runtime.NumGoroutine") = false := by kernel_rfl
theorem Jvv : (Tryz.f26.name == "runtime.NumGoroutine") = false := by kernel_rfl
theorem Jvu : (Tryz.f28.name == "runtime.NumGoroutine") = false := by kernel_rfl
theorem Jvt : (Tryz.f30.name == "runtime.NumGoroutine") = false := by kernel_rfl
theorem Jvs : (Tryz.f31.name == "runtime.NumGoroutine") = false := by kernel_rfl
theorem Jvr : (Tryz.f33.name == "runtime.NumGoroutine") = false := by kernel_rfl
theorem Jvq : (Tryz.f37.name == "runtime.NumGoroutine") = false := by kernel_rfl
theorem Jvp : (Tryz.f38.name == "runtime.NumGoroutine") = false := by kernel_rfl
theorem Jvo : (Tryz.f40.name == "runtime.NumGoroutine") = false := by kernel_rfl
theorem Jvn : (Tryz.f42.name == "runtime.NumGoroutine") = false := by kernel_rfl
theorem Jvm : (Tryz.f43.name == "runtime.NumGoroutine") = false := by kernel_rfl
theorem Jvl : (Tryz.f44.name == "runtime.NumGoroutine") = false := by kernel_rfl
theorem Jvk : (Tryz.f45.name == "runtime.NumGoroutine") = false := by kernel_rfl
theorem Jvj : (Tryz.f46.name == "runtime.NumGoroutine") = false := by kernel_rfl
theorem Jvi : (Tryz.f47.name == "runtime.NumGoroutine") = false := by kernel_rfl
theorem Jvh : (Tryz.f48.name == "runtime.NumGoroutine") = false := by kernel_rfl
theorem Jvg : (Tryz.f49.name == "runtime.NumGoroutine") = false := by kernel_rfl
theorem Jvf : (Tryz.f50.name == "runtime.NumGoroutine") = false := by kernel_rfl
theorem Jve : (Tryz.f51.name == "runtime.NumGoroutine") = false := by kernel_rfl
theorem Jvd : (Tryz.f52.name == "runtime.NumGoroutine") = false := by kernel_rfl
theorem Jvc : (Tryz.f53.name == "runtime.NumGoroutine") = false := by kernel_rfl
theorem Jvb : (Tryz.f54.name == "runtime.NumGoroutine") = false := by kernel_rfl
theorem Jva : (Tryz.f55.name == "runtime.NumGoroutine") = false := by kernel_rfl
theorem Ju9 : (Tryz.f56.name == "runtime.NumGoroutine") = false := by kernel_rfl
theorem Ju8 : (Tryz.f58.name == "runtime.NumGoroutine") = false := by kernel_rfl
theorem Ju7 : (Tryz.f60.name == "runtime.NumGoroutine") = false := by kernel_rfl
theorem Ju6 : (Tryz.f62.name == "runtime.NumGoroutine") = false := by kernel_rfl
theorem Ju5 : (Tryz.f65.name == "runtime.NumGoroutine") = false := by kernel_rfl
theorem Ju4 : (Tryz.f66.name == "runtime.NumGoroutine") = false := by kernel_rfl
theorem Ju3 : (Tryz.f67.name == "runtime.NumGoroutine") = false := by kernel_rfl
theorem Ju2 : (Tryz.f68.name == "runtime.NumGoroutine") = false := by kernel_rfl
theorem Ju1 : (Tryz.f71.name == "runtime.NumGoroutine") = false := by kernel_rfl
theorem Ju0 : (Tryz.f72.name == "runtime.NumGoroutine") = false := by kernel_rfl
theorem Juz : (Tryz.f73.name == "runtime.NumGoroutine") = false := by kernel_rfl
theorem Juy : (Tryz.f74.name == "runtime.NumGoroutine") = false := by kernel_rfl
theorem Jux : (Tryz.f75.name == "runtime.NumGoroutine") = false := by kernel_rfl
theorem Juw : (Tryz.f76.name == "runtime.NumGoroutine") = false := by kernel_rfl
theorem Juv : (Tryz.f77.name == "runtime.NumGoroutine") = false := by kernel_rfl
theorem Juu : (Tryz.f78.name == "runtime.NumGoroutine") = false := by kernel_rfl
theorem Jut : (Tryz.f79.name == "runtime.NumGoroutine") = false := by kernel_rfl
theorem Jus : (Tryz.f80.name == "runtime.NumGoroutine") = false := by kernel_rfl
theorem Jur : (Tryz.f81.name == "runtime.NumGoroutine") = false := by kernel_rfl
theorem Juq : (Tryz.f82.name == "runtime.NumGoroutine") = false := by kernel_rfl
theorem Jup : (Tryz.f83.name == "runtime.NumGoroutine") = false := by kernel_rfl
theorem Juo : (Tryz.f84.name == "runtime.NumGoroutine") = false := by kernel_rfl
theorem Jun : (Tryz.f85.name == "runtime.NumGoroutine") = false := by kernel_rfl
theorem Jum : (Tryz.f86.name == "runtime.NumGoroutine") = false := by kernel_rfl
theorem Jul : (Tryz.f87.name == "runtime.NumGoroutine") = false := by kernel_rfl
theorem Juk : (Tryz.f88.name == "runtime.NumGoroutine") = false := by kernel_rfl
theorem Juj : (Tryz.f89.name == "runtime.NumGoroutine") = false := by kernel_rfl
theorem Jui : (Tryz.f90.name == "runtime.NumGoroutine") = false := by kernel_rfl
theorem Juh : (Tryz.f92.name == "runtime.NumGoroutine") = false := by kernel_rfl
theorem Jug : (Tryz.f94.name == "runtime.NumGoroutine") = false := by kernel_rfl
theorem Juf : (Tryz.f95.name == "runtime.NumGoroutine") = false := by kernel_rfl
theorem Jue : (Tryz.f96.name == "runtime.NumGoroutine") = false := by kernel_rfl
theorem Jud : (Tryz.f97.name == "runtime.NumGoroutine") = false := by kernel_rfl
theorem Juc : (Tryz.f98.name == "runtime.NumGoroutine") = false := by kernel_rfl
theorem Jub : (Tryz.f99.name == "runtime.NumGoroutine") = false := by kernel_rfl
theorem Jqi : (Tryz.f100.name == "runtime.NumGoroutine") = false := by kernel_rfl
theorem Jqh : (Tryz.f101.name == "runtime.NumGoroutine") = false := by kernel_rfl
theorem Jqg : (Tryz.f102.name == "runtime.NumGoroutine") = false := by kernel_rfl
theorem Jqf : (Tryz.f103.name == "runtime.NumGoroutine") = false := by kernel_rfl
theorem Jqe : (Tryz.f104.name == "runtime.NumGoroutine") = false := by kernel_rfl
theorem Jqd : (Tryz.f105.name == "runtime.NumGoroutine") = false := by kernel_rfl
theorem Jqc : (Tryz.f106.name == "runtime.NumGoroutine") = false := by kernel_rfl
theorem Jqb : (Tryz.f107.name == "runtime.NumGoroutine") = false := by kernel_rfl
theorem Jqa : (Tryz.f108.name == "runtime.NumGoroutine") = false := by kernel_rfl
theorem Jp9 : (Tryz.f109.name == "runtime.NumGoroutine") = false := by kernel_rfl
theorem Jp8 : (Tryz.f110.name == "runtime.NumGoroutine") = false := by kernel_rfl
theorem Jp7 : (Tryz.f111.name == "runtime.NumGoroutine") = false := by kernel_rfl
theorem Jp6 : (Tryz.f112.name == "runtime.NumGoroutine") = false := by kernel_rfl
theorem Jp5 : (Tryz.f113.name == "runtime.NumGoroutine") = false := by kernel_rfl
theorem Jp4 : (Tryz.f114.name == "runtime.NumGoroutine") = false := by kernel_rfl
theorem Jp3 : (Tryz.f115.name == "runtime.NumGoroutine") = false := by kernel_rfl
theorem Jp2 : (Tryz.f116.name == "runtime.NumGoroutine") = false := by kernel_rfl
theorem Jp1 : (Tryz.f117.name == "runtime.NumGoroutine") = false := by kernel_rfl
theorem Jp0 : (Tryz.f118.name == "runtime.NumGoroutine") = false := by kernel_rfl
theorem Jpz : (Tryz.f119.name == "runtime.NumGoroutine") = false := by kernel_rfl
theorem Jpy : (Tryz.f120.name == "runtime.NumGoroutine") = false := by kernel_rfl
theorem Jpx : (Tryz.f121.name == "runtime.NumGoroutine") = false := by kernel_rfl
theorem Jpw : (Tryz.f122.name == "runtime.NumGoroutine") = false := by kernel_rfl
theorem Jpv : (Tryz.f123.name == "runtime.NumGoroutine") = false := by kernel_rfl
theorem Jpu : (Tryz.f124.name == "runtime.NumGoroutine") = false := by kernel_rfl
theorem Jpt : (Tryz.f125.name == "runtime.NumGoroutine") = false := by kernel_rfl
theorem Jps : (Tryz.f126.name == "runtime.NumGoroutine") = false := by kernel_rfl
theorem Jpr : (Tryz.f127.name == "runtime.NumGoroutine") = false := by kernel_rfl
theorem Jpq : (Tryz.f128.name == "runtime.NumGoroutine") = false := by kernel_rfl
theorem Jpp : (Tryz.f129.name == "runtime.NumGoroutine") = false := by kernel_rfl
theorem Jpo : (Tryz.f130.name == "runtime.NumGoroutine") = false := by kernel_rfl
theorem Jpn : (Tryz.f131.name == "runtime.NumGoroutine") = false := by kernel_rfl
theorem Jpm : (Tryz.f132.name == "runtime.NumGoroutine") = false := by kernel_rfl
theorem Jpl : (Tryz.f133.name == "runtime.NumGoroutine") = false := by kernel_rfl
theorem Jpk : (Tryz.f134.name == "runtime.NumGoroutine") = false := by kernel_rfl
theorem Jpj : (Tryz.f135.name == "runtime.NumGoroutine") = false := by kernel_rfl
theorem Jpi : (Tryz.f136.name == "runtime.NumGoroutine") = false := by kernel_rfl
theorem Jph : (Tryz.f137.name == "runtime.NumGoroutine") = false := by kernel_rfl
theorem Jpg : (Tryz.f138.name == "runtime.NumGoroutine") = false := by kernel_rfl
theorem Jpf : (Tryz.f139.name == "runtime.NumGoroutine") = false := by kernel_rfl
theorem Jpe : (Tryz.f140.name == "runtime.NumGoroutine") = false := by kernel_rfl
theorem Jpd : (Tryz.f141.name == "runtime.NumGoroutine") = false := by kernel_rfl
theorem Jpc : (Tryz.f142.name == "runtime.NumGoroutine") = false := by kernel_rfl
theorem Jpb : (Tryz.f143.name == "runtime.NumGoroutine") = false := by kernel_rfl
theorem Jpa : (Tryz.f144.name == "runtime.NumGoroutine") = false := by kernel_rfl
theorem Jo9 : (Tryz.f145.name == "runtime.NumGoroutine") = false := by kernel_rfl
theorem Jo8 : (Tryz.f146.name == "runtime.NumGoroutine") = false := by kernel_rfl
end Go.Proofs.YtngdhnijkgjhcaaGreat
namespace Go.Proofs.YtngdhnijkgjhcaaGreat
open Go.RowKit
abbrev Jj8 := Jh1
abbrev Jan := Jce
abbrev Jfu := Jh0
abbrev YJ := Jhz
abbrev Jj7 := Jhy
abbrev Qj := Jki
abbrev Qy := Jkh
abbrev Yx := Jkg
abbrev JK := Jkf
abbrev JN := Jke
abbrev Jz2 := Jm1
abbrev XB24 := Jql
abbrev QP := Jqk
abbrev XE128 := Jqj
abbrev Jw := ZW
abbrev JO := Jwa
abbrev Jhx := Jew
abbrev Ju := Jv9
abbrev XE3 := Jm0
abbrev XE4 := Jz9
abbrev XF100 := Tryz.func100
abbrev XF101 := Tryz.func101
abbrev XF102 := Tryz.func102
abbrev XF103 := Tryz.func103
abbrev XF104 := Tryz.func104
abbrev Jz1 := Tryz.func105
abbrev Jmp := Tryz.func106
abbrev Jr7 := Tryz.func107
abbrev XF108 := Tryz.func108
abbrev XF109 := Tryz.func109
abbrev XF11 := Tryz.func11
abbrev XF110 := Tryz.func110
abbrev Jr6 := Tryz.func111
abbrev Jiq := Tryz.func112
abbrev XF113 := Tryz.func113
abbrev XF114 := Tryz.func114
abbrev XF115 := Tryz.func115
abbrev Jip := Tryz.func116
abbrev Jr5 := Tryz.func117
abbrev Jz0 := Tryz.func118
abbrev Jio := Tryz.func119
abbrev XF12 := Tryz.func12
abbrev XF120 := Tryz.func120
abbrev Jr4 := Tryz.func121
abbrev XF122 := Tryz.func122
abbrev Jr3 := Tryz.func123
abbrev Jzz := Tryz.func124
abbrev Jr2 := Tryz.func125
abbrev Jzy := Tryz.func126
abbrev XF127 := Tryz.func127
abbrev XF128 := Tryz.func128
abbrev Jzx := Tryz.func129
abbrev XF13 := Tryz.func13
abbrev XF130 := Tryz.func130
abbrev XF131 := Tryz.func131
abbrev XF132 := Tryz.func132
abbrev XF133 := Tryz.func133
abbrev Jzw := Tryz.func134
abbrev Jr1 := Tryz.func135
abbrev XF136 := Tryz.func136
abbrev XF137 := Tryz.func137
abbrev Jr0 := Tryz.func138
abbrev XF139 := Tryz.func139
abbrev XF14 := Tryz.func14
abbrev XF140 := Tryz.func140
abbrev XF141 := Tryz.func141
abbrev Jzv := Tryz.func142
abbrev XF143 := Tryz.func143
abbrev XF144 := Tryz.func144
abbrev XF145 := Tryz.func145
abbrev XF146 := Tryz.func146
abbrev XF15 := Tryz.func15
abbrev XF16 := Tryz.func16
abbrev XF17 := Tryz.func17
abbrev XF18 := Tryz.func18
abbrev XF19 := Tryz.func19
abbrev Jmo := Tryz.func20
abbrev XF21 := Tryz.func21
abbrev XF22 := Tryz.func22
abbrev XF24 := Tryz.func24
abbrev XF26 := Tryz.func26
abbrev XF28 := Tryz.func28
abbrev XF3 := Tryz.func3
abbrev XF30 := Tryz.func30
abbrev XF31 := Tryz.func31
abbrev XF33 := Tryz.func33
abbrev XF37 := Tryz.func37
abbrev XF38 := Tryz.func38
abbrev XF40 := Tryz.func40
abbrev Jo4 := Tryz.func42
abbrev XF43 := Tryz.func43
abbrev XF44 := Tryz.func44
abbrev XF45 := Tryz.func45
abbrev XF46 := Tryz.func46
abbrev XF47 := Tryz.func47
abbrev Jmn := Tryz.func48
abbrev XF49 := Tryz.func49
abbrev Jt7 := Tryz.func50
abbrev XF51 := Tryz.func51
abbrev XF52 := Tryz.func52
abbrev XF53 := Tryz.func53
abbrev XF54 := Tryz.func54
abbrev XF55 := Tryz.func55
abbrev Jt6 := Tryz.func56
abbrev XF58 := Tryz.func58
abbrev XF60 := Tryz.func60
abbrev XF62 := Tryz.func62
abbrev XF65 := Tryz.func65
abbrev XF66 := Tryz.func66
abbrev XF67 := Tryz.func67
abbrev XF68 := Tryz.func68
abbrev XF71 := Tryz.func71
abbrev XF72 := Tryz.func72
abbrev XF73 := Tryz.func73
abbrev XF74 := Tryz.func74
abbrev Jt5 := Tryz.func75
abbrev XF76 := Tryz.func76
abbrev Jo3 := Tryz.func77
abbrev XF78 := Tryz.func78
abbrev XF79 := Tryz.func79
abbrev XF80 := Tryz.func80
abbrev XF81 := Tryz.func81
abbrev XF82 := Tryz.func82
abbrev XF83 := Tryz.func83
abbrev XF84 := Tryz.func84
abbrev XF85 := Tryz.func85
abbrev XF86 := Tryz.func86
abbrev XF87 := Tryz.func87
abbrev XF88 := Tryz.func88
abbrev Jo2 := Tryz.func89
abbrev XF90 := Tryz.func90
abbrev XF92 := Tryz.func92
abbrev XF94 := Tryz.func94
abbrev XF95 := Tryz.func95
abbrev XF96 := Tryz.func96
abbrev XF97 := Tryz.func97
abbrev XF98 := Tryz.func98
abbrev JP := Jqn
abbrev JL := Jqm
abbrev XN100 := Jqi
abbrev XN101 := Jqh
abbrev XN102 := Jqg
abbrev XN103 := Jqf
abbrev XN104 := Jqe
abbrev XN105 := Jqd
abbrev Jrz := Jqc
abbrev Jzr := Jqb
abbrev XN108 := Jqa
abbrev XN109 := Jp9
abbrev XN11 := Jv8
abbrev XN110 := Jp8
abbrev Jzq := Jp7
abbrev Jmm := Jp6
abbrev XN113 := Jp5
abbrev XN114 := Jp4
abbrev XN115 := Jp3
abbrev Jml := Jp2
abbrev Jzp := Jp1
abbrev XN118 := Jp0
abbrev Jzo := Jpz
abbrev XN12 := Jv7
abbrev XN120 := Jpy
abbrev XN121 := Jpx
abbrev XN122 := Jpw
abbrev XN123 := Jpv
abbrev XN124 := Jpu
abbrev XN125 := Jpt
abbrev XN126 := Jps
abbrev XN127 := Jpr
abbrev XN128 := Jpq
abbrev XN129 := Jpp
abbrev XN13 := Jv6
abbrev XN130 := Jpo
abbrev XN131 := Jpn
abbrev XN132 := Jpm
abbrev XN133 := Jpl
abbrev XN134 := Jpk
abbrev Jzn := Jpj
abbrev XN136 := Jpi
abbrev XN137 := Jph
abbrev Jzm := Jpg
abbrev XN139 := Jpf
abbrev XN14 := Jv5
abbrev XN140 := Jpe
abbrev XN141 := Jpd
abbrev XN142 := Jpc
abbrev XN143 := Jpb
abbrev XN144 := Jpa
abbrev XN145 := Jo9
abbrev XN146 := Jo8
abbrev XN15 := Jv4
abbrev XN16 := Jv3
abbrev XN17 := Jv2
abbrev XN18 := Jv1
abbrev XN19 := Jv0
abbrev Jo1 := Jvz
abbrev XN21 := Jvy
abbrev XN22 := Jvx
abbrev XN24 := Jvw
abbrev XN26 := Jvv
abbrev XN28 := Jvu
abbrev XN30 := Jvt
abbrev XN31 := Jvs
abbrev XN33 := Jvr
abbrev XN37 := Jvq
abbrev XN38 := Jvp
abbrev XN40 := Jvo
abbrev Jt4 := Jvn
abbrev XN43 := Jvm
abbrev XN44 := Jvl
abbrev XN45 := Jvk
abbrev XN46 := Jvj
abbrev XN47 := Jvi
abbrev Jo0 := Jvh
abbrev XN49 := Jvg
abbrev XN50 := Jvf
abbrev XN51 := Jve
abbrev XN52 := Jvd
abbrev XN53 := Jvc
abbrev XN54 := Jvb
abbrev XN55 := Jva
abbrev XN56 := Ju9
abbrev XN58 := Ju8
abbrev XN60 := Ju7
abbrev XN62 := Ju6
abbrev XN65 := Ju5
abbrev XN66 := Ju4
abbrev XN67 := Ju3
abbrev XN68 := Ju2
abbrev XN71 := Ju1
abbrev XN72 := Ju0
abbrev XN73 := Juz
abbrev XN74 := Juy
abbrev XN75 := Jux
abbrev XN76 := Juw
abbrev Jt3 := Juv
abbrev XN78 := Juu
abbrev XN79 := Jut
abbrev XN80 := Jus
abbrev XN81 := Jur
abbrev XN82 := Juq
abbrev XN83 := Jup
abbrev XN84 := Juo
abbrev XN85 := Jun
abbrev XN86 := Jum
abbrev XN87 := Jul
abbrev XN88 := Juk
abbrev Jt2 := Juj
abbrev XN90 := Jui
abbrev XN92 := Juh
abbrev XN94 := Jug
abbrev XN95 := Juf
abbrev XN96 := Jue
abbrev XN97 := Jud
abbrev XN98 := Juc
abbrev Jcc := Tryz.underlying104
abbrev XU106 := Tryz.underlying106
abbrev XU111 := Tryz.underlying111
abbrev Jhb := Tryz.underlying128
abbrev Jq := Tryz.underlying22
abbrev Jt := Tryz.underlying25
abbrev XU3 := Tryz.underlying3
abbrev XU4 := Tryz.underlying4
abbrev Jfb := Tryz.underlying84
end Go.Proofs.YtngdhnijkgjhcaaGreat
set_option maxRecDepth 4000
set_option maxHeartbeats 4000000
namespace Go.Proofs.YtngdhnijkgjhcaaGreat
open Go.RowKit
def Jhh (b : Bool) (Q : Int -> Prop) : Prop :=
  ((b = true) -> (Q (0 : Int))) /\ (b = false -> (Q (1 : Int)))
theorem Jrb {w : World} {Q : Int -> Prop} {b : Bool}  (hv : Jhh b Q) :
   Calls Tryz.prog 129 #[.bool b] w fun e w' => ∃ v Qr, e = .returned v /\ w.grownBy w' none /\ Rows w.heap.size none w' Qr /\ News w.heap.size Qr /\ ∃ (r0 : Int), v = .int .i64 r0 /\ Qr = [] /\ Q r0 := by
 refine Jk <| Jl (vs := [.bool b]) [2] Jzx rfl rfl rfl rfl ?_; have hS := Jr w; unfold Jhh at hv; refine Je 9 <| Ji rfl (fun c11 => ?_) (fun c11 => ?_)
 .have hv := hv.1 (c11); refine Je 4 <| W.ret <| ⟨_, rfl, Fin.nil ?_⟩
  exact (hS.pick [] rfl).fin rfl ⟨(0 : Int), rfl, rfl, hv⟩
 have hv := hv.2 (c11); refine Jn <| Je 4 <| W.ret <| ⟨_, rfl, Fin.nil ?_⟩
 exact (hS.pick [] rfl).fin rfl ⟨(1 : Int), rfl, rfl, hv⟩
def YB (x : Int) (Q : Int -> Prop) : Prop :=
  ∃ (I14 : Int -> Prop) (μ15 : Int -> Nat), I14 (2 : Int) /\ ∀ (z13 : Int), (I14 z13 -> ((I64 (z13 * z13)) /\ ((((z13 * z13) <= x) -> ((z13 ≠ 0) /\ ((((x.tmod z13) = (0 : Int)) -> Q z13) /\ (¬ ((x.tmod z13) = (0 : Int)) -> ((I64 (z13 + (1 : Int))) /\ (I14 (z13 + (1 : Int)) /\ μ15 (z13 + (1 : Int)) < μ15 z13)))))) /\ (¬ ((z13 * z13) <= x) -> Q x))))
theorem Je9 {w : World} {Q : Int -> Prop} {x : Int}  (hv : YB x Q) :
   Calls Tryz.prog 136 #[.int .i64 x] w fun e w' => ∃ v Qr, e = .returned v /\ w.grownBy w' none /\ Rows w.heap.size none w' Qr /\ News w.heap.size Qr /\ ∃ (r0 : Int), v = .int .i64 r0 /\ Qr = [] /\ Q r0 := by
 refine Jk <| Jl (vs := [nI x]) [2] XF136 rfl rfl rfl rfl ?_; have hS := Jr w; unfold YB at hv; refine Je 9 <| W.block ?_; obtain ⟨I14, μ15, hv, hk22⟩ := hv; refine JF (σ := Int) (fun z13 w1 => I14 z13 /\ St TT w none w1 []) (fun z13 => [(0, nI x), (2, nI 0), (3, nI z13)]) (fun z13 => μ15 z13) (2 : Int) ⟨hv, hS⟩ ⟨rfl, rfl, rfl, trivial⟩ ?_; rintro z13 w16 ⟨hv, hS⟩; have hv := hk22 z13 hv; refine Je 5 ?_; obtain ⟨o17, hv⟩ := hv; refine WL.mul (r := (z13 * z13)) rfl rfl (wr o17) rfl <| Jb 3 <| Ji rfl (fun c18 => ?_) (fun c18 => ?_)
 .have hv := hv.1 (oT c18); refine Jn <| Jy <| W.block <| Je 4 ?_; obtain ⟨o19, hv⟩ := hv; refine Yy (r := (x.tmod z13)) rfl rfl o19 rfl rfl <| Jb 2 <| Ji rfl (fun c20 => ?_) (fun c20 => ?_)
  .have hv := hv.1 (oT c20); refine Je 5 <| W.ret <| ⟨_, rfl, Fin.nil ?_⟩
   exact (hS.pick [] rfl).fin rfl ⟨z13, rfl, rfl, hv⟩
  have hv := hv.2 (oF c20); refine Jn <| Je 2 ?_; obtain ⟨o21, hv⟩ := hv; refine WL.add (r := (z13 + (1 : Int))) rfl rfl (wr o21) rfl <| Jb 2 ?_; exact ⟨(z13 + (1 : Int)), sp rfl, hv.2, rfl, hv.1, hS⟩
 have hv := hv.2 (oF c18); refine JC <| Je 5 <| W.ret <| ⟨_, rfl, Fin.nil ?_⟩
 exact (hS.pick [] rfl).fin rfl ⟨x, rfl, rfl, hv⟩
def Jbw (x : Int) (Q : Bool -> Prop) : Prop :=
  (((2 : Int) <= x) -> (YB x (fun r13 => Q (decide (r13 = x))))) /\ (¬ ((2 : Int) <= x) -> Q false)
theorem Jn1 {w : World} {Q : Bool -> Prop} {x : Int}  (hv : Jbw x Q) :
   Calls Tryz.prog 128 #[.int .i64 x] w fun e w' => ∃ v Qr, e = .returned v /\ w.grownBy w' none /\ Rows w.heap.size none w' Qr /\ News w.heap.size Qr /\ ∃ (r0 : Bool), v = .bool r0 /\ Qr = [] /\ Q r0 := by
 refine Jk <| Jl (vs := [nI x]) [2] XF128 rfl rfl rfl rfl ?_; have hS := Jr w; unfold Jbw at hv; refine Je 8 <| Jp rfl rfl ?_; by_cases g11 : (2 : Int) <= x
 .have hv := hv.1 g11; rw [decide_eq_true g11]; refine Jb 3 <| SL.call hS (Je9  hv) XF136 rfl XN136 rfl rfl ?_; rintro _ _ w12 ⟨r13, rfl, rfl, hv⟩ hGw12 hS; have hS := hS.n0; refine Jb 7 <| W.ret <| ⟨_, rfl, Fin.nil ?_⟩
  exact (hS.pick [] rfl).fin rfl ⟨(decide (r13 = x)), rfl, rfl, hv⟩
 have hv := hv.2 g11; rw [decide_eq_false g11]; refine Jb 7 <| W.ret <| ⟨_, rfl, Fin.nil ?_⟩
 exact (hS.pick [] rfl).fin rfl ⟨false, rfl, rfl, hv⟩
def Jav (Pf : Int) (Mf : Int) (mf : List Int) (Q : Int -> Prop) : Prop :=
  ∃ J14 : Int -> Prop, (∃ (I21 : Int -> Int -> Prop) (μ22 : Int -> Int -> Nat), I21 (1 : Int) (0 : Int) /\ ∀ (z19 : Int) (z20 : Int), (I21 z19 z20 -> (((z20 < Mf) -> (((z19 <= (256 : Int)) -> ((I64 (z19 * Pf)) /\ ((I64 (z20 + (1 : Int))) /\ (I21 (z19 * Pf) (z20 + (1 : Int)) /\ μ22 (z19 * Pf) (z20 + (1 : Int)) < μ22 z19 z20)))) /\ (¬ (z19 <= (256 : Int)) -> J14 z19))) /\ (¬ (z20 < Mf) -> J14 z19)))) /\ ∀ (z13 : Int), (J14 z13 -> Q z13)
theorem Ja3 {w : World} {Q : Int -> Prop} {Pf : Int} {Mf : Int} {mf : List Int} {Bf : Nat} {Af : Option Addr} {nf kf : Nat} (hf : Rd Bf w 1 Af nf kf (is mf)) (hv : Jav Pf Mf mf Q) :
   Calls Tryz.prog 112 #[.agg #[.int .i64 Pf, .int .i64 Mf, .slice Af nf kf]] w fun e w' => ∃ v Qr, e = .returned v /\ w.grownBy w' none /\ Rows w.heap.size none w' Qr /\ News w.heap.size Qr /\ ∃ (r0 : Int), v = .int .i64 r0 /\ Qr = [] /\ Q r0 := by
 have hnf := hf.ilen; subst hnf; refine Jk <| Jl (vs := [.agg #[nI Pf, nI Mf, nS Af mf kf]]) [2] Jiq rfl rfl rfl rfl ?_; have hS := Jr w; unfold Jav at hv; refine Je 2 <| Jz (z := 3) (cs := [nI Pf, nI Mf, nS Af mf kf]) hS rfl rfl rfl rfl ?_; intro g11 w12 hS; refine Jb 2 <| Je 9 ?_; obtain ⟨J14, hv, hk30⟩ := hv; refine Qx (σ := Int) (fun z13 w1 => J14 z13 /\ St TT w none w1 [.row 24 3 (nA g11) 1 1 [nI Pf, nI Mf, nS Af mf kf]]) (fun z13 => [(2, nI 0), (3, nI z13)]) ?_ ?_
 .refine W.block ?_; obtain ⟨I21, μ22, hv, hk28⟩ := hv; refine JF (σ := Int × Int) (fun q w1 => match q with | (z19, z20) => I21 z19 z20 /\ St TT w none w1 [.row 24 3 (nA g11) 1 1 [nI Pf, nI Mf, nS Af mf kf]]) (fun q => match q with | (z19, z20) => [(1, nP g11), (2, nI 0), (3, nI z19), (4, nI z20)]) (fun q => match q with | (z19, z20) => μ22 z19 z20) ((1 : Int), (0 : Int)) ⟨hv, hS⟩ ⟨rfl, rfl, rfl, rfl, trivial⟩ ?_; rintro ⟨z19, z20⟩ w23 ⟨hv, hS⟩; have hv := hk28 z19 z20 hv; refine Je 4 <| Jd (off := 1) Qy rfl rfl <| Jo 0 1 XU3 hS rfl rfl rfl ⟨rfl, rfl⟩ <| QY rfl rfl rfl <| Jp rfl rfl ?_; by_cases g24 : z20 < Mf
  .have hv := hv.1 g24; rw [decide_eq_true g24]; refine Jb 6 <| Ji rfl (fun c25 => ?_) (fun c25 => ?_)
   .have hv := hv.1 (oT c25); refine Jn <| Jy <| W.block <| Je 2 <| Jd (off := 0) Qj rfl rfl <| Jo 0 0 XU3 hS rfl rfl rfl ⟨rfl, rfl⟩ ?_; obtain ⟨o26, hv⟩ := hv; refine WL.mul (r := (z19 * Pf)) rfl rfl (wr o26) rfl <| Jb 2 <| Je 2 ?_; obtain ⟨o27, hv⟩ := hv; refine WL.add (r := (z20 + (1 : Int))) rfl rfl (wr o27) rfl <| Jb 2 ?_; exact ⟨((z19 * Pf), (z20 + (1 : Int))), sp rfl, hv.2, rfl, hv.1, hS⟩
   have hv := hv.2 (oF c25); refine JC ?_; exact ⟨z19, ⟨rfl, rfl, trivial⟩, rfl, hv, hS⟩
  have hv := hv.2 g24; rw [decide_eq_false g24]; refine Jb 4 <| QL rfl <| JC ?_; exact ⟨z19, ⟨rfl, rfl, trivial⟩, rfl, hv, hS⟩
 rintro z13 w29 ⟨hv, hS⟩; have hv := hk30 z13 hv; refine Je 5 <| W.ret <| ⟨_, rfl, Fin.nil ?_⟩
 exact (hS.pick [] rfl).fin rfl ⟨z13, rfl, rfl, hv⟩
def ZU (p : Int) (n : Int) (x : Int) (Q : List Int -> Prop) : Prop :=
  (0 <= n /\ n * 8 <= 281474976710656 /\ n <= 281474976710656) /\ (∃ (I24 : List Int -> Int -> Int -> Prop) (μ25 : List Int -> Int -> Int -> Nat), I24 (List.replicate n.toNat (0 : Int)) x (0 : Int) /\ ∀ (x21 : List Int) (z22 : Int) (z23 : Int), (I24 x21 z22 z23 -> (((z23 < ((n.toNat : Nat) : Int)) -> ((p ≠ 0) /\ ((0 <= z23 /\ z23 < (n.toNat : Nat)) /\ ((p ≠ 0 /\ I64 (z22.tdiv p)) /\ ((I64 (z23 + (1 : Int))) /\ (I24 (si x21 z23 (z22.tmod p)) (z22.tdiv p) (z23 + (1 : Int)) /\ μ25 (si x21 z23 (z22.tmod p)) (z22.tdiv p) (z23 + (1 : Int)) < μ25 x21 z22 z23)))))) /\ (¬ (z23 < ((n.toNat : Nat) : Int)) -> Q x21))))
theorem Jef {w : World} {Q : List Int -> Prop} {p : Int} {n : Int} {x : Int}  (hv : ZU p n x Q) :
  Calls Tryz.prog 138 #[.int .i64 p, .int .i64 n, .int .i64 x] w fun e w' => ∃ v Qr, e = .returned v /\ w.grownBy w' none /\ Rows w.heap.size none w' Qr /\ News w.heap.size Qr /\ ∃ (x : List Int)  (A : Option Addr) (c : Nat), v = .slice A x.length c /\ Qr = [.row 3 1 A x.length c (is x)] /\ Q x := by
 refine Jk <| Jl (vs := [nI p, nI n, nI x]) [6] Jr0 rfl rfl rfl rfl ?_; have hS := Jr w; unfold ZU at hv; refine Je 7 ?_; obtain ⟨o11, hv⟩ := hv; refine QB (J := n) hS Jq XE3 rfl rfl o11 (QJ _) rfl ?_; intro A12 w13 hS; refine Jb 2 <| Je 4 <| WL.len Jq rfl rfl <| Jb 2 <| W.block ?_; obtain ⟨I24, μ25, hv, hk33⟩ := hv; refine JF (σ := List Int × Int × Int) (fun q w1 => match q with | (x21, z22, z23) => I24 x21 z22 z23 /\ St TT w none w1 [.row 3 1 A12 n.toNat n.toNat (is x21)]) (fun q => match q with | (x21, z22, z23) => [(0, nI p), (2, nI z22), (6, .slice none 0 0), (7, .slice A12 n.toNat n.toNat), (12, nI ((n.toNat : Nat) : Int)), (13, nI z23)]) (fun q => match q with | (x21, z22, z23) => μ25 x21 z22 z23) (List.replicate n.toNat (0 : Int), x, (0 : Int)) ⟨hv, hS⟩ ⟨rfl, rfl, rfl, rfl, rfl, rfl, trivial⟩ ?_; rintro ⟨x21, z22, z23⟩ w26 ⟨hv, hS⟩; have hv := hk33 x21 z22 z23 hv; refine Je 5 <| Ji rfl (fun c27 => ?_) (fun c27 => ?_)
 .have hv := hv.1 (oT c27); refine Jn <| Jy <| W.block <| Je 11 ?_; obtain ⟨o28, hv⟩ := hv; refine Yy (r := (z22.tmod p)) rfl rfl o28 rfl rfl ?_; obtain ⟨o29, hv⟩ := hv; refine Jj Jq XE3 (hS.rd (i := 0) rfl) rfl rfl o29 rfl <| JG (cs' := is (si x21 z23 (z22.tmod p))) 0 z23.toNat hS rfl XE3 rfl rfl rfl (QE (hS.rd (i := 0) rfl) o29) (Qp _ _ _) ?_; intro w30 hS; refine Ja <| Je 3 ?_; obtain ⟨o31, hv⟩ := hv; refine Jo5 (r := (z22.tdiv p)) rfl rfl o31.1 (wr o31.2) rfl <| Jb 2 <| JA ?_; obtain ⟨o32, hv⟩ := hv; refine WL.add (r := (z23 + (1 : Int))) rfl rfl (wr o32) rfl <| Jb 2 ?_; exact ⟨(si x21 z23 (z22.tmod p), (z22.tdiv p), (z23 + (1 : Int))), sp rfl, hv.2, rfl, hv.1, hS⟩
 have hv := hv.2 (oF c27); refine JC <| Je 5 <| W.ret ?_; have hm := (hS.rd (i := 0) rfl).ilen; have hS := hS.relen (i := 0) rfl hm.symm; refine ⟨_, rfl, Fin.nil ?_⟩; exact ⟨_, hS.ext, (hS.pick [0] rfl).rows, JT (hS.pick [0] rfl).rows rfl, ⟨x21, A12, n.toNat, (by rw [hm]), rfl, hv⟩⟩
def Zs (Pf : Int) (Mf : Int) (mf : List Int) (x : Int) (Q : Int -> Prop) : Prop :=
  (Pf ≠ 0) /\ ((I64 (Pf - (1 : Int))) /\ ((((x.tmod Pf) = (Pf - (1 : Int))) -> ((Pf ≠ 0) /\ ((I64 (x - (x.tmod Pf))) /\ (Q (x - (x.tmod Pf)))))) /\ (¬ ((x.tmod Pf) = (Pf - (1 : Int))) -> ((I64 (x + (1 : Int))) /\ (Q (x + (1 : Int)))))))
theorem Jjg {w : World} {Q : Int -> Prop} {Pf : Int} {Mf : Int} {mf : List Int} {x : Int} {Bf : Nat} {Af : Option Addr} {nf kf : Nat} (hf : Rd Bf w 1 Af nf kf (is mf)) (hv : Zs Pf Mf mf x Q) :
   Calls Tryz.prog 114 #[.agg #[.int .i64 Pf, .int .i64 Mf, .slice Af nf kf], .int .i64 x] w fun e w' => ∃ v Qr, e = .returned v /\ w.grownBy w' none /\ Rows w.heap.size none w' Qr /\ News w.heap.size Qr /\ ∃ (r0 : Int), v = .int .i64 r0 /\ Qr = [] /\ Q r0 := by
 have hnf := hf.ilen; subst hnf; refine Jk <| Jl (vs := [.agg #[nI Pf, nI Mf, nS Af mf kf], nI x]) [4] XF114 rfl rfl rfl rfl ?_; have hS := Jr w; unfold Zs at hv; refine Je 2 <| Jz (z := 3) (cs := [nI Pf, nI Mf, nS Af mf kf]) hS rfl rfl rfl rfl ?_; intro g11 w12 hS; refine Jb 2 <| Je 2 ?_; obtain ⟨o17, hv⟩ := hv; obtain ⟨o21, hv⟩ := hv; refine JY 8 [⟨[], [1], true⟩, ⟨[], [2], true⟩, ⟨[1], [], false⟩, ⟨[0, 2], [], true⟩, ⟨[], [2], true⟩, ⟨[4], [], false⟩, ⟨[5], [], true⟩, ⟨[3, 6], [], true⟩] [(5, nI x), (6, nP g11), (7, nI Pf), (8, nI (x.tmod Pf)), (9, nP g11), (10, nI Pf), (11, nI (Pf - (1 : Int))), (12, .bool (decide ((x.tmod Pf) = (Pf - (1 : Int)))))] Jv (by kernel_rfl) rfl rfl ?_ ?_
 . refine ⟨oA fun _ => rfl, fun _ _ _ => Jd (off := 0) Qj rfl rfl <| Ja ⟨rfl, rfl⟩, fun _ hE _ => have hS := hS.grow (hE rfl); Jo 0 0 XU3 hS rfl rfl rfl ⟨rfl, rfl⟩ <| Ja ⟨rfl, Jf _⟩, fun _ _ _ => Yy (r := (x.tmod Pf)) rfl rfl o17 rfl rfl <| Ja ⟨rfl, rfl⟩, fun _ _ _ => Jd (off := 0) Qj rfl rfl <| Ja ⟨rfl, rfl⟩, fun _ hE _ => have hS := hS.grow (hE rfl); Jo 0 0 XU3 hS rfl rfl rfl ⟨rfl, rfl⟩ <| Ja ⟨rfl, Jf _⟩, fun _ _ _ => WL.sub (r := (Pf - (1 : Int))) rfl rfl (wr o21) rfl <| Ja ⟨rfl, rfl⟩, oA fun _ => rfl, trivial⟩
 intro w23 hT; have hS := hS.grow hT; refine JJ <| Ji rfl (fun c24 => ?_) (fun c24 => ?_)
 .have hv := hv.1 (oT c24); refine Je 4 <| Jd (off := 0) Qj rfl rfl <| Jo 0 0 XU3 hS rfl rfl rfl ⟨rfl, rfl⟩ ?_; obtain ⟨o25, hv⟩ := hv; refine Yy (r := (x.tmod Pf)) rfl rfl o25 rfl rfl ?_; obtain ⟨o26, hv⟩ := hv; refine WL.sub (r := (x - (x.tmod Pf))) rfl rfl (wr o26) rfl <| Jb 2 <| W.ret <| ⟨_, rfl, Fin.nil ?_⟩
  exact (hS.pick [] rfl).fin rfl ⟨(x - (x.tmod Pf)), rfl, rfl, hv⟩
 have hv := hv.2 (oF c24); refine Jn <| Je 3 ?_; obtain ⟨o27, hv⟩ := hv; refine WL.add (r := (x + (1 : Int))) rfl rfl (wr o27) rfl <| Jb 2 <| W.ret <| ⟨_, rfl, Fin.nil ?_⟩
 exact (hS.pick [] rfl).fin rfl ⟨(x + (1 : Int)), rfl, rfl, hv⟩
def Zb (l : List Int) (Q : List Int -> Prop) : Prop :=
  ∀ b11 : Bool, (b11 = true -> l = []) -> (((b11 = true) -> (Q ([] : List Int))) /\ (b11 = false -> ((((0 : Nat) + (l.length : Nat) : Int) * 8 <= 140737488355328) /\ (Q (([] : List Int) ++ l)))))
theorem ZI {w : World} {Q : List Int -> Prop} {l : List Int} {Bl : Nat} {Al : Option Addr} {nl kl : Nat} (hl : Rd Bl w 1 Al nl kl (is l)) (hv : Zb l Q) :
  Calls Tryz.prog 89 #[.slice Al nl kl] w fun e w' => ∃ v Qr, e = .returned v /\ w.grownBy w' none /\ Rows w.heap.size none w' Qr /\ News w.heap.size Qr /\ ∃ (x : List Int)  (A : Option Addr) (c : Nat), v = .slice A x.length c /\ Qr = [.row 3 1 A x.length c (is x)] /\ Q x := by
 have hnl := hl.ilen; subst hnl; refine Jk <| Jl (vs := [nS Al l kl]) [2] Jo2 rfl rfl rfl rfl ?_; have hS := Jr w; unfold Zb at hv; refine Je 8 ?_; obtain ⟨b11, hb11⟩ : ∃ b, Al.isNone = b := ⟨_, rfl⟩
 have hv := hv b11 (fun h => Jwc (hS.ro hl) (hb11.trans h)); refine Jua hb11 Jq rfl rfl rfl <| Ja <| Ji rfl (fun c12 => ?_) (fun c12 => ?_)
 .have hv := hv.1 (c12); refine Je 4 <| W.ret ?_; have hS := hS.nil (e := 3) (z := 1); refine ⟨_, rfl, Fin.nil ?_⟩; exact (hS.pick [0] rfl).fin rfl ⟨([] : List Int), none, 0, rfl, rfl, hv⟩
 have hv := hv.2 (c12); refine Jn <| Je 2 <| J3 (vs := is ([] : List Int)) hS Jq XE3 rfl rfl rfl rfl (Qh _) rfl ?_; intro A13 w14 hS; refine Jp rfl rfl ?_; obtain ⟨o16, hv⟩ := hv; refine SL.append (cs := is ([] : List Int)) (cs' := is l) 0 ((([] : List Int) ++ l).length) (is (([] : List Int) ++ l)) hS rfl Jq XE3 (hS.ro hl) (Qh _) rfl rfl (apk o16).1 (apk o16).2 (Ja5 (hS.rd (i := 0) rfl) (hS.ro hl)) (QD _ _) rfl ?_; intro A17 k18 w19 hS; refine Jb 2 <| W.ret <| ⟨_, rfl, Fin.nil ?_⟩
 exact (hS.pick [0] rfl).fin rfl ⟨([] : List Int) ++ l, A17, k18, rfl, rfl, hv⟩
def ZP (Pf : Int) (Mf : Int) (mf : List Int) (Q : Int -> Prop) : Prop :=
  ((Pf < (2 : Int)) -> (Q (0 : Int))) /\ (¬ (Pf < (2 : Int)) -> (((Mf < (1 : Int)) -> (Q (0 : Int))) /\ (¬ (Mf < (1 : Int)) -> ((((8 : Int) < Mf) -> (Q (0 : Int))) /\ (¬ ((8 : Int) < Mf) -> (∃ (I22 : Int -> Int -> Prop) (μ23 : Int -> Int -> Nat), I22 (1 : Int) (0 : Int) /\ ∀ (z20 : Int) (z21 : Int), (I22 z20 z21 -> (((z21 < Mf) -> ((Pf ≠ 0 /\ I64 ((256 : Int).tdiv Pf)) /\ (((((256 : Int).tdiv Pf) < z20) -> (Q (0 : Int))) /\ (¬ (((256 : Int).tdiv Pf) < z20) -> ((I64 (z20 * Pf)) /\ ((I64 (z21 + (1 : Int))) /\ (I22 (z20 * Pf) (z21 + (1 : Int)) /\ μ23 (z20 * Pf) (z21 + (1 : Int)) < μ23 z20 z21))))))) /\ (¬ (z21 < Mf) -> Q z20)))))))))
theorem Jeb {w : World} {Q : Int -> Prop} {Pf : Int} {Mf : Int} {mf : List Int} {Bf : Nat} {Af : Option Addr} {nf kf : Nat} (hf : Rd Bf w 1 Af nf kf (is mf)) (hv : ZP Pf Mf mf Q) :
   Calls Tryz.prog 107 #[.agg #[.int .i64 Pf, .int .i64 Mf, .slice Af nf kf]] w fun e w' => ∃ v Qr, e = .returned v /\ w.grownBy w' none /\ Rows w.heap.size none w' Qr /\ News w.heap.size Qr /\ ∃ (r0 : Int), v = .int .i64 r0 /\ Qr = [] /\ Q r0 := by
 have hnf := hf.ilen; subst hnf; refine Jk <| Jl (vs := [.agg #[nI Pf, nI Mf, nS Af mf kf]]) [2] Jr7 rfl rfl rfl rfl ?_; have hS := Jr w; unfold ZP at hv; refine Je 2 <| Jz (z := 3) (cs := [nI Pf, nI Mf, nS Af mf kf]) hS rfl rfl rfl rfl ?_; intro g11 w12 hS; refine Jb 2 <| Je 3 <| Jd (off := 0) Qj rfl rfl <| Jo 0 0 XU3 hS rfl rfl rfl ⟨rfl, rfl⟩ <| QY rfl rfl rfl <| Jp rfl rfl ?_; by_cases g13 : Pf < (2 : Int)
 .have hv := hv.1 g13; rw [decide_eq_true g13]; refine Jb 10 <| Ql rfl <| Je 4 <| W.ret <| ⟨_, rfl, Fin.nil ?_⟩
  exact (hS.pick [] rfl).fin rfl ⟨(0 : Int), rfl, rfl, hv⟩
 have hv := hv.2 g13; rw [decide_eq_false g13]; refine WL.take rfl <| Jd (off := 1) Qy rfl rfl <| WL.take rfl <| Jo 0 1 XU3 hS rfl rfl rfl ⟨rfl, rfl⟩ <| Jb 3 <| Jp rfl rfl ?_; by_cases g14 : Mf < (1 : Int)
 .have hv := hv.1 g14; rw [decide_eq_true g14]; refine Jb 5 <| Ql rfl <| Je 4 <| W.ret <| ⟨_, rfl, Fin.nil ?_⟩
  exact (hS.pick [] rfl).fin rfl ⟨(0 : Int), rfl, rfl, hv⟩
 have hv := hv.2 g14; rw [decide_eq_false g14]; refine WL.take rfl <| Jd (off := 1) Qy rfl rfl <| WL.take rfl <| Jo 0 1 XU3 hS rfl rfl rfl ⟨rfl, rfl⟩ <| Jb 4 <| Ji rfl (fun c15 => ?_) (fun c15 => ?_)
 .have hv := hv.1 (oT c15); refine Je 4 <| W.ret <| ⟨_, rfl, Fin.nil ?_⟩
  exact (hS.pick [] rfl).fin rfl ⟨(0 : Int), rfl, rfl, hv⟩
 have hv := hv.2 (oF c15); refine Jn <| Je 9 <| W.block ?_; obtain ⟨I22, μ23, hv, hk30⟩ := hv; refine JF (σ := Int × Int) (fun q w1 => match q with | (z20, z21) => I22 z20 z21 /\ St TT w none w1 [.row 24 3 (nA g11) 1 1 [nI Pf, nI Mf, nS Af mf kf]]) (fun q => match q with | (z20, z21) => [(1, nP g11), (2, nI 0), (3, nI z20), (4, nI z21)]) (fun q => match q with | (z20, z21) => μ23 z20 z21) ((1 : Int), (0 : Int)) ⟨hv, hS⟩ ⟨rfl, rfl, rfl, rfl, trivial⟩ ?_; rintro ⟨z20, z21⟩ w24 ⟨hv, hS⟩; have hv := hk30 z20 z21 hv; refine Je 4 <| Jd (off := 1) Qy rfl rfl <| Jo 0 1 XU3 hS rfl rfl rfl ⟨rfl, rfl⟩ <| Jb 2 <| Ji rfl (fun c25 => ?_) (fun c25 => ?_)
 .have hv := hv.1 (oT c25); refine Jn <| Jy <| W.block <| Je 4 <| Jd (off := 0) Qj rfl rfl <| Jo 0 0 XU3 hS rfl rfl rfl ⟨rfl, rfl⟩ ?_; obtain ⟨o26, hv⟩ := hv; refine Jo5 (r := ((256 : Int).tdiv Pf)) rfl rfl o26.1 (wr o26.2) rfl <| Jb 2 <| Ji rfl (fun c27 => ?_) (fun c27 => ?_)
  .have hv := hv.1 (oT c27); refine Je 4 <| W.ret <| ⟨_, rfl, Fin.nil ?_⟩
   exact (hS.pick [] rfl).fin rfl ⟨(0 : Int), rfl, rfl, hv⟩
  have hv := hv.2 (oF c27); refine Jn <| Je 2 <| Jd (off := 0) Qj rfl rfl <| Jo 0 0 XU3 hS rfl rfl rfl ⟨rfl, rfl⟩ ?_; obtain ⟨o28, hv⟩ := hv; refine WL.mul (r := (z20 * Pf)) rfl rfl (wr o28) rfl <| Jb 2 <| Je 2 ?_; obtain ⟨o29, hv⟩ := hv; refine WL.add (r := (z21 + (1 : Int))) rfl rfl (wr o29) rfl <| Jb 2 ?_; exact ⟨((z20 * Pf), (z21 + (1 : Int))), sp rfl, hv.2, rfl, hv.1, hS⟩
 have hv := hv.2 (oF c25); refine JC <| Je 5 <| W.ret <| ⟨_, rfl, Fin.nil ?_⟩
 exact (hS.pick [] rfl).fin rfl ⟨z20, rfl, rfl, hv⟩
def Jdr (x : Int) (Q : Bool -> Prop) : Prop :=
  ∃ (I14 : Int -> Prop) (μ15 : Int -> Nat), I14 (2 : Int) /\ ∀ (z13 : Int), (I14 z13 -> (((z13 < x) -> ((z13 ≠ 0) /\ ((((x.tmod z13) = (0 : Int)) -> Q false) /\ (¬ ((x.tmod z13) = (0 : Int)) -> ((I64 (z13 + (1 : Int))) /\ (I14 (z13 + (1 : Int)) /\ μ15 (z13 + (1 : Int)) < μ15 z13)))))) /\ (¬ (z13 < x) -> Q true)))
theorem Js2 {w : World} {Q : Bool -> Prop} {x : Int}  (hv : Jdr x Q) :
   Calls Tryz.prog 108 #[.int .i64 x] w fun e w' => ∃ v Qr, e = .returned v /\ w.grownBy w' none /\ Rows w.heap.size none w' Qr /\ News w.heap.size Qr /\ ∃ (r0 : Bool), v = .bool r0 /\ Qr = [] /\ Q r0 := by
 refine Jk <| Jl (vs := [nI x]) [2] XF108 rfl rfl rfl rfl ?_; have hS := Jr w; unfold Jdr at hv; refine Je 9 <| W.block ?_; obtain ⟨I14, μ15, hv, hk21⟩ := hv; refine JF (σ := Int) (fun z13 w1 => I14 z13 /\ St TT w none w1 []) (fun z13 => [(0, nI x), (2, .bool false), (3, nI z13)]) (fun z13 => μ15 z13) (2 : Int) ⟨hv, hS⟩ ⟨rfl, rfl, rfl, trivial⟩ ?_; rintro z13 w16 ⟨hv, hS⟩; have hv := hk21 z13 hv; refine Je 7 <| Ji rfl (fun c17 => ?_) (fun c17 => ?_)
 .have hv := hv.1 (oT c17); refine Jn <| Jy <| W.block <| Je 4 ?_; obtain ⟨o18, hv⟩ := hv; refine Yy (r := (x.tmod z13)) rfl rfl o18 rfl rfl <| Jb 2 <| Ji rfl (fun c19 => ?_) (fun c19 => ?_)
  .have hv := hv.1 (oT c19); refine Je 4 <| W.ret <| ⟨_, rfl, Fin.nil ?_⟩
   exact (hS.pick [] rfl).fin rfl ⟨false, rfl, rfl, hv⟩
  have hv := hv.2 (oF c19); refine Jn <| Je 2 ?_; obtain ⟨o20, hv⟩ := hv; refine WL.add (r := (z13 + (1 : Int))) rfl rfl (wr o20) rfl <| Jb 2 ?_; exact ⟨(z13 + (1 : Int)), sp rfl, hv.2, rfl, hv.1, hS⟩
 have hv := hv.2 (oF c17); refine JC <| Je 4 <| W.ret <| ⟨_, rfl, Fin.nil ?_⟩
 exact (hS.pick [] rfl).fin rfl ⟨true, rfl, rfl, hv⟩
def ZO (x : Int) (p : Int) (n : Int) (Q : List Int -> Prop) : Prop :=
  (0 <= n /\ n * 8 <= 281474976710656 /\ n <= 281474976710656) /\ (∃ (I24 : List Int -> Int -> Int -> Prop) (μ25 : List Int -> Int -> Int -> Nat), I24 (List.replicate n.toNat (0 : Int)) x (0 : Int) /\ ∀ (x21 : List Int) (z22 : Int) (z23 : Int), (I24 x21 z22 z23 -> (((z23 < n) -> ((p ≠ 0) /\ ((0 <= z23 /\ z23 < (n.toNat : Nat)) /\ ((p ≠ 0 /\ I64 (z22.tdiv p)) /\ ((I64 (z23 + (1 : Int))) /\ (I24 (si x21 z23 (z22.tmod p)) (z22.tdiv p) (z23 + (1 : Int)) /\ μ25 (si x21 z23 (z22.tmod p)) (z22.tdiv p) (z23 + (1 : Int)) < μ25 x21 z22 z23)))))) /\ (¬ (z23 < n) -> Q x21))))
theorem Jgm {w : World} {Q : List Int -> Prop} {x : Int} {p : Int} {n : Int}  (hv : ZO x p n Q) :
  Calls Tryz.prog 95 #[.int .i64 x, .int .i64 p, .int .i64 n] w fun e w' => ∃ v Qr, e = .returned v /\ w.grownBy w' none /\ Rows w.heap.size none w' Qr /\ News w.heap.size Qr /\ ∃ (x : List Int)  (A : Option Addr) (c : Nat), v = .slice A x.length c /\ Qr = [.row 3 1 A x.length c (is x)] /\ Q x := by
 refine Jk <| Jl (vs := [nI x, nI p, nI n]) [6] XF95 rfl rfl rfl rfl ?_; have hS := Jr w; unfold ZO at hv; refine Je 7 ?_; obtain ⟨o11, hv⟩ := hv; refine QB (J := n) hS Jq XE3 rfl rfl o11 (QJ _) rfl ?_; intro A12 w13 hS; refine Jb 2 <| Je 5 <| W.block ?_; obtain ⟨I24, μ25, hv, hk33⟩ := hv; refine JF (σ := List Int × Int × Int) (fun q w1 => match q with | (x21, z22, z23) => I24 x21 z22 z23 /\ St TT w none w1 [.row 3 1 A12 n.toNat n.toNat (is x21)]) (fun q => match q with | (x21, z22, z23) => [(0, nI z22), (1, nI p), (2, nI n), (6, .slice none 0 0), (7, .slice A12 n.toNat n.toNat), (8, nI z23)]) (fun q => match q with | (x21, z22, z23) => μ25 x21 z22 z23) (List.replicate n.toNat (0 : Int), x, (0 : Int)) ⟨hv, hS⟩ ⟨rfl, rfl, rfl, rfl, rfl, rfl, trivial⟩ ?_; rintro ⟨x21, z22, z23⟩ w26 ⟨hv, hS⟩; have hv := hk33 x21 z22 z23 hv; refine Je 7 <| Ji rfl (fun c27 => ?_) (fun c27 => ?_)
 .have hv := hv.1 (oT c27); refine Jn <| Jy <| W.block <| Je 6 ?_; obtain ⟨o28, hv⟩ := hv; refine Yy (r := (z22.tmod p)) rfl rfl o28 rfl rfl ?_; obtain ⟨o29, hv⟩ := hv; refine Jj Jq XE3 (hS.rd (i := 0) rfl) rfl rfl o29 rfl <| JG (cs' := is (si x21 z23 (z22.tmod p))) 0 z23.toNat hS rfl XE3 rfl rfl rfl (QE (hS.rd (i := 0) rfl) o29) (Qp _ _ _) ?_; intro w30 hS; refine Ja <| Je 3 ?_; obtain ⟨o31, hv⟩ := hv; refine Jo5 (r := (z22.tdiv p)) rfl rfl o31.1 (wr o31.2) rfl <| Jb 2 <| Je 2 ?_; obtain ⟨o32, hv⟩ := hv; refine WL.add (r := (z23 + (1 : Int))) rfl rfl (wr o32) rfl <| Jb 2 ?_; exact ⟨(si x21 z23 (z22.tmod p), (z22.tdiv p), (z23 + (1 : Int))), sp rfl, hv.2, rfl, hv.1, hS⟩
 have hv := hv.2 (oF c27); refine JC <| Je 5 <| W.ret ?_; have hm := (hS.rd (i := 0) rfl).ilen; have hS := hS.relen (i := 0) rfl hm.symm; refine ⟨_, rfl, Fin.nil ?_⟩; exact ⟨_, hS.ext, (hS.pick [0] rfl).rows, JT (hS.pick [0] rfl).rows rfl, ⟨x21, A12, n.toNat, (by rw [hm]), rfl, hv⟩⟩
end Go.Proofs.YtngdhnijkgjhcaaGreat
namespace Go.Proofs.YtngdhnijkgjhcaaGreat
open Go.RowKit
theorem Jj4 {w : World} {p : Addr} {A : Option Addr} {m c : Nat} (hm : m <= 9223372036854775807) :
    SeqJ Tryz.prog 146 #[.pointer (some p)] (fun w1 => w1.cell? p = some (.slice A m c) /\ ∃ l : List Int, ∃ B, Rd B w1 1 A m c (is l)) (fun i x w1 => ∃ v : Int, x = #[.int .i64 ((m - 1 - i : Nat) : Int), .int .i64 v] /\ w1.cell? ((JV A).add (m - 1 - i)) = some (.int .i64 v)) m w := by
  intro l J Jx Wn hW hJ hJx hM hY h0
  refine Jl (vs := [.func (.yield l) #[] #[], .pointer (some p)]) (R := fun _ w' => J m w' ∨ ∃ i, i <= m /\ Jx i w') [] Tryz.func146 rfl rfl rfl rfl ?_
  have hM0 := hM 0 Wn h0
  refine Jy ?_
  refine JA ?_
  refine Jm Tryz.underlying22 rfl rfl hM0.1 rfl ?_
  refine WL.len Tryz.underlying22 rfl rfl ?_
  refine WL.sub (r := (m : Int) - 1) rfl rfl (wi64 (by omega) (by omega) rfl) rfl ?_
  refine Qd rfl rfl ?_
  refine Ja ?_
  refine W.block ?_
  refine JF (σ := Nat) (fun i w1 => J i w1 /\ i <= m) (fun i => [(0, .func (.yield l) #[] #[]), (1, .pointer (some p)), (3, .int .i64 ((m : Int) - 1 - i))]) (fun i => m - i) 0 ⟨h0, Nat.zero_le _⟩ ⟨rfl, rfl, iv (by omega), trivial⟩ ?_
  rintro i w1 ⟨hi, hle⟩
  obtain ⟨hMp, xs, Bx, hR⟩ := hM i w1 hi
  refine Jy ?_
  refine Jy ?_
  refine JA ?_
  refine Jp rfl rfl ?_
  refine Jsc rfl rfl rfl ?_
  refine Ja ?_
  refine Ji rfl (fun c => ?_) (fun c => ?_)
  . have c := of_decide_eq_true c
    have hj : (m : Int) - 1 - i = ((m - 1 - i : Nat) : Int) := by omega
    rw [hj]
    refine Jn ?_
    refine Jy ?_
    refine W.block ?_
    refine Jy ?_
    refine JA ?_
    refine Jp rfl rfl ?_
    refine Jp rfl rfl ?_
    refine Jm Tryz.underlying22 rfl rfl hMp rfl ?_
    refine Jp rfl rfl ?_
    refine Jbs (m - 1 - i) Tryz.underlying22 Jm0 rfl rfl rfl (by omega) hR rfl ?_
    have hcell := hR.at_ (Jyi (show m - 1 - i < xs.length by have := hR.ilen; omega))
    refine Jm Tryz.underlying3 rfl rfl hcell rfl ?_
    refine Jmq (vs := [.int .i64 ((m - 1 - i : Nat) : Int), .int .i64 (xs.getD (m - 1 - i) 0)]) rfl rfl rfl (hY i #[.int .i64 ((m - 1 - i : Nat) : Int), .int .i64 (xs.getD (m - 1 - i) 0)] w1 hi (by omega) ⟨_, rfl, hcell⟩) (fun e w' h => by rcases h with ⟨h, _⟩ | ⟨h, _⟩ <;> exact ⟨_, h⟩) ?_
    rintro v w2 (⟨hv, h⟩ | ⟨hv, h⟩)
    . cases hv
      refine Jco rfl rfl ?_
      refine Ja ?_
      refine QL rfl ?_
      refine Jn ?_
      refine JA ?_
      refine Jp rfl rfl ?_
      refine WL.sub (r := (m : Int) - 1 - ((i + 1 : Nat) : Int)) rfl rfl (wi64 (by omega) (by omega) (by omega)) rfl ?_
      refine Qd rfl rfl ?_
      refine Ja ?_
      exact ⟨i + 1, ⟨rfl, rfl, rfl, trivial⟩, by omega, rfl, h, by omega⟩
    . cases hv
      refine Jco rfl rfl ?_
      refine Ja ?_
      refine Ql rfl ?_
      refine W.ret ?_
      exact ⟨_, rfl, Fin.nil (.inr ⟨i + 1, by omega, h⟩)⟩
  . have c := of_decide_eq_false c
    refine JC ?_
    have : i = m := by omega
    subst this
    exact ⟨_, rfl, Fin.nil (.inl hi)⟩
theorem Jjy {w : World} {p ad : Addr} {q : Int} (hq : I64 q) (hp : w.cell? p = some (.pointer (some ad))) (ha : w.cell? (ad.add 3) = some (.int .i64 q)) :
  SeqJ Tryz.prog 139 #[.pointer (some p)] (fun _ => True) (fun i x _ => x = #[.int .i64 (i : Int)]) q.toNat w := by
 intro l J Jx Wn hW hJ hJx _ hY h0; have hp' : Wn.cell? p = some (.pointer (some ad)) := (hW.cell (World.block_lt_of_cell? w _ hp)).trans hp; have ha' : Wn.cell? (ad.add 3) = some (.int .i64 q) := (hW.cell (World.block_lt_of_cell? w _ ha)).trans ha; refine Jl (vs := [.func (.yield l) #[] #[], .pointer (some p)]) (R := fun _ w' => J q.toNat w' ∨ ∃ i, i <= q.toNat /\ Jx i w') [] Tryz.func139 rfl rfl rfl rfl ?_; refine Jy ?_; refine JA ?_; refine Jm Tryz.underlying84 rfl rfl hp' rfl ?_; refine Q6 rfl rfl ?_; refine Jd (off := 3) Jce rfl rfl ?_; refine Jm Tryz.underlying3 rfl rfl ha' rfl ?_; refine Jp rfl rfl ?_; refine Ja ?_; refine W.block ?_; refine JF (σ := Nat) (fun i w1 => J i w1 /\ i <= q.toNat) (fun i => [(0, .func (.yield l) #[] #[]), (7, .int .i64 q), (8, .int .i64 (i : Int))]) (fun i => q.toNat - i) 0 ⟨h0, Nat.zero_le _⟩ ⟨rfl, rfl, rfl, trivial⟩ ?_; rintro i w1 ⟨hi, hle⟩; refine Jy ?_; refine JA ?_; refine QY rfl rfl rfl ?_; refine Ja ?_; refine Jy ?_; refine Ji rfl (fun c => ?_) (fun c => ?_)
 .have c := of_decide_eq_true c; refine Jn ?_; refine Jy ?_; refine W.block ?_; refine Jy ?_; refine JA ?_; refine Jp rfl rfl ?_; refine Qd rfl rfl ?_; refine Ja ?_; refine Jy ?_; refine JA ?_; refine Jp rfl rfl ?_; refine Jp rfl rfl ?_; refine Jmq (vs := [.int .i64 (i : Int)]) rfl rfl rfl (hY i #[.int .i64 (i : Int)] w1 hi (by omega) rfl) (fun e w' h => by rcases h with ⟨h, _⟩ | ⟨h, _⟩ <;> exact ⟨_, h⟩) ?_; rintro v w2 (⟨hv, h⟩ | ⟨hv, h⟩)
  .cases hv; refine Jco rfl rfl ?_; refine Ja ?_; refine QL rfl ?_; refine Jn ?_; refine JA ?_; refine WL.add (r := ((i + 1 : Nat) : Int)) rfl rfl (wi64 (by omega) (by have := hq.2; omega) (by omega)) rfl ?_; refine Jp rfl rfl ?_; refine Ja ?_; exact ⟨i + 1, ⟨rfl, rfl, rfl, trivial⟩, by omega, rfl, h, by omega⟩
  .cases hv; refine Jco rfl rfl ?_; refine Ja ?_; refine Ql rfl ?_; refine W.ret ?_; exact ⟨_, rfl, Fin.nil (.inr ⟨i + 1, by omega, h⟩)⟩
 .have c := of_decide_eq_false c; refine JC ?_; have : i = q.toNat := by omega
  subst this; exact ⟨_, rfl, Fin.nil (.inl hi)⟩
end Go.Proofs.YtngdhnijkgjhcaaGreat
namespace Go.Proofs.YtngdhnijkgjhcaaGreat
open Go.RowKit
structure GFv where
  P : Int
  M : Int
  mod : List Int
  q : Int
  exp : List Int
  log : List Int
  above : List Int
def GFR (B : Nat) (w : World) (ad : Addr) (F : GFv) : Prop := ∃ A1 k1 A2 k2 A3 k3 A4 k4,
  Rd B w 7 (some ad) 1 1 [.int .i64 F.P, .int .i64 F.M, .slice A1 F.mod.length k1, .int .i64 F.q, .slice A2 F.exp.length k2, .slice A3 F.log.length k3, .slice A4 F.above.length k4] /\
  Rd B w 1 A1 F.mod.length k1 (is F.mod) /\ Rd B w 1 A2 F.exp.length k2 (is F.exp) /\ Rd B w 1 A3 F.log.length k3 (is F.log) /\ Rd B w 1 A4 F.above.length k4 (is F.above)
theorem GFR.ext {B : Nat} {w w' : World} {ad : Addr} {F : GFv} (h : GFR B w ad F) (hg : w.grownBy w' none) : GFR B w' ad F := by
 obtain ⟨A1, k1, A2, k2, A3, k3, A4, k4, h1, h2, h3, h4, h5⟩ := h; exact ⟨A1, k1, A2, k2, A3, k3, A4, k4, h1.ext hg, h2.ext hg, h3.ext hg, h4.ext hg, h5.ext hg⟩
def GFX (lo B : Nat) (w : World) (ad : Addr) (F : GFv) : Prop := ∃ A1 k1 A2 k2 A3 k3 A4 k4,
  (Rd B w 7 (some ad) 1 1 [.int .i64 F.P, .int .i64 F.M, .slice A1 F.mod.length k1, .int .i64 F.q, .slice A2 F.exp.length k2, .slice A3 F.log.length k3, .slice A4 F.above.length k4] /\ lo <= ad.block) /\
  (Rd B w 1 A1 F.mod.length k1 (is F.mod) /\ ∀ g, bl A1 = some g -> lo <= g) /\ (Rd B w 1 A2 F.exp.length k2 (is F.exp) /\ ∀ g, bl A2 = some g -> lo <= g) /\ (Rd B w 1 A3 F.log.length k3 (is F.log) /\ ∀ g, bl A3 = some g -> lo <= g) /\ (Rd B w 1 A4 F.above.length k4 (is F.above) /\ ∀ g, bl A4 = some g -> lo <= g)
theorem GFX.gfr {lo B : Nat} {w : World} {ad : Addr} {F : GFv} (h : GFX lo B w ad F) : GFR B w ad F := by
 obtain ⟨A1, k1, A2, k2, A3, k3, A4, k4, h1, h2, h3, h4, h5⟩ := h; exact ⟨A1, k1, A2, k2, A3, k3, A4, k4, h1.1, h2.1, h3.1, h4.1, h5.1⟩
theorem Rd.steady {lo B : Nat} {w w' : World} {z : Nat} {A : Option Addr} {m c : Nat} {cs : List Value} (h : Rd B w z A m c cs) (hl : ∀ g, bl A = some g -> lo <= g) (hw : ∀ k, lo <= k -> k < B -> w'.heap[k]? = w.heap[k]?) : Rd B w' z A m c cs :=
 ⟨h.len, h.cap, h.max, fun hm => by
  obtain ⟨ad, e1, e2, e3⟩ := h.cells hm; refine ⟨ad, e1, e2, fun j u hu => (World.cell?_of_block (hw _ ?_ ?_)).trans (e3 j u hu)⟩
  .rw [Yb]; exact hl _ (by rw [e1]; rfl)
  .rw [Yb]; exact e2⟩
theorem GFX.steady {lo B : Nat} {ad : Addr} {F : GFv} : Qaa lo B (fun w => GFX lo B w ad F) := by
 rintro w w' hw ⟨A1, k1, A2, k2, A3, k3, A4, k4, h1, h2, h3, h4, h5⟩; exact ⟨A1, k1, A2, k2, A3, k3, A4, k4, ⟨h1.1.steady (fun g hg => by cases hg; exact h1.2) hw, h1.2⟩, ⟨h2.1.steady h2.2 hw, h2.2⟩, ⟨h3.1.steady h3.2 hw, h3.2⟩, ⟨h4.1.steady h4.2 hw, h4.2⟩, ⟨h5.1.steady h5.2 hw, h5.2⟩⟩
theorem gfx_mk {lo B : Nat} {w : World} {ad : Addr} {F : GFv} {A1 A2 A3 A4 : Option Addr} {k1 k2 k3 k4 n1 n2 n3 n4 : Nat}
  (h : Rd B w 7 (some ad) 1 1 [.int .i64 F.P, .int .i64 F.M, .slice A1 n1 k1, .int .i64 F.q, .slice A2 n2 k2, .slice A3 n3 k3, .slice A4 n4 k4]) (hl : lo <= ad.block)
  (h1 : Rd B w 1 A1 n1 k1 (is F.mod) /\ ∀ g, bl A1 = some g -> lo <= g) (h2 : Rd B w 1 A2 n2 k2 (is F.exp) /\ ∀ g, bl A2 = some g -> lo <= g) (h3 : Rd B w 1 A3 n3 k3 (is F.log) /\ ∀ g, bl A3 = some g -> lo <= g) (h4 : Rd B w 1 A4 n4 k4 (is F.above) /\ ∀ g, bl A4 = some g -> lo <= g) : GFX lo B w ad F := by
 have e1 := h1.1.ilen; have e2 := h2.1.ilen; have e3 := h3.1.ilen; have e4 := h4.1.ilen; subst e1; subst e2; subst e3; subst e4; exact ⟨A1, k1, A2, k2, A3, k3, A4, k4, ⟨h, hl⟩, h1, h2, h3, h4⟩
theorem St.base {X : World -> Prop} {w0 w : World} {R : List Rw} {i e z m c : Nat} {A : Option Addr} {cs : List Value} (h : St X w0 none w R) (hi : R[i]? = some (.row e z A m c cs)) : ∀ g, bl A = some g -> w0.heap.size <= g := fun g hg => ((h.rows.get hi).2 g hg).resolve_right (by simp)
theorem GFR.norm {B : Nat} {w : World} {ad : Addr} {F : GFv} (h : GFR B w ad F) : GFR w.heap.size w ad F := by
 obtain ⟨A1, k1, A2, k2, A3, k3, A4, k4, h1, h2, h3, h4, h5⟩ := h; exact ⟨A1, k1, A2, k2, A3, k3, A4, k4, h1.norm, h2.norm, h3.norm, h4.norm, h5.norm⟩
end Go.Proofs.YtngdhnijkgjhcaaGreat
namespace Go.Proofs.YtngdhnijkgjhcaaGreat
open Go.RowKit
def Jhi (x : Int) (Pf : Int) (Mf : Int) (mf : List Int) (Q : Bool -> Prop) : Prop :=
  ((x < (0 : Int)) -> Q true) /\ (¬ (x < (0 : Int)) -> (Q (decide (Pf <= x))))
theorem Js7 {w : World} {Q : Bool -> Prop} {x : Int} {Pf : Int} {Mf : Int} {mf : List Int} {af : Addr} {Bf Cf : Nat} {Af : Option Addr} {nf kf : Nat} (hcf : Rd Cf w 3 (some af) 1 1 [.int .i64 Pf, .int .i64 Mf, .slice Af nf kf]) (hmf : Rd Bf w 1 Af nf kf (is mf)) (hv : Jhi x Pf Mf mf Q) :
   Calls Tryz.prog 130 #[.int .i64 x, .pointer (some af)] w fun e w' => ∃ v Qr, e = .returned v /\ w.grownBy w' none /\ Rows w.heap.size none w' Qr /\ News w.heap.size Qr /\ ∃ (r0 : Bool), v = .bool r0 /\ Qr = [] /\ Q r0 := by
 have hnf := hmf.ilen; subst hnf; refine Jk <| Jl (vs := [nI x, .pointer (some af)]) [3] XF130 rfl rfl rfl rfl ?_; have hS := Jr w; unfold Jhi at hv; refine Je 8 <| Jp rfl rfl ?_; by_cases g11 : x < (0 : Int)
 .have hv := hv.1 g11; rw [decide_eq_true g11]; refine Jb 7 <| W.ret <| ⟨_, rfl, Fin.nil ?_⟩
  exact (hS.pick [] rfl).fin rfl ⟨true, rfl, rfl, hv⟩
 have hv := hv.2 g11; rw [decide_eq_false g11]; refine Jb 3 <| Jd (off := 0) Qj rfl rfl <| WL.take rfl <| Jm XU3 rfl rfl (Rd.at_ (hS.ro hcf) (j := 0) rfl) rfl <| Jb 5 <| W.ret <| ⟨_, rfl, Fin.nil ?_⟩
 exact (hS.pick [] rfl).fin rfl ⟨(decide (Pf <= x)), rfl, rfl, hv⟩
def Jcq (x : Int) (Q : Bool -> Prop) : Prop :=
  Q (decide (x ≠ (0 : Int)))
theorem Jln {w : World} {Q : Bool -> Prop} {x : Int}  (hv : Jcq x Q) :
  Calls Tryz.prog 143 #[.int .i64 x] w fun e w' => ∃ v Qr, e = .returned v /\ w.grownBy w' none /\ Rows w.heap.size none w' Qr /\ News w.heap.size Qr /\ ∃ (r0 : Bool), v = .bool r0 /\ Qr = [] /\ Q r0 := by
 refine Jk <| Jl (vs := [nI x]) [2] XF143 rfl rfl rfl rfl ?_; have hS := Jr w; unfold Jcq at hv; refine Je 10 <| W.ret <| ⟨_, rfl, Fin.nil ?_⟩
 exact (hS.pick [] rfl).fin rfl ⟨(decide (x ≠ (0 : Int))), rfl, rfl, hv⟩
def Y9 (l : List Int) (p : Int -> (Bool -> Prop) -> Prop) (Q : Int -> Prop) : Prop :=
  ∃ (I14 : Int -> Prop) (μ15 : Int -> Nat), I14 (0 : Int) /\ ∀ (z13 : Int), (I14 z13 -> (((z13 < (l.length : Int)) -> ((0 <= z13 /\ z13 < (l.length : Nat)) /\ (p (gi l z13) (fun b20 => ((b20 = true) -> Q z13) /\ (b20 = false -> ((I64 (z13 + (1 : Int))) /\ (I14 (z13 + (1 : Int)) /\ μ15 (z13 + (1 : Int)) < μ15 z13))))))) /\ (¬ (z13 < (l.length : Int)) -> (Q (-1 : Int)))))
theorem Jgp {w : World} {Q : Int -> Prop} {l : List Int} {p : Int -> (Bool -> Prop) -> Prop} {Bl : Nat} {Al : Option Addr} {nl kl : Nat} (hl : Rd Bl w 1 Al nl kl (is l)) {cfp : Nat} {cgp : Func} {ccp : Code} {csp : List Value} (hcfp : Tryz.prog.funcs[cfp]? = some cgp) (hcbp : cgp.body = some ccp) (hcnp : (cgp.name == "runtime.NumGoroutine") = false) (hclp : ∀ (wc : World) (xc : Int) (Qc : Bool -> Prop), w.grownBy wc none -> p xc Qc -> Calls Tryz.prog cfp (.int .i64 xc :: csp).toArray wc fun e w' => ∃ v Qr, e = .returned v /\ wc.grownBy w' none /\ Rows wc.heap.size none w' Qr /\ News wc.heap.size Qr /\ ∃ b : Bool, v = .bool b /\ Qr = [] /\ Qc b) (hv : Y9 l p Q) :
   Calls Tryz.prog 85 #[.slice Al nl kl, .func (.func cfp) #[] csp.toArray] w fun e w' => ∃ v Qr, e = .returned v /\ w.grownBy w' none /\ Rows w.heap.size none w' Qr /\ News w.heap.size Qr /\ ∃ (r0 : Int), v = .int .i64 r0 /\ Qr = [] /\ Q r0 := by
 have hnl := hl.ilen; subst hnl; refine Jk <| Jl (vs := [nS Al l kl, .func (.func cfp) #[] csp.toArray]) [4] XF85 rfl rfl rfl rfl ?_; have hS := Jr w; unfold Y9 at hv; refine Je 8 <| WL.len Jq rfl rfl <| Jb 2 <| W.block ?_; obtain ⟨I14, μ15, hv, hk23⟩ := hv; refine JF (σ := Int) (fun z13 w1 => I14 z13 /\ St TT w none w1 []) (fun z13 => [(0, nS Al l kl), (1, .func (.func cfp) #[] csp.toArray), (4, nI 0), (7, nI (l.length : Int)), (8, nI z13)]) (fun z13 => μ15 z13) (0 : Int) ⟨hv, hS⟩ ⟨rfl, rfl, rfl, rfl, rfl, trivial⟩ ?_; rintro z13 w16 ⟨hv, hS⟩; have hv := hk23 z13 hv; refine Je 5 <| Ji rfl (fun c17 => ?_) (fun c17 => ?_)
 .have hv := hv.1 (oT c17); refine Jn <| Jy <| W.block <| Je 10 ?_; obtain ⟨o18, hv⟩ := hv; refine Jj Jq XE3 (hS.ro hl) rfl rfl o18 rfl <| Jm XU3 rfl rfl (JR (hS.ro hl) o18) rfl <| Qae (vs := [nI (gi l z13)]) (cs := csp) hS (hclp _ _ _ hS.ext hv) rfl hcfp hcbp hcnp rfl rfl ?_; rintro _ _ w19 ⟨b20, rfl, rfl, hv⟩ hGw19 hS
  change St _ _ _ _ [] at hS
  refine Ja <| Ji rfl (fun c21 => ?_) (fun c21 => ?_)
  .have hv := hv.1 (c21); refine Je 5 <| W.ret <| ⟨_, rfl, Fin.nil ?_⟩
   exact (hS.pick [] rfl).fin rfl ⟨z13, rfl, rfl, hv⟩
  have hv := hv.2 (c21); refine Jn <| JA ?_; obtain ⟨o22, hv⟩ := hv; refine WL.add (r := (z13 + (1 : Int))) rfl rfl (wr o22) rfl <| Jb 2 ?_; exact ⟨(z13 + (1 : Int)), sp rfl, hv.2, rfl, hv.1, hS⟩
 have hv := hv.2 (oF c17); refine JC <| Je 4 <| W.ret <| ⟨_, rfl, Fin.nil ?_⟩
 exact (hS.pick [] rfl).fin rfl ⟨(-1 : Int), rfl, rfl, hv⟩
def Q8 (l : List Int) (p : Int -> (Bool -> Prop) -> Prop) (Q : Bool -> Prop) : Prop :=
  Y9 l p (fun r12 => Q (decide ((0 : Int) <= r12)))
theorem Zo {w : World} {Q : Bool -> Prop} {l : List Int} {p : Int -> (Bool -> Prop) -> Prop} {Bl : Nat} {Al : Option Addr} {nl kl : Nat} (hl : Rd Bl w 1 Al nl kl (is l)) {cfp : Nat} {cgp : Func} {ccp : Code} {csp : List Value} (hcfp : Tryz.prog.funcs[cfp]? = some cgp) (hcbp : cgp.body = some ccp) (hcnp : (cgp.name == "runtime.NumGoroutine") = false) (hclp : ∀ (wc : World) (xc : Int) (Qc : Bool -> Prop), w.grownBy wc none -> p xc Qc -> Calls Tryz.prog cfp (.int .i64 xc :: csp).toArray wc fun e w' => ∃ v Qr, e = .returned v /\ wc.grownBy w' none /\ Rows wc.heap.size none w' Qr /\ News wc.heap.size Qr /\ ∃ b : Bool, v = .bool b /\ Qr = [] /\ Qc b) (hv : Q8 l p Q) :
  Calls Tryz.prog 78 #[.slice Al nl kl, .func (.func cfp) #[] csp.toArray] w fun e w' => ∃ v Qr, e = .returned v /\ w.grownBy w' none /\ Rows w.heap.size none w' Qr /\ News w.heap.size Qr /\ ∃ (r0 : Bool), v = .bool r0 /\ Qr = [] /\ Q r0 := by
 have hnl := hl.ilen; subst hnl; refine Jk <| Jl (vs := [nS Al l kl, .func (.func cfp) #[] csp.toArray]) [4] XF78 rfl rfl rfl rfl ?_; have hS := Jr w; unfold Q8 at hv; refine Je 8 <| SL.call hS (Jgp (hS.ro hl) hcfp hcbp hcnp (fun wc xc Qc hg hv => hclp wc xc Qc (Jem hS.ext hg) hv) hv) XF85 rfl XN85 rfl rfl ?_; rintro _ _ w11 ⟨r12, rfl, rfl, hv⟩ hGw11 hS; have hS := hS.n0; refine Jb 3 <| W.ret <| ⟨_, rfl, Fin.nil ?_⟩
 exact (hS.pick [] rfl).fin rfl ⟨(decide ((0 : Int) <= r12)), rfl, rfl, hv⟩
def ZT (p : Int) (l : List Int) (o : List Int) (Q : Bool -> Prop) : Prop :=
  Zb o (fun x12 => (I64 ((x12.length : Int) - (1 : Int))) /\ (∃ (I23 : List Int -> Int -> Prop) (μ24 : List Int -> Int -> Nat), I23 x12 ((x12.length : Int) - (1 : Int)) /\ ∀ (x21 : List Int) (z22 : Int), (I23 x21 z22 -> ((((l.length : Int) <= z22) -> (∃ (I33 : List Int -> Int -> Prop) (μ34 : List Int -> Int -> Nat), I33 x21 (0 : Int) /\ ∀ (x31 : List Int) (z32 : Int), (I33 x31 z32 -> (((z32 < (l.length : Int)) -> ((0 <= z32 /\ z32 < (l.length : Nat)) /\ ((I64 (z22 - (l.length : Int))) /\ ((I64 ((z22 - (l.length : Int)) + z32)) /\ ((0 <= ((z22 - (l.length : Int)) + z32) /\ ((z22 - (l.length : Int)) + z32) < (x12.length : Nat)) /\ ((I64 (p - (gi l z32))) /\ ((0 <= z22 /\ z22 < (x12.length : Nat)) /\ ((I64 ((p - (gi l z32)) * (gi x31 z22))) /\ ((I64 ((gi x31 ((z22 - (l.length : Int)) + z32)) + ((p - (gi l z32)) * (gi x31 z22)))) /\ ((p ≠ 0) /\ ((0 <= ((z22 - (l.length : Int)) + z32) /\ ((z22 - (l.length : Int)) + z32) < (x12.length : Nat)) /\ ((I64 (z32 + (1 : Int))) /\ (I33 (si x31 ((z22 - (l.length : Int)) + z32) (((gi x31 ((z22 - (l.length : Int)) + z32)) + ((p - (gi l z32)) * (gi x31 z22))).tmod p)) (z32 + (1 : Int)) /\ μ34 (si x31 ((z22 - (l.length : Int)) + z32) (((gi x31 ((z22 - (l.length : Int)) + z32)) + ((p - (gi l z32)) * (gi x31 z22))).tmod p)) (z32 + (1 : Int)) < μ34 x31 z32))))))))))))) /\ (¬ (z32 < (l.length : Int)) -> ((I64 (z22 - (1 : Int))) /\ (I23 x31 (z22 - (1 : Int)) /\ μ24 x31 (z22 - (1 : Int)) < μ24 x21 z22))))))) /\ (¬ ((l.length : Int) <= z22) -> ((0 <= (l.length : Int) /\ (l.length : Int) <= (x12.length : Nat)) /\ (Q8 (x21.take (l.length : Int).toNat) (fun xc Qc => Jcq xc  Qc) (fun r71 => Q (!r71)))))))))
theorem Jn2 {w : World} {Q : Bool -> Prop} {p : Int} {l : List Int} {o : List Int} {Bl : Nat} {Al : Option Addr} {nl kl : Nat} (hl : Rd Bl w 1 Al nl kl (is l)) {Bo : Nat} {Ao : Option Addr} {no ko : Nat} (ho : Rd Bo w 1 Ao no ko (is o)) (hv : ZT p l o Q) :
   Calls Tryz.prog 137 #[.int .i64 p, .slice Al nl kl, .slice Ao no ko] w fun e w' => ∃ v Qr, e = .returned v /\ w.grownBy w' none /\ Rows w.heap.size none w' Qr /\ News w.heap.size Qr /\ ∃ (r0 : Bool), v = .bool r0 /\ Qr = [] /\ Q r0 := by
 have hnl := hl.ilen; subst hnl; have hno := ho.ilen; subst hno; refine Jk <| Jl (vs := [nI p, nS Al l kl, nS Ao o ko]) [6] XF137 rfl rfl rfl rfl ?_; have hS := Jr w; unfold ZT at hv; refine Je 7 <| SL.call hS (ZI (hS.ro ho) hv) Jo2 rfl Jt2 rfl rfl ?_; rintro _ _ w11 ⟨x12, A13, k14, rfl, rfl, hv⟩ hGw11 hS; have hS := hS.n1; refine Jb 2 <| Je 4 <| WL.len Jq rfl rfl ?_; obtain ⟨o16, hv⟩ := hv; refine WL.sub (r := ((x12.length : Int) - (1 : Int))) rfl rfl (wr o16) rfl <| Jb 2 <| W.block ?_; obtain ⟨I23, μ24, hv, hk72⟩ := hv; refine JF (σ := List Int × Int) (fun q w1 => match q with | (x21, z22) => I23 x21 z22 /\ St TT w none w1 [.row 3 1 A13 x12.length k14 (is x21)]) (fun q => match q with | (x21, z22) => [(0, nI p), (1, nS Al l kl), (6, .bool false), (7, nS A13 x12 k14), (8, nI z22)]) (fun q => match q with | (x21, z22) => μ24 x21 z22) (x12, ((x12.length : Int) - (1 : Int))) ⟨hv, hS⟩ ⟨rfl, rfl, rfl, rfl, rfl, trivial⟩ ?_; rintro ⟨x21, z22⟩ w25 ⟨hv, hS⟩; have hv := hk72 x21 z22 hv; refine Je 5 <| WL.len Jq rfl rfl <| Jb 2 <| Ji rfl (fun c26 => ?_) (fun c26 => ?_)
 .have hv := hv.1 (oT c26); refine Jn <| Jy <| W.block <| Je 3 <| WL.len Jq rfl rfl <| Jb 2 <| W.block ?_; obtain ⟨I33, μ34, hv, hk68⟩ := hv; refine JF (σ := List Int × Int) (fun q w1 => match q with | (x31, z32) => I33 x31 z32 /\ St TT w none w1 [.row 3 1 A13 x12.length k14 (is x31)]) (fun q => match q with | (x31, z32) => [(0, nI p), (1, nS Al l kl), (6, .bool false), (7, nS A13 x12 k14), (8, nI z22), (20, .bool (decide ((l.length : Int) <= z22))), (23, nS Al l kl), (24, nI (l.length : Int)), (25, nI z32)]) (fun q => match q with | (x31, z32) => μ34 x31 z32) (x21, (0 : Int)) ⟨hv, hS⟩ ⟨rfl, rfl, rfl, rfl, rfl, rfl, rfl, rfl, rfl, trivial⟩ ?_; rintro ⟨x31, z32⟩ w35 ⟨hv, hS⟩; have hv := hk68 x31 z32 hv; refine Je 5 <| Ji rfl (fun c36 => ?_) (fun c36 => ?_)
  .have hv := hv.1 (oT c36); refine Jn <| Jy <| W.block <| Je 3 ?_; obtain ⟨o37, hv⟩ := hv; refine Jj Jq XE3 (hS.ro hl) rfl rfl o37 rfl <| Jm XU3 rfl rfl (JR (hS.ro hl) o37) rfl <| Jb 3 <| Je 4 <| WL.len Jq rfl rfl ?_; obtain ⟨o38, hv⟩ := hv; refine WL.sub (r := (z22 - (l.length : Int))) rfl rfl (wr o38) rfl <| Jp rfl rfl ?_; obtain ⟨o39, hv⟩ := hv; refine WL.add (r := ((z22 - (l.length : Int)) + z32)) rfl rfl (wr o39) rfl <| Jb 2 ?_; obtain ⟨o45, hv⟩ := hv; obtain ⟨o50, hv⟩ := hv; obtain ⟨o54, hv⟩ := hv; obtain ⟨o57, hv⟩ := hv; obtain ⟨o59, hv⟩ := hv; obtain ⟨o62, hv⟩ := hv; refine JY 17 [⟨[], [7], true⟩, ⟨[], [11], true⟩, ⟨[], [7], true⟩, ⟨[], [11], true⟩, ⟨[2, 3], [], true⟩, ⟨[4], [], false⟩, ⟨[], [0], true⟩, ⟨[], [10], true⟩, ⟨[6, 7], [], true⟩, ⟨[], [7], true⟩, ⟨[], [8], true⟩, ⟨[9, 10], [], true⟩, ⟨[11], [], false⟩, ⟨[8, 12], [], true⟩, ⟨[5, 13], [], true⟩, ⟨[], [0], true⟩, ⟨[14, 15], [], true⟩] [(36, nS A13 x12 k14), (37, nI ((z22 - (l.length : Int)) + z32)), (38, nS A13 x12 k14), (39, nI ((z22 - (l.length : Int)) + z32)), (40, .pointer (some ((JV A13).add (((z22 - (l.length : Int)) + z32).toNat)))), (41, nI (gi x31 ((z22 - (l.length : Int)) + z32))), (42, nI p), (43, nI (gi l z32)), (44, nI (p - (gi l z32))), (45, nS A13 x12 k14), (46, nI z22), (47, .pointer (some ((JV A13).add z22.toNat))), (48, nI (gi x31 z22)), (49, nI ((p - (gi l z32)) * (gi x31 z22))), (50, nI ((gi x31 ((z22 - (l.length : Int)) + z32)) + ((p - (gi l z32)) * (gi x31 z22)))), (51, nI p), (52, nI (((gi x31 ((z22 - (l.length : Int)) + z32)) + ((p - (gi l z32)) * (gi x31 z22))).tmod p))] Jv (by kernel_rfl) rfl rfl ?_ ?_
   .refine ⟨oA fun _ => rfl, oA fun _ => rfl, oA fun _ => rfl, oA fun _ => rfl, fun _ _ _ => Jj Jq XE3 (hS.rd (i := 0) rfl) rfl rfl o45 rfl <| Ja ⟨rfl, rfl⟩, fun _ hE _ => have hS := hS.grow (hE rfl); Jm XU3 rfl rfl (JR (hS.rd (i := 0) rfl) o45) rfl <| Ja ⟨rfl, Jf _⟩, oA fun _ => rfl, oA fun _ => rfl, fun _ _ _ => WL.sub (r := (p - (gi l z32))) rfl rfl (wr o50) rfl <| Ja ⟨rfl, rfl⟩, oA fun _ => rfl, oA fun _ => rfl, fun _ _ _ => Jj Jq XE3 (hS.rd (i := 0) rfl) rfl rfl o54 rfl <| Ja ⟨rfl, rfl⟩, fun _ hE _ => have hS := hS.grow (hE rfl); Jm XU3 rfl rfl (JR (hS.rd (i := 0) rfl) o54) rfl <| Ja ⟨rfl, Jf _⟩, fun _ _ _ => WL.mul (r := ((p - (gi l z32)) * (gi x31 z22))) rfl rfl (wr o57) rfl <| Ja ⟨rfl, rfl⟩, fun _ _ _ => WL.add (r := ((gi x31 ((z22 - (l.length : Int)) + z32)) + ((p - (gi l z32)) * (gi x31 z22)))) rfl rfl (wr o59) rfl <| Ja ⟨rfl, rfl⟩, oA fun _ => rfl, fun _ _ _ => Yy (r := (((gi x31 ((z22 - (l.length : Int)) + z32)) + ((p - (gi l z32)) * (gi x31 z22))).tmod p)) rfl rfl o62 rfl rfl <| Ja ⟨rfl, rfl⟩, trivial⟩
   intro w63 hT; have hS := hS.grow hT; refine Jh 17 rfl ?_; obtain ⟨o64, hv⟩ := hv; refine Jj Jq XE3 (hS.rd (i := 0) rfl) rfl rfl o64 rfl <| Ja <| Jh 18 rfl <| JG (cs' := is (si x31 ((z22 - (l.length : Int)) + z32) (((gi x31 ((z22 - (l.length : Int)) + z32)) + ((p - (gi l z32)) * (gi x31 z22))).tmod p))) 0 ((z22 - (l.length : Int)) + z32).toNat hS rfl XE3 rfl rfl rfl (QE (hS.rd (i := 0) rfl) o64) (Qp _ _ _) ?_; intro w65 hS; refine Ja <| JJ <| JA ?_; obtain ⟨o66, hv⟩ := hv; refine WL.add (r := (z32 + (1 : Int))) rfl rfl (wr o66) rfl <| Jb 2 ?_; exact ⟨(si x31 ((z22 - (l.length : Int)) + z32) (((gi x31 ((z22 - (l.length : Int)) + z32)) + ((p - (gi l z32)) * (gi x31 z22))).tmod p), (z32 + (1 : Int))), sp rfl, hv.2, rfl, hv.1, hS⟩
  have hv := hv.2 (oF c36); refine JC <| Je 2 ?_; obtain ⟨o67, hv⟩ := hv; refine WL.sub (r := (z22 - (1 : Int))) rfl rfl (wr o67) rfl <| Jb 2 ?_; exact ⟨(x31, (z22 - (1 : Int))), sp rfl, hv.2, rfl, hv.1, hS⟩
 have hv := hv.2 (oF c26); refine JC <| Je 4 <| WL.len Jq rfl rfl ?_; obtain ⟨o69, hv⟩ := hv; refine Jb2 Jq XE3 (hS.rd (i := 0) rfl) rfl rfl o69 rfl (x21.take (l.length : Int).toNat).length (Jja (hS.rd (i := 0) rfl) o69) <| SL.call hS (Zo (Qag (hS.rd (i := 0) rfl) o69) XF143 rfl XN143 (fun wc xc Qc hg hv => Jln  hv) hv) XF78 rfl XN78 rfl rfl ?_; rintro _ _ w70 ⟨r71, rfl, rfl, hv⟩ hGw70 hS; have hS := hS.n0; refine Jb 3 <| W.ret <| ⟨_, rfl, Fin.nil ?_⟩
 exact (hS.pick [] rfl).fin rfl ⟨(!r71), rfl, rfl, hv⟩
def Yh (Pf : Int) (Mf : Int) (mf : List Int) (Q : Bool -> Prop) : Prop :=
  Zb mf (fun x14 => (((x14.length : Nat) + (1 : Nat) : Int) * 8 <= 140737488355328) /\ (∃ (I36 : Int -> Int -> Prop) (μ37 : Int -> Int -> Nat), I36 (1 : Int) Pf /\ ∀ (z34 : Int) (z35 : Int), (I36 z34 z35 -> ((I64 ((2 : Int) * z34)) /\ (((((2 : Int) * z34) <= Mf) -> (∃ (I44 : Int -> Prop) (μ45 : Int -> Nat), I44 (0 : Int) /\ ∀ (z43 : Int), (I44 z43 -> (((z43 < z35) -> (∃ (x55 : List Int), ZU Pf z34 z43 (fun q => q = x55) /\ (∃ (r65 : Bool), ZT Pf x55 (x14 ++ ([(1 : Int)] : List Int)) (fun q => q = r65) /\ (((r65 = true) -> Q false) /\ (r65 = false -> ((I64 (z43 + (1 : Int))) /\ (I44 (z43 + (1 : Int)) /\ μ45 (z43 + (1 : Int)) < μ45 z43))))))) /\ (¬ (z43 < z35) -> ((I64 (z34 + (1 : Int))) /\ ((I64 (z35 * Pf)) /\ (I36 (z34 + (1 : Int)) (z35 * Pf) /\ μ37 (z34 + (1 : Int)) (z35 * Pf) < μ37 z34 z35)))))))) /\ (¬ (((2 : Int) * z34) <= Mf) -> Q true))))))
theorem Jee {w : World} {Q : Bool -> Prop} {Pf : Int} {Mf : Int} {mf : List Int} {Bf : Nat} {Af : Option Addr} {nf kf : Nat} (hf : Rd Bf w 1 Af nf kf (is mf)) (hv : Yh Pf Mf mf Q) :
   Calls Tryz.prog 131 #[.agg #[.int .i64 Pf, .int .i64 Mf, .slice Af nf kf]] w fun e w' => ∃ v Qr, e = .returned v /\ w.grownBy w' none /\ Rows w.heap.size none w' Qr /\ News w.heap.size Qr /\ ∃ (r0 : Bool), v = .bool r0 /\ Qr = [] /\ Q r0 := by
 have hnf := hf.ilen; subst hnf; refine Jk <| Jl (vs := [.agg #[nI Pf, nI Mf, nS Af mf kf]]) [2] XF131 rfl rfl rfl rfl ?_; have hS := Jr w; unfold Yh at hv; refine Je 2 <| Jz (z := 3) (cs := [nI Pf, nI Mf, nS Af mf kf]) hS rfl rfl rfl rfl ?_; intro g11 w12 hS; refine Jb 2 <| Je 2 <| Jd (off := 2) Yx rfl rfl <| Jo 0 2 Jq hS rfl rfl rfl ⟨rfl, rfl⟩ <| SL.call hS (ZI (hS.ro hf) hv) Jo2 rfl Jt2 rfl rfl ?_; rintro _ _ w13 ⟨x14, A15, k16, rfl, rfl, hv⟩ hGw13 hS; have hS := hS.n1; refine J3 (vs := is ([(1 : Int)] : List Int)) hS Jq XE3 rfl rfl rfl rfl (Qh _) rfl ?_; intro A18 w19 hS; obtain ⟨o21, hv⟩ := hv; refine SL.append (cs := is x14) (cs' := is ([(1 : Int)] : List Int)) 1 ((x14 ++ ([(1 : Int)] : List Int)).length) (is (x14 ++ ([(1 : Int)] : List Int))) hS rfl Jq XE3 (hS.rd (i := 0) rfl) (Qh _) rfl rfl (apk o21).1 (apk o21).2 (Ja5 (hS.rd (i := 1) rfl) (hS.rd (i := 0) rfl)) (QD _ _) rfl ?_; intro A22 k23 w24 hS; refine Jb 2 <| Je 2 <| JY 4 [⟨[], [1], true⟩, ⟨[0], [], false⟩, ⟨[], [], true⟩, ⟨[1], [], true⟩] [(12, nP g11), (13, nI Pf), (4, nI 1), (5, nI Pf)] Jv (by kernel_rfl) rfl rfl ?_ ?_
 . refine ⟨fun _ _ _ => Jd (off := 0) Qj rfl rfl <| Ja ⟨rfl, rfl⟩, fun _ hE _ => have hS := hS.grow (hE rfl); Jo 2 0 XU3 hS rfl rfl rfl ⟨rfl, rfl⟩ <| Ja ⟨rfl, Jf _⟩, oA fun _ => rfl, oA fun _ => rfl, trivial⟩
 intro w29 hT; have hS := hS.grow hT; refine JJ <| W.block ?_; obtain ⟨I36, μ37, hv, hk83⟩ := hv; refine JF (σ := Int × Int) (fun q w1 => match q with | (z34, z35) => I36 z34 z35 /\ St TT w none w1 [.row 3 1 A18 1 1 (is ([(1 : Int)] : List Int)), .row 3 1 A22 ((x14 ++ ([(1 : Int)] : List Int)).length) k23 (is (x14 ++ ([(1 : Int)] : List Int))), .row 24 3 (nA g11) 1 1 [nI Pf, nI Mf, nS Af mf kf]]) (fun q => match q with | (z34, z35) => [(1, nP g11), (2, .bool false), (3, .slice A22 ((x14 ++ ([(1 : Int)] : List Int)).length) k23), (4, nI z34), (5, nI z35)]) (fun q => match q with | (z34, z35) => μ37 z34 z35) ((1 : Int), Pf) ⟨hv, hS⟩ ⟨rfl, rfl, rfl, rfl, rfl, trivial⟩ ?_; rintro ⟨z34, z35⟩ w38 ⟨hv, hS⟩; have hv := hk83 z34 z35 hv; refine Je 4 ?_; obtain ⟨o39, hv⟩ := hv; refine WL.mul (r := ((2 : Int) * z34)) rfl rfl (wr o39) rfl <| Jd (off := 1) Qy rfl rfl <| Jo 2 1 XU3 hS rfl rfl rfl ⟨rfl, rfl⟩ <| Jb 2 <| Ji rfl (fun c40 => ?_) (fun c40 => ?_)
 .have hv := hv.1 (oT c40); refine Jn <| Jy <| W.block <| Je 5 <| W.block ?_; obtain ⟨I44, μ45, hv, hk82⟩ := hv; refine JF (σ := Int) (fun z43 w1 => I44 z43 /\ St TT w none w1 [.row 3 1 A18 1 1 (is ([(1 : Int)] : List Int)), .row 3 1 A22 ((x14 ++ ([(1 : Int)] : List Int)).length) k23 (is (x14 ++ ([(1 : Int)] : List Int))), .row 24 3 (nA g11) 1 1 [nI Pf, nI Mf, nS Af mf kf]]) (fun z43 => [(1, nP g11), (2, .bool false), (3, .slice A22 ((x14 ++ ([(1 : Int)] : List Int)).length) k23), (4, nI z34), (5, nI z35), (18, .bool (decide (((2 : Int) * z34) <= Mf))), (25, nI z35), (26, nI z43)]) (fun z43 => μ45 z43) (0 : Int) ⟨hv, hS⟩ ⟨rfl, rfl, rfl, rfl, rfl, rfl, rfl, rfl, trivial⟩ ?_; rintro z43 w46 ⟨hv, hS⟩; have hv := hk82 z43 hv; refine Je 5 <| Ji rfl (fun c47 => ?_) (fun c47 => ?_)
  .have hv := hv.1 (oT c47); refine Jn <| Jy <| W.block <| Je 6 ?_; obtain ⟨x55, o62, hv⟩ := hv; obtain ⟨r65, o67, hv⟩ := hv; have hS0 := hS; refine Qq 9 (fun iA => [false, false, false, false, false, false, true, false, false].getD iA false) (fun _ => none) (fun _ v u => u = v) [⟨[], [1], true⟩, ⟨[0], [], false⟩, ⟨[], [1], true⟩, ⟨[2], [], false⟩, ⟨[], [4], true⟩, ⟨[], [6], true⟩, ⟨[3, 4, 5], [], false⟩, ⟨[], [3], true⟩, ⟨[1, 6, 7], [], false⟩] [.k 29 (nP g11), .k 30 (nI Pf), .k 31 (nP g11), .k 32 (nI Pf), .k 33 (nI z34), .k 34 (nI z43), eS w46 35 3 x55.length (is x55), .k 36 (.slice A22 ((x14 ++ ([(1 : Int)] : List Int)).length) k23), .k 37 (.bool r65)] (fun _ => vbD) Jv (by kernel_rfl) rfl rfl (fun _ _ _ _ _ _ _ h => h) ?_ ?_
   . refine ⟨fun _ _ _ => Jd (off := 0) Qj rfl rfl <| Ja ⟨rfl, rfl⟩, fun _ hE _ => have hS := hS.grow (hE rfl); Jo 2 0 XU3 hS rfl rfl rfl ⟨rfl, rfl⟩ <| Ja ⟨rfl, Jf _⟩, fun _ _ _ => Jd (off := 0) Qj rfl rfl <| Ja ⟨rfl, rfl⟩, fun _ hE _ => have hS := hS.grow (hE rfl); Jo 2 0 XU3 hS rfl rfl rfl ⟨rfl, rfl⟩ <| Ja ⟨rfl, Jf _⟩, oB (fun _ => rfl) rfl, oB (fun _ => rfl) rfl, ?_, oB (fun _ => rfl) rfl, ?_, trivial⟩
     .intro w54 hE; have hE := hE rfl; have hS := hS.grow hE; intro RR; refine WL.call Jr0 rfl Jzm rfl rfl (JI (Jef  o62)) ?_; rintro _ w59 ⟨_, hGw59, hRww59, hNww59, x55q, A56, k57, rfl, rfl, he⟩; subst he; have hO60 := (hRww59.get (i := 0) rfl).1; have hN61 : ∀ g, bl A56 = some g -> _ <= g := fun g hg => Nat.le_trans hE.size (hNww59.1 g hg); exact Ja ⟨_, rfl, hGw59, ⟨A56, k57, rfl, hO60, hN61⟩, (fun _ => fun g hg => ⟨hNww59.1 g hg, (hO60.bl_ge g hg).2⟩), (fun j h => by cases h)⟩
     intro w64 hE; have hS := hS.grow (hE rfl); rintro _ ⟨A56_6, k57_6, rfl, hO60_6, hN61_6⟩; intro RR; refine WL.call XF137 rfl XN137 rfl rfl (JI (Jn2 hO60_6.rd (hS.rd (i := 1) rfl) o67)) ?_; rintro _ w66 ⟨_, hGw66, hRww66, hNww66, r65q, rfl, rfl, he⟩; subst he; exact Ja ⟨rfl, hGw66⟩
   intro vals w68 hT hVs hAp hCp; have hS := hS.grow hT; obtain ⟨A56_6, k57_6, hv6, hO60_6, hN61_6⟩ := hVs 6 (by decide); refine Qw [(6, nS A56_6 x55 k57_6)] ⟨hv6, trivial⟩ <| JJ <| Ji rfl (fun c69 => ?_) (fun c69 => ?_)
   .have hv := hv.1 (c69); refine Je 4 <| W.ret <| ⟨_, rfl, Fin.nil ?_⟩
    exact (hS.pick [] rfl).fin rfl ⟨false, rfl, rfl, hv⟩
   have hv := hv.2 (c69); refine Jn <| JA ?_; obtain ⟨o70, hv⟩ := hv; refine WL.add (r := (z43 + (1 : Int))) rfl rfl (wr o70) rfl <| Jb 2 ?_; exact ⟨(z43 + (1 : Int)), sp rfl, hv.2, rfl, hv.1, hS⟩
  have hv := hv.2 (oF c47); refine JC ?_; obtain ⟨o73, hv⟩ := hv; obtain ⟨o78, hv⟩ := hv; refine JY 8 [⟨[], [4], true⟩, ⟨[0], [], true⟩, ⟨[], [5], true⟩, ⟨[], [1], true⟩, ⟨[3], [], false⟩, ⟨[2, 4], [], true⟩, ⟨[1], [], true⟩, ⟨[5], [], true⟩] [(19, nI z34), (20, nI (z34 + (1 : Int))), (21, nI z35), (22, nP g11), (23, nI Pf), (24, nI (z35 * Pf)), (4, nI (z34 + (1 : Int))), (5, nI (z35 * Pf))] Jv (by kernel_rfl) rfl rfl ?_ ?_
  . refine ⟨oA fun _ => rfl, fun _ _ _ => WL.add (r := (z34 + (1 : Int))) rfl rfl (wr o73) rfl <| Ja ⟨rfl, rfl⟩, oA fun _ => rfl, fun _ _ _ => Jd (off := 0) Qj rfl rfl <| Ja ⟨rfl, rfl⟩, fun _ hE _ => have hS := hS.grow (hE rfl); Jo 2 0 XU3 hS rfl rfl rfl ⟨rfl, rfl⟩ <| Ja ⟨rfl, Jf _⟩, fun _ _ _ => WL.mul (r := (z35 * Pf)) rfl rfl (wr o78) rfl <| Ja ⟨rfl, rfl⟩, oA fun _ => rfl, oA fun _ => rfl, trivial⟩
  intro w81 hT; have hS := hS.grow hT; refine JJ ?_; exact ⟨((z34 + (1 : Int)), (z35 * Pf)), sp rfl, hv.2, rfl, hv.1, hS⟩
 have hv := hv.2 (oF c40); refine JC <| Je 4 <| W.ret <| ⟨_, rfl, Fin.nil ?_⟩
 exact (hS.pick [] rfl).fin rfl ⟨true, rfl, rfl, hv⟩
def Jf0 (Pf : Int) (Mf : Int) (mf : List Int) (Q : Int -> Prop) : Prop :=
  (((256 : Int) < Pf) -> (Q (1 : Int))) /\ (¬ ((256 : Int) < Pf) -> (Jbw Pf (fun r15 => (((!r15) = true) -> (Q (1 : Int))) /\ ((!r15) = false -> (((Mf < (1 : Int)) -> (Q (1 : Int))) /\ (¬ (Mf < (1 : Int)) -> (Jav Pf Mf mf (fun r19 => (((256 : Int) < r19) -> (Q (1 : Int))) /\ (¬ ((256 : Int) < r19) -> (((Mf = (1 : Int)) -> (Jhh (decide ((mf.length : Int) = (0 : Int))) (fun r23 => Q r23))) /\ (¬ (Mf = (1 : Int)) -> ((((mf.length : Int) ≠ Mf) -> (Q (1 : Int))) /\ (¬ ((mf.length : Int) ≠ Mf) -> (Q8 mf (fun xc Qc => Jhi xc Pf Mf mf Qc) (fun r26 => ((r26 = true) -> (Q (1 : Int))) /\ (r26 = false -> (Yh Pf Mf mf (fun r29 => Jhh r29 (fun r31 => Q r31)))))))))))))))))))
theorem Jx7 {w : World} {Q : Int -> Prop} {Pf : Int} {Mf : Int} {mf : List Int} {Bf : Nat} {Af : Option Addr} {nf kf : Nat} (hf : Rd Bf w 1 Af nf kf (is mf)) (hv : Jf0 Pf Mf mf Q) :
   Calls Tryz.prog 110 #[.agg #[.int .i64 Pf, .int .i64 Mf, .slice Af nf kf]] w fun e w' => ∃ v Qr, e = .returned v /\ w.grownBy w' none /\ Rows w.heap.size none w' Qr /\ News w.heap.size Qr /\ ∃ (r0 : Int), v = .int .i64 r0 /\ Qr = [] /\ Q r0 := by
 have hnf := hf.ilen; subst hnf; refine Jk <| Jl (vs := [.agg #[nI Pf, nI Mf, nS Af mf kf]]) [2] XF110 rfl rfl rfl rfl ?_; have hS := Jr w; unfold Jf0 at hv; refine Je 2 <| Jz (z := 3) (cs := [nI Pf, nI Mf, nS Af mf kf]) hS rfl rfl rfl rfl ?_; intro g11 w12 hS; refine Jb 2 <| Je 3 <| Jd (off := 0) Qj rfl rfl <| Jo 0 0 XU3 hS rfl rfl rfl ⟨rfl, rfl⟩ <| Jfv rfl rfl rfl <| Jp rfl rfl ?_; by_cases g13 : (256 : Int) < Pf
 .have hv := hv.1 g13; rw [decide_eq_true g13]; refine Jb 16 <| Ql rfl <| Je 4 <| W.ret <| ⟨_, rfl, Fin.nil ?_⟩
  exact (hS.pick [] rfl).fin rfl ⟨(1 : Int), rfl, rfl, hv⟩
 have hv := hv.2 g13; rw [decide_eq_false g13]; refine WL.take rfl <| Jd (off := 0) Qj rfl rfl <| WL.take rfl <| Jo 0 0 XU3 hS rfl rfl rfl ⟨rfl, rfl⟩ <| WL.take rfl <| SL.call hS (Jn1  hv) XF128 rfl XN128 rfl rfl ?_; rintro _ _ w14 ⟨r15, rfl, rfl, hv⟩ hGw14 hS; have hS := hS.n0; refine Jb 3 <| Jp rfl rfl ?_; rcases g16 : (!r15) with _ | _
 .have hv := hv.2 g16; refine WL.take rfl <| Jd (off := 1) Qy rfl rfl <| WL.take rfl <| Jo 0 1 XU3 hS rfl rfl rfl ⟨rfl, rfl⟩ <| Jb 3 <| Jp rfl rfl ?_; by_cases g17 : Mf < (1 : Int)
  .have hv := hv.1 g17; rw [decide_eq_true g17]; refine Jb 5 <| Ql rfl <| Je 4 <| W.ret <| ⟨_, rfl, Fin.nil ?_⟩
   exact (hS.pick [] rfl).fin rfl ⟨(1 : Int), rfl, rfl, hv⟩
  have hv := hv.2 g17; rw [decide_eq_false g17]; refine WL.take rfl <| Jg (cs := [nI Pf, nI Mf, nS Af mf kf]) JO JP rfl rfl (Jc (hS.own (i := 0) rfl)) rfl <| WL.take rfl <| SL.call hS (Ja3 (hS.ro hf) hv) Jiq rfl Jmm rfl rfl ?_; rintro _ _ w18 ⟨r19, rfl, rfl, hv⟩ hGw18 hS; have hS := hS.n0; refine Jb 4 <| Ji rfl (fun c20 => ?_) (fun c20 => ?_)
  .have hv := hv.1 (oT c20); refine Je 4 <| W.ret <| ⟨_, rfl, Fin.nil ?_⟩
   exact (hS.pick [] rfl).fin rfl ⟨(1 : Int), rfl, rfl, hv⟩
  have hv := hv.2 (oF c20); refine Jn <| Je 3 <| Jd (off := 1) Qy rfl rfl <| Jo 0 1 XU3 hS rfl rfl rfl ⟨rfl, rfl⟩ <| Jb 2 <| Ji rfl (fun c21 => ?_) (fun c21 => ?_)
  .have hv := hv.1 (oT c21); refine Je 2 <| Jd (off := 2) Yx rfl rfl <| Jo 0 2 Jq hS rfl rfl rfl ⟨rfl, rfl⟩ <| WL.len Jq rfl rfl <| Jap rfl rfl rfl <| SL.call hS (Jrb  hv) Jzx rfl XN129 rfl rfl ?_; rintro _ _ w22 ⟨r23, rfl, rfl, hv⟩ hGw22 hS; have hS := hS.n0; refine Jb 2 <| W.ret <| ⟨_, rfl, Fin.nil ?_⟩
   exact (hS.pick [] rfl).fin rfl ⟨r23, rfl, rfl, hv⟩
  have hv := hv.2 (oF c21); refine Jn <| Je 3 <| Jd (off := 2) Yx rfl rfl <| Jo 0 2 Jq hS rfl rfl rfl ⟨rfl, rfl⟩ <| WL.len Jq rfl rfl <| Jd (off := 1) Qy rfl rfl <| Jo 0 1 XU3 hS rfl rfl rfl ⟨rfl, rfl⟩ <| Jao rfl rfl rfl <| Jp rfl rfl ?_; by_cases g24 : (mf.length : Int) ≠ Mf
  .have hv := hv.1 g24; rw [decide_eq_true g24]; refine Jb 6 <| Ql rfl <| Je 4 <| W.ret <| ⟨_, rfl, Fin.nil ?_⟩
   exact (hS.pick [] rfl).fin rfl ⟨(1 : Int), rfl, rfl, hv⟩
  have hv := hv.2 g24; rw [decide_eq_false g24]; refine WL.take rfl <| Jd (off := 2) Yx rfl rfl <| WL.take rfl <| Jo 0 2 Jq hS rfl rfl rfl ⟨rfl, rfl⟩ <| WL.take rfl <| QO (vs := [nP g11]) rfl rfl <| WL.take rfl <| SL.call hS (Zo (hS.ro hf) XF130 rfl XN130 (fun wc xc Qc hg hv => Js7 ((hS.rd (i := 0) rfl).ext hg) ((hS.ro hf).ext hg) hv) hv) XF78 rfl XN78 rfl rfl ?_; rintro _ _ w25 ⟨r26, rfl, rfl, hv⟩ hGw25 hS; have hS := hS.n0; refine Jb 2 <| Ji rfl (fun c27 => ?_) (fun c27 => ?_)
  .have hv := hv.1 (c27); refine Je 4 <| W.ret <| ⟨_, rfl, Fin.nil ?_⟩
   exact (hS.pick [] rfl).fin rfl ⟨(1 : Int), rfl, rfl, hv⟩
  have hv := hv.2 (c27); refine Jn <| Je 2 <| Jg (cs := [nI Pf, nI Mf, nS Af mf kf]) JO JP rfl rfl (Jc (hS.own (i := 0) rfl)) rfl <| SL.call hS (Jee (hS.ro hf) hv) XF131 rfl XN131 rfl rfl ?_; rintro _ _ w28 ⟨r29, rfl, rfl, hv⟩ hGw28 hS; have hS := hS.n0; refine SL.call hS (Jrb  hv) Jzx rfl XN129 rfl rfl ?_; rintro _ _ w30 ⟨r31, rfl, rfl, hv⟩ hGw30 hS; have hS := hS.n0; refine Jb 2 <| W.ret <| ⟨_, rfl, Fin.nil ?_⟩
  exact (hS.pick [] rfl).fin rfl ⟨r31, rfl, rfl, hv⟩
 have hv := hv.1 g16; refine Jb 10 <| Ql rfl <| Je 4 <| W.ret <| ⟨_, rfl, Fin.nil ?_⟩
 exact (hS.pick [] rfl).fin rfl ⟨(1 : Int), rfl, rfl, hv⟩
def Jcp (Fg : GFv) (Q : Unit -> Prop) : Prop :=
  Q ()
theorem Jlm {w : World} {Q : Unit -> Prop} {Fg : GFv} {ag : Addr} {Bg : Nat} (hgg : GFR Bg w ag Fg) (hv : Jcp Fg Q) :
  Calls Tryz.prog 132 #[.pointer (some ag)] w fun e w' => ∃ v Qr, e = .returned v /\ w.grownBy w' none /\ Rows w.heap.size none w' Qr /\ News w.heap.size Qr /\ ∃ g : Nat, v = .func (.func 139) #[] #[.pointer (some ⟨g, 0, none⟩)] /\ Qr = [.row 84 1 (some ⟨g, 0, none⟩) 1 1 [.pointer (some ag)]] /\ Q () := by
 have hgg_ := hgg; obtain ⟨Ag_mod, kg_mod, Ag_exp, kg_exp, Ag_log, kg_log, Ag_above, kg_above, hg_c, hg_mod, hg_exp, hg_log, hg_above⟩ := hgg_; refine Jk <| Jl (vs := [.pointer (some ag)]) [2] XF132 rfl rfl rfl rfl ?_; have hS := Jr w; unfold Jcp at hv; refine Je 2 <| Jz (z := 1) (cs := [.pointer (some ag)]) hS rfl rfl rfl rfl ?_; intro g11 w12 hS; refine Jb 2 <| Je 2 <| QO (vs := [nP g11]) rfl rfl <| Jb 2 <| W.ret <| ⟨_, rfl, Fin.nil ?_⟩
 exact (hS.pick [0] rfl).fin rfl ⟨g11, rfl, rfl, hv⟩
def Jcs (l : List Int) (Q : Unit -> Prop) : Prop :=
  Q ()
theorem Jlp {w : World} {Q : Unit -> Prop} {l : List Int} {Bl : Nat} {Al : Option Addr} {nl kl : Nat} (hl : Rd Bl w 1 Al nl kl (is l)) (hv : Jcs l Q) :
  Calls Tryz.prog 145 #[.slice Al nl kl] w fun e w' => ∃ v Qr, e = .returned v /\ w.grownBy w' none /\ Rows w.heap.size none w' Qr /\ News w.heap.size Qr /\ ∃ g : Nat, v = .func (.func 146) #[] #[.pointer (some ⟨g, 0, none⟩)] /\ Qr = [.row 22 1 (some ⟨g, 0, none⟩) 1 1 [.slice Al nl kl]] /\ Q () := by
 have hnl := hl.ilen; subst hnl; refine Jk <| Jl (vs := [nS Al l kl]) [2] XF145 rfl rfl rfl rfl ?_; have hS := Jr w; unfold Jcs at hv; refine Je 2 <| Jz (z := 1) (cs := [nS Al l kl]) hS rfl rfl rfl rfl ?_; intro g11 w12 hS; refine Jb 2 <| Je 2 <| QO (vs := [nP g11]) rfl rfl <| Jb 2 <| W.ret <| ⟨_, rfl, Fin.nil ?_⟩
 exact (hS.pick [0] rfl).fin rfl ⟨g11, rfl, rfl, hv⟩
def Za (p : Int) (l : List Int) (Q : Int -> Prop) : Prop :=
  Jcs l (fun _ => ∃ (I22 : Nat -> Int -> Prop), I22 0 (0 : Int) /\ (∀ i18 : Nat, i18 < l.length -> ∀ (z21 : Int), I22 i18 z21 -> ((I64 (z21 * p)) /\ ((I64 ((z21 * p) + (gi l ((l.length - 1 - i18 : Nat) : Int)))) /\ (I22 (i18 + 1) ((z21 * p) + (gi l ((l.length - 1 - i18 : Nat) : Int))))))) /\ (∀ (z21 : Int), I22 l.length z21 -> Q z21))
theorem Jhu {w : World} {Q : Int -> Prop} {p : Int} {l : List Int} {Bl : Nat} {Al : Option Addr} {nl kl : Nat} (hl : Rd Bl w 1 Al nl kl (is l)) (hv : Za p l Q) :
   Calls Tryz.prog 141 #[.int .i64 p, .slice Al nl kl] w fun e w' => ∃ v Qr, e = .returned v /\ w.grownBy w' none /\ Rows w.heap.size none w' Qr /\ News w.heap.size Qr /\ ∃ (r0 : Int), v = .int .i64 r0 /\ Qr = [] /\ Q r0 := by
 have hnl := hl.ilen; subst hnl; refine Jk <| Jl (vs := [nI p, nS Al l kl]) [4] XF141 rfl rfl rfl rfl ?_; have hS := Jr w; unfold Za at hv; refine Je 2 <| Jz (z := 1) (cs := [nI p]) hS rfl rfl rfl rfl ?_; intro g11 w12 hS; refine Jb 2 <| Je 2 <| SL.alloc (cs := [nI 0]) hS XE3 rfl rfl ?_; intro g13 w14 hS; refine JG (cs' := [nI 0]) 0 0 hS rfl XE3 rfl rfl rfl (QA rfl) rfl ?_; intro w15 hS; refine Ja <| Je 4 <| SL.call hS (Jlp (hS.ro hl) hv) XF145 rfl XN145 rfl rfl ?_; rintro _ _ w16 ⟨g17, rfl, rfl, hv⟩ hGw16 hS; have hS := hS.n1; refine Ja <| W.block ?_; obtain ⟨I22, hv, hk29, hd30⟩ := hv; refine Jm2 (σ := Int) (fun i q => match q with | z21 => I22 i z21) (fun z21 => [.row 22 1 (some ⟨g17, 0, none⟩) 1 1 [.slice Al l.length kl], .row 3 1 (some ⟨g13, 0, none⟩) 1 1 [.int .i64 z21], .row 3 1 (some ⟨g11, 0, none⟩) 1 1 [.int .i64 p]]) (fun _ _ => False) (fun vs => [(2, .pointer (some ⟨g11, 0, none⟩)), (4, .int .i64 0), (5, .pointer (some ⟨g13, 0, none⟩)), (7, vs.getD 1 undef)]) (0 : Int) hS hv (fun q => by obtain z21 := q; exact trivial) rfl XF146 rfl XN146 (Jj4 (A := Al) (m := l.length) (c := kl) (Rd.m64 (hS.ro hl))) (Below.refl _ _) (fun _ _ _ h => by obtain ⟨_, h, _⟩ := h; rw [h]; rfl) (fun i x => Qb1) (by decide) (fun _ q _ _ hS => by obtain z21 := q; exact ⟨Jc (hS.own (i := 0) rfl) 0 _ rfl, _, _, (hS.ro hl)⟩) ?_ ?_ ?_ ?_
 .intro lq vsq W1q hlq
  match vsq, hlq with
  | [a0, a1], _ =>
    refine Je 3 ?_; exact ⟨rfl, rfl, sp rfl⟩
 .rintro lq i18 _ z21 w23 hi ⟨vb, rfl, hcell⟩ hI hS; have hvb : vb = (gi l ((l.length - 1 - i18 : Nat) : Int)) := bw_val (hS.ro hl) (by omega) hcell; subst hvb; have hv := hk29 i18 hi z21 hI; refine W.block <| JA <| Jo 1 0 XU3 hS rfl rfl rfl ⟨rfl, rfl⟩ <| Jo 2 0 XU3 hS rfl rfl rfl ⟨rfl, rfl⟩ ?_; obtain ⟨o24, hv⟩ := hv; refine WL.mul (r := (z21 * p)) rfl rfl (wr o24) rfl <| Jp rfl rfl ?_; obtain ⟨o25, hv⟩ := hv; refine WL.add (r := ((z21 * p) + (gi l ((l.length - 1 - i18 : Nat) : Int)))) rfl rfl (wr o25) rfl <| JG (cs' := [nI ((z21 * p) + (gi l ((l.length - 1 - i18 : Nat) : Int)))]) 1 0 hS rfl XE3 rfl rfl rfl (QA rfl) rfl ?_; intro w26 hS; refine Ja ?_; exact ⟨((z21 * p) + (gi l ((l.length - 1 - i18 : Nat) : Int))), hv, hS⟩
 .rintro D27 z21 w28 hv hD hS; have hv := hd30 z21 hv; refine Je 2 <| Jo 2 0 XU3 hS rfl rfl rfl ⟨rfl, rfl⟩ <| Jb 2 <| W.ret ?_; have hS := hS.pick [0] rfl; obtain ⟨hDD27, hS⟩ := hS.taken trivial; refine ⟨_, rfl, Fin.cons hDD27 (Fin.nil ?_)⟩; exact (hS.pick [] rfl).fin rfl ⟨z21, rfl, rfl, hv⟩
 rintro _ e _ _ _ hv; exact hv.elim
end Go.Proofs.YtngdhnijkgjhcaaGreat
namespace Go.Proofs.YtngdhnijkgjhcaaGreat
open Go.RowKit
def Jdn (Pf : Int) (Mf : Int) (mf : List Int) (a : List Int) (Q : List Int -> Prop) : Prop :=
  (I64 (Mf - (1 : Int))) /\ ((0 <= (Mf - (1 : Int)) /\ (Mf - (1 : Int)) < (a.length : Nat)) /\ ((0 <= (1 : Int) /\ (1 : Int) <= (a.length : Nat)) /\ ((0 <= (0 : Int) /\ (0 : Int) < (a.length : Nat)) /\ ((((gi a (Mf - (1 : Int))) = (0 : Int)) -> (Q (si (a.take ((1 : Int).toNat) ++ a.take (min a.length (a.length - ((1 : Int).toNat))) ++ a.drop ((1 : Int).toNat + (min a.length (a.length - ((1 : Int).toNat))))) (0 : Int) (0 : Int)))) /\ (¬ ((gi a (Mf - (1 : Int))) = (0 : Int)) -> (∃ (I26 : List Int -> Int -> Prop) (μ27 : List Int -> Int -> Nat), I26 (si (a.take ((1 : Int).toNat) ++ a.take (min a.length (a.length - ((1 : Int).toNat))) ++ a.drop ((1 : Int).toNat + (min a.length (a.length - ((1 : Int).toNat))))) (0 : Int) (0 : Int)) (0 : Int) /\ ∀ (x24 : List Int) (z25 : Int), (I26 x24 z25 -> (((z25 < (mf.length : Int)) -> ((0 <= z25 /\ z25 < (mf.length : Nat)) /\ ((0 <= z25 /\ z25 < (a.length : Nat)) /\ ((I64 (Pf - (gi mf z25))) /\ ((I64 ((Pf - (gi mf z25)) * (gi a (Mf - (1 : Int))))) /\ ((I64 ((gi x24 z25) + ((Pf - (gi mf z25)) * (gi a (Mf - (1 : Int)))))) /\ ((Pf ≠ 0) /\ ((0 <= z25 /\ z25 < (a.length : Nat)) /\ ((I64 (z25 + (1 : Int))) /\ (I26 (si x24 z25 (((gi x24 z25) + ((Pf - (gi mf z25)) * (gi a (Mf - (1 : Int))))).tmod Pf)) (z25 + (1 : Int)) /\ μ27 (si x24 z25 (((gi x24 z25) + ((Pf - (gi mf z25)) * (gi a (Mf - (1 : Int))))).tmod Pf)) (z25 + (1 : Int)) < μ27 x24 z25)))))))))) /\ (¬ (z25 < (mf.length : Int)) -> Q x24)))))))))
theorem Jsy {w : World} {Q : List Int -> Prop} {Pf : Int} {Mf : Int} {mf : List Int} {a : List Int} {Aa : Option Addr} {na ka : Nat} (ha : Own 0 w 3 1 Aa na ka (is a)) {Bf : Nat} {Af : Option Addr} {nf kf : Nat} (hf : Rd Bf w 1 Af nf kf (is mf)) (hapf : 0 < nf -> ∀ g, bl Aa = some g -> bl Af ≠ some g) (hv : Jdn Pf Mf mf a Q) :
   Calls Tryz.prog 144 #[.agg #[.int .i64 Pf, .int .i64 Mf, .slice Af nf kf], .slice Aa na ka] w fun e w' => ∃ v cs', e = .returned v /\ w.grownBy w' (bl Aa) /\ Own 0 w' 3 1 Aa na ka cs' /\ ∃ x : List Int, v = .tuple #[] /\ cs' = is x /\ Q x := by
 have hnf := hf.ilen; subst hnf; have hna := ha.rd.ilen; subst hna; refine Zq <| Jl (vs := [.agg #[nI Pf, nI Mf, nS Af mf kf], nS Aa a ka]) [] XF144 rfl rfl rfl rfl ?_; have hS := Jb0 ha; unfold Jdn at hv; refine Je 2 <| Jz (z := 3) (cs := [nI Pf, nI Mf, nS Af mf kf]) hS rfl rfl rfl rfl ?_; intro g11 w12 hS; refine Ja <| Je 3 <| Jd (off := 1) Qy rfl rfl <| Jo 0 1 XU3 hS rfl rfl rfl ⟨rfl, rfl⟩ ?_; obtain ⟨o13, hv⟩ := hv; refine WL.sub (r := (Mf - (1 : Int))) rfl rfl (wr o13) rfl ?_; obtain ⟨o14, hv⟩ := hv; refine Jj Jq XE3 (hS.rd (i := 1) rfl) rfl rfl o14 rfl <| Jm XU3 rfl rfl (JR (hS.rd (i := 1) rfl) o14) rfl <| Jb 2 <| Je 3 ?_; obtain ⟨o15, hv⟩ := hv; refine Jwb Jq XE3 (hS.rd (i := 1) rfl) rfl rfl o15 rfl <| Jp rfl rfl <| Qct (xs := a) (ys := a) 1 ((1 : Int).toNat) hS rfl Jq XE3 (hS.rd (i := 1) rfl) rfl (by omega) rfl rfl rfl ?_; intro w16 hS; refine Ja <| Je 3 ?_; obtain ⟨o17, hv⟩ := hv; refine Jj Jq XE3 (hS.rd (i := 1) rfl) rfl rfl o17 rfl <| JG (cs' := is (si (a.take ((1 : Int).toNat) ++ a.take (min a.length (a.length - ((1 : Int).toNat))) ++ a.drop ((1 : Int).toNat + (min a.length (a.length - ((1 : Int).toNat))))) (0 : Int) (0 : Int))) 1 (0 : Int).toNat hS rfl XE3 rfl rfl rfl (QE (hS.rd (i := 1) rfl) o17) (Qp _ _ _) ?_; intro w18 hS; refine Ja <| Je 6 <| Ji rfl (fun c19 => ?_) (fun c19 => ?_)
 .have hv := hv.1 (oT c19); refine W.ret <| ⟨_, rfl, Fin.nil ?_⟩
  exact ⟨_, hS.ext, hS.own (i := 1) rfl, si (a.take ((1 : Int).toNat) ++ a.take (min a.length (a.length - ((1 : Int).toNat))) ++ a.drop ((1 : Int).toNat + (min a.length (a.length - ((1 : Int).toNat))))) (0 : Int) (0 : Int), rfl, rfl, hv⟩
 have hv := hv.2 (oF c19); refine Jn <| Je 2 <| Jd (off := 2) Yx rfl rfl <| Jo 0 2 Jq hS rfl rfl rfl ⟨rfl, rfl⟩ <| WL.len Jq rfl rfl <| Jb 2 <| W.block ?_; obtain ⟨I26, μ27, hv, hk56⟩ := hv; refine JF (σ := List Int × Int) (fun q w1 => match q with | (x24, z25) => I26 x24 z25 /\ St TT w (bl Aa) w1 [.row 24 3 (nA g11) 1 1 [nI Pf, nI Mf, nS Af mf kf], .row 3 1 Aa a.length ka (is x24)]) (fun q => match q with | (x24, z25) => [(1, nS Aa a ka), (2, nP g11), (4, nI (gi a (Mf - (1 : Int)))), (22, nS Af mf kf), (23, nI (mf.length : Int)), (24, nI z25)]) (fun q => match q with | (x24, z25) => μ27 x24 z25) (si (a.take ((1 : Int).toNat) ++ a.take (min a.length (a.length - ((1 : Int).toNat))) ++ a.drop ((1 : Int).toNat + (min a.length (a.length - ((1 : Int).toNat))))) (0 : Int) (0 : Int), (0 : Int)) ⟨hv, hS⟩ ⟨rfl, rfl, rfl, rfl, rfl, rfl, trivial⟩ ?_; rintro ⟨x24, z25⟩ w28 ⟨hv, hS⟩; have hv := hk56 x24 z25 hv; refine Je 5 <| Ji rfl (fun c29 => ?_) (fun c29 => ?_)
 .have hv := hv.1 (oT c29); refine Jn <| Jy <| W.block <| Je 3 ?_; obtain ⟨o30, hv⟩ := hv; refine Jj Jq XE3 (hS.rom' hf hapf) rfl rfl o30 rfl <| Jm XU3 rfl rfl (JR (hS.rom' hf hapf) o30) rfl <| Jb 3 ?_; obtain ⟨o36, hv⟩ := hv; obtain ⟨o42, hv⟩ := hv; obtain ⟨o45, hv⟩ := hv; obtain ⟨o47, hv⟩ := hv; obtain ⟨o51, hv⟩ := hv; refine JY 16 [⟨[], [1], true⟩, ⟨[], [5], true⟩, ⟨[], [1], true⟩, ⟨[], [5], true⟩, ⟨[2, 3], [], true⟩, ⟨[4], [], false⟩, ⟨[], [2], true⟩, ⟨[6], [], false⟩, ⟨[], [6], true⟩, ⟨[7, 8], [], true⟩, ⟨[], [4], true⟩, ⟨[9, 10], [], true⟩, ⟨[5, 11], [], true⟩, ⟨[], [2], true⟩, ⟨[13], [], false⟩, ⟨[12, 14], [], true⟩] [(29, nS Aa a ka), (30, nI z25), (31, nS Aa a ka), (32, nI z25), (33, .pointer (some ((JV Aa).add z25.toNat))), (34, nI (gi x24 z25)), (35, nP g11), (36, nI Pf), (37, nI (gi mf z25)), (38, nI (Pf - (gi mf z25))), (39, nI (gi a (Mf - (1 : Int)))), (40, nI ((Pf - (gi mf z25)) * (gi a (Mf - (1 : Int))))), (41, nI ((gi x24 z25) + ((Pf - (gi mf z25)) * (gi a (Mf - (1 : Int)))))), (42, nP g11), (43, nI Pf), (44, nI (((gi x24 z25) + ((Pf - (gi mf z25)) * (gi a (Mf - (1 : Int))))).tmod Pf))] Jv (by kernel_rfl) rfl rfl ?_ ?_
  .refine ⟨oA fun _ => rfl, oA fun _ => rfl, oA fun _ => rfl, oA fun _ => rfl, fun _ _ _ => Jj Jq XE3 (hS.rd (i := 1) rfl) rfl rfl o36 rfl <| Ja ⟨rfl, rfl⟩, fun _ hE _ => have hS := hS.grow (hE rfl); Jm XU3 rfl rfl (JR (hS.rd (i := 1) rfl) o36) rfl <| Ja ⟨rfl, Jf _⟩, fun _ _ _ => Jd (off := 0) Qj rfl rfl <| Ja ⟨rfl, rfl⟩, fun _ hE _ => have hS := hS.grow (hE rfl); Jo 0 0 XU3 hS rfl rfl rfl ⟨rfl, rfl⟩ <| Ja ⟨rfl, Jf _⟩, oA fun _ => rfl, fun _ _ _ => WL.sub (r := (Pf - (gi mf z25))) rfl rfl (wr o42) rfl <| Ja ⟨rfl, rfl⟩, oA fun _ => rfl, fun _ _ _ => WL.mul (r := ((Pf - (gi mf z25)) * (gi a (Mf - (1 : Int))))) rfl rfl (wr o45) rfl <| Ja ⟨rfl, rfl⟩, fun _ _ _ => WL.add (r := ((gi x24 z25) + ((Pf - (gi mf z25)) * (gi a (Mf - (1 : Int)))))) rfl rfl (wr o47) rfl <| Ja ⟨rfl, rfl⟩, fun _ _ _ => Jd (off := 0) Qj rfl rfl <| Ja ⟨rfl, rfl⟩, fun _ hE _ => have hS := hS.grow (hE rfl); Jo 0 0 XU3 hS rfl rfl rfl ⟨rfl, rfl⟩ <| Ja ⟨rfl, Jf _⟩, fun _ _ _ => Yy (r := (((gi x24 z25) + ((Pf - (gi mf z25)) * (gi a (Mf - (1 : Int))))).tmod Pf)) rfl rfl o51 rfl rfl <| Ja ⟨rfl, rfl⟩, trivial⟩
  intro w52 hT; have hS := hS.grow hT; refine Jh 16 rfl ?_; obtain ⟨o53, hv⟩ := hv; refine Jj Jq XE3 (hS.rd (i := 1) rfl) rfl rfl o53 rfl <| Ja <| Jh 17 rfl <| JG (cs' := is (si x24 z25 (((gi x24 z25) + ((Pf - (gi mf z25)) * (gi a (Mf - (1 : Int))))).tmod Pf))) 1 z25.toNat hS rfl XE3 rfl rfl rfl (QE (hS.rd (i := 1) rfl) o53) (Qp _ _ _) ?_; intro w54 hS; refine Ja <| JJ <| JA ?_; obtain ⟨o55, hv⟩ := hv; refine WL.add (r := (z25 + (1 : Int))) rfl rfl (wr o55) rfl <| Jb 2 ?_; exact ⟨(si x24 z25 (((gi x24 z25) + ((Pf - (gi mf z25)) * (gi a (Mf - (1 : Int))))).tmod Pf), (z25 + (1 : Int))), sp rfl, hv.2, rfl, hv.1, hS⟩
 have hv := hv.2 (oF c29); refine JC <| ⟨_, rfl, Fin.nil ?_⟩
 exact ⟨_, hS.ext, hS.own (i := 1) rfl, x24, rfl, rfl, hv⟩
def Jbu (Pf : Int) (Mf : Int) (mf : List Int) (o : List Int) (a : List Int) (b : List Int) (Q : List Int -> Prop) : Prop :=
  (I64 (Mf - (1 : Int))) /\ (∃ J16 : Int -> Prop, (∃ (I20 : Int -> Prop) (μ21 : Int -> Nat), I20 (Mf - (1 : Int)) /\ ∀ (z19 : Int), (I20 z19 -> ((((0 : Int) < z19) -> ((0 <= z19 /\ z19 < (b.length : Nat)) /\ ((((gi b z19) = (0 : Int)) -> ((I64 (z19 - (1 : Int))) /\ (I20 (z19 - (1 : Int)) /\ μ21 (z19 - (1 : Int)) < μ21 z19))) /\ (¬ ((gi b z19) = (0 : Int)) -> J16 z19)))) /\ (¬ ((0 : Int) < z19) -> J16 z19)))) /\ ∀ (z15 : Int), (J16 z15 -> (∃ (I35 : List Int -> Int -> Prop) (μ36 : List Int -> Int -> Nat), I35 (List.replicate o.length (0 : Int)) z15 /\ ∀ (x33 : List Int) (z34 : Int), (I35 x33 z34 -> ((((0 : Int) <= z34) -> (Jdn Pf Mf mf x33 (fun x40 => ∃ (I47 : List Int -> Int -> Prop) (μ48 : List Int -> Int -> Nat), I47 x40 (0 : Int) /\ ∀ (x45 : List Int) (z46 : Int), (I47 x45 z46 -> (((z46 < (a.length : Int)) -> ((0 <= z46 /\ z46 < (a.length : Nat)) /\ ((0 <= z46 /\ z46 < (o.length : Nat)) /\ ((0 <= z34 /\ z34 < (b.length : Nat)) /\ ((I64 ((gi b z34) * (gi a z46))) /\ ((I64 ((gi x45 z46) + ((gi b z34) * (gi a z46)))) /\ ((Pf ≠ 0) /\ ((0 <= z46 /\ z46 < (o.length : Nat)) /\ ((I64 (z46 + (1 : Int))) /\ (I47 (si x45 z46 (((gi x45 z46) + ((gi b z34) * (gi a z46))).tmod Pf)) (z46 + (1 : Int)) /\ μ48 (si x45 z46 (((gi x45 z46) + ((gi b z34) * (gi a z46))).tmod Pf)) (z46 + (1 : Int)) < μ48 x45 z46)))))))))) /\ (¬ (z46 < (a.length : Int)) -> ((I64 (z34 - (1 : Int))) /\ (I35 x45 (z34 - (1 : Int)) /\ μ36 x45 (z34 - (1 : Int)) < μ36 x33 z34)))))))) /\ (¬ ((0 : Int) <= z34) -> Q x33))))))
theorem Jnz {w : World} {Q : List Int -> Prop} {Pf : Int} {Mf : Int} {mf : List Int} {o : List Int} {a : List Int} {b : List Int} {Ao : Option Addr} {no ko : Nat} (ho : Own 0 w 3 1 Ao no ko (is o)) {Bf : Nat} {Af : Option Addr} {nf kf : Nat} (hf : Rd Bf w 1 Af nf kf (is mf)) {Ba : Nat} {Aa : Option Addr} {na ka : Nat} (ha : Rd Ba w 1 Aa na ka (is a)) {Bb : Nat} {Ab : Option Addr} {nb kb : Nat} (hb : Rd Bb w 1 Ab nb kb (is b)) (hapf : 0 < nf -> ∀ g, bl Ao = some g -> bl Af ≠ some g) (hapa : 0 < na -> ∀ g, bl Ao = some g -> bl Aa ≠ some g) (hapb : 0 < nb -> ∀ g, bl Ao = some g -> bl Ab ≠ some g) (hv : Jbu Pf Mf mf o a b Q) :
   Calls Tryz.prog 140 #[.agg #[.int .i64 Pf, .int .i64 Mf, .slice Af nf kf], .slice Ao no ko, .slice Aa na ka, .slice Ab nb kb] w fun e w' => ∃ v cs', e = .returned v /\ w.grownBy w' (bl Ao) /\ Own 0 w' 3 1 Ao no ko cs' /\ ∃ x : List Int, v = .tuple #[] /\ cs' = is x /\ Q x := by
 have hnf := hf.ilen; subst hnf; have hno := ho.rd.ilen; subst hno; have hna := ha.ilen; subst hna; have hnb := hb.ilen; subst hnb; refine Zq <| Jl (vs := [.agg #[nI Pf, nI Mf, nS Af mf kf], nS Ao o ko, nS Aa a ka, nS Ab b kb]) [] XF140 rfl rfl rfl rfl ?_; have hS := Jb0 ho; unfold Jbu at hv; refine Je 2 <| Jz (z := 3) (cs := [nI Pf, nI Mf, nS Af mf kf]) hS rfl rfl rfl rfl ?_; intro g11 w12 hS; refine Ja <| Je 3 <| Qad (xs := o) 1 hS rfl Jq XE3 rfl ?_; intro w13 hS; refine Ja <| Je 2 <| Jd (off := 1) Qy rfl rfl <| Jo 0 1 XU3 hS rfl rfl rfl ⟨rfl, rfl⟩ ?_; obtain ⟨o14, hv⟩ := hv; refine WL.sub (r := (Mf - (1 : Int))) rfl rfl (wr o14) rfl <| Jb 2 <| Jy ?_; obtain ⟨J16, hv, hk80⟩ := hv; refine Qx (σ := Int) (fun z15 w1 => J16 z15 /\ St TT w (bl Ao) w1 [.row 24 3 (nA g11) 1 1 [nI Pf, nI Mf, nS Af mf kf], .row 3 1 Ao o.length ko (is (List.replicate o.length (0 : Int)))]) (fun z15 => [(1, nS Ao o ko), (2, nS Aa a ka), (3, nS Ab b kb), (4, nP g11), (8, nI z15)]) ?_ ?_
 .refine W.block ?_; obtain ⟨I20, μ21, hv, hk27⟩ := hv; refine JF (σ := Int) (fun z19 w1 => I20 z19 /\ St TT w (bl Ao) w1 [.row 24 3 (nA g11) 1 1 [nI Pf, nI Mf, nS Af mf kf], .row 3 1 Ao o.length ko (is (List.replicate o.length (0 : Int)))]) (fun z19 => [(1, nS Ao o ko), (2, nS Aa a ka), (3, nS Ab b kb), (4, nP g11), (8, nI z19)]) (fun z19 => μ21 z19) (Mf - (1 : Int)) ⟨hv, hS⟩ ⟨rfl, rfl, rfl, rfl, rfl, trivial⟩ ?_; rintro z19 w22 ⟨hv, hS⟩; have hv := hk27 z19 hv; refine Je 5 <| Jp rfl rfl ?_; by_cases g23 : (0 : Int) < z19
  .have hv := hv.1 g23; rw [decide_eq_true g23]; refine Jb 5 ?_; obtain ⟨o24, hv⟩ := hv; refine Jj Jq XE3 (hS.rom' hb hapb) rfl rfl o24 rfl <| WL.take rfl <| Jm XU3 rfl rfl (JR (hS.rom' hb hapb) o24) rfl <| Jb 4 <| Ji rfl (fun c25 => ?_) (fun c25 => ?_)
   .have hv := hv.1 (oT c25); refine Jn <| W.block <| Je 2 ?_; obtain ⟨o26, hv⟩ := hv; refine WL.sub (r := (z19 - (1 : Int))) rfl rfl (wr o26) rfl <| Jb 2 ?_; exact ⟨(z19 - (1 : Int)), sp rfl, hv.2, rfl, hv.1, hS⟩
   have hv := hv.2 (oF c25); refine JC ?_; exact ⟨z19, sp rfl, rfl, hv, hS⟩
  have hv := hv.2 g23; rw [decide_eq_false g23]; refine Jb 7 <| QL rfl <| JC ?_; exact ⟨z19, sp rfl, rfl, hv, hS⟩
 rintro z15 w28 ⟨hv, hS⟩; have hv := hk80 z15 hv; refine Je 5 <| W.block ?_; obtain ⟨I35, μ36, hv, hk79⟩ := hv; refine JF (σ := List Int × Int) (fun q w1 => match q with | (x33, z34) => I35 x33 z34 /\ St TT w (bl Ao) w1 [.row 24 3 (nA g11) 1 1 [nI Pf, nI Mf, nS Af mf kf], .row 3 1 Ao o.length ko (is x33)]) (fun q => match q with | (x33, z34) => [(1, nS Ao o ko), (2, nS Aa a ka), (3, nS Ab b kb), (4, nP g11), (9, nI z34)]) (fun q => match q with | (x33, z34) => μ36 x33 z34) (List.replicate o.length (0 : Int), z15) ⟨hv, hS⟩ ⟨rfl, rfl, rfl, rfl, rfl, trivial⟩ ?_; rintro ⟨x33, z34⟩ w37 ⟨hv, hS⟩; have hv := hk79 x33 z34 hv; refine Je 6 <| Ji rfl (fun c38 => ?_) (fun c38 => ?_)
 .have hv := hv.1 (oT c38); refine Jn <| Jy <| W.block <| Je 2 <| Jg (cs := [nI Pf, nI Mf, nS Af mf kf]) JO JP rfl rfl (Jc (hS.own (i := 0) rfl)) rfl <| Jp rfl rfl <| SL.callm 1 hS rfl (Jsy (hS.own (i := 1) rfl) (hS.rom' hf hapf) (hS.aptRoM (i := 1) rfl hf hapf) hv) XF144 rfl XN144 rfl rfl ?_; rintro _ _ w39 ⟨x40, rfl, rfl, hv⟩ hS; refine Ja <| Je 3 <| WL.len Jq rfl rfl <| Jb 2 <| W.block ?_; obtain ⟨I47, μ48, hv, hk78⟩ := hv; refine JF (σ := List Int × Int) (fun q w1 => match q with | (x45, z46) => I47 x45 z46 /\ St TT w (bl Ao) w1 [.row 24 3 (nA g11) 1 1 [nI Pf, nI Mf, nS Af mf kf], .row 3 1 Ao o.length ko (is x45)]) (fun q => match q with | (x45, z46) => [(1, nS Ao o ko), (2, nS Aa a ka), (3, nS Ab b kb), (4, nP g11), (9, nI z34), (29, .bool (decide ((0 : Int) <= z34))), (35, nS Aa a ka), (36, nI (a.length : Int)), (37, nI z46)]) (fun q => match q with | (x45, z46) => μ48 x45 z46) (x40, (0 : Int)) ⟨hv, hS⟩ ⟨rfl, rfl, rfl, rfl, rfl, rfl, rfl, rfl, rfl, trivial⟩ ?_; rintro ⟨x45, z46⟩ w49 ⟨hv, hS⟩; have hv := hk78 x45 z46 hv; refine Je 5 <| Ji rfl (fun c50 => ?_) (fun c50 => ?_)
  .have hv := hv.1 (oT c50); refine Jn <| Jy <| W.block <| Je 3 ?_; obtain ⟨o51, hv⟩ := hv; refine Jj Jq XE3 (hS.rom' ha hapa) rfl rfl o51 rfl <| Jm XU3 rfl rfl (JR (hS.rom' ha hapa) o51) rfl <| Jb 3 ?_; obtain ⟨o57, hv⟩ := hv; obtain ⟨o62, hv⟩ := hv; obtain ⟨o66, hv⟩ := hv; obtain ⟨o68, hv⟩ := hv; obtain ⟨o72, hv⟩ := hv; refine JY 16 [⟨[], [1], true⟩, ⟨[], [10], true⟩, ⟨[], [1], true⟩, ⟨[], [10], true⟩, ⟨[2, 3], [], true⟩, ⟨[4], [], false⟩, ⟨[], [3], true⟩, ⟨[], [9], true⟩, ⟨[6, 7], [], true⟩, ⟨[8], [], false⟩, ⟨[], [11], true⟩, ⟨[9, 10], [], true⟩, ⟨[5, 11], [], true⟩, ⟨[], [4], true⟩, ⟨[13], [], false⟩, ⟨[12, 14], [], true⟩] [(42, nS Ao o ko), (43, nI z46), (44, nS Ao o ko), (45, nI z46), (46, .pointer (some ((JV Ao).add z46.toNat))), (47, nI (gi x45 z46)), (48, nS Ab b kb), (49, nI z34), (50, .pointer (some ((JV Ab).add z34.toNat))), (51, nI (gi b z34)), (52, nI (gi a z46)), (53, nI ((gi b z34) * (gi a z46))), (54, nI ((gi x45 z46) + ((gi b z34) * (gi a z46)))), (55, nP g11), (56, nI Pf), (57, nI (((gi x45 z46) + ((gi b z34) * (gi a z46))).tmod Pf))] Jv (by kernel_rfl) rfl rfl ?_ ?_
   .refine ⟨oA fun _ => rfl, oA fun _ => rfl, oA fun _ => rfl, oA fun _ => rfl, fun _ _ _ => Jj Jq XE3 (hS.rd (i := 1) rfl) rfl rfl o57 rfl <| Ja ⟨rfl, rfl⟩, fun _ hE _ => have hS := hS.grow (hE rfl); Jm XU3 rfl rfl (JR (hS.rd (i := 1) rfl) o57) rfl <| Ja ⟨rfl, Jf _⟩, oA fun _ => rfl, oA fun _ => rfl, fun _ _ _ => Jj Jq XE3 (hS.rom' hb hapb) rfl rfl o62 rfl <| Ja ⟨rfl, rfl⟩, fun _ hE _ => have hS := hS.grow (hE rfl); Jm XU3 rfl rfl (JR (hS.rom' hb hapb) o62) rfl <| Ja ⟨rfl, Jf _⟩, oA fun _ => rfl, fun _ _ _ => WL.mul (r := ((gi b z34) * (gi a z46))) rfl rfl (wr o66) rfl <| Ja ⟨rfl, rfl⟩, fun _ _ _ => WL.add (r := ((gi x45 z46) + ((gi b z34) * (gi a z46)))) rfl rfl (wr o68) rfl <| Ja ⟨rfl, rfl⟩, fun _ _ _ => Jd (off := 0) Qj rfl rfl <| Ja ⟨rfl, rfl⟩, fun _ hE _ => have hS := hS.grow (hE rfl); Jo 0 0 XU3 hS rfl rfl rfl ⟨rfl, rfl⟩ <| Ja ⟨rfl, Jf _⟩, fun _ _ _ => Yy (r := (((gi x45 z46) + ((gi b z34) * (gi a z46))).tmod Pf)) rfl rfl o72 rfl rfl <| Ja ⟨rfl, rfl⟩, trivial⟩
   intro w73 hT; have hS := hS.grow hT; refine Jh 16 rfl ?_; obtain ⟨o74, hv⟩ := hv; refine Jj Jq XE3 (hS.rd (i := 1) rfl) rfl rfl o74 rfl <| Ja <| Jh 17 rfl <| JG (cs' := is (si x45 z46 (((gi x45 z46) + ((gi b z34) * (gi a z46))).tmod Pf))) 1 z46.toNat hS rfl XE3 rfl rfl rfl (QE (hS.rd (i := 1) rfl) o74) (Qp _ _ _) ?_; intro w75 hS; refine Ja <| JJ <| JA ?_; obtain ⟨o76, hv⟩ := hv; refine WL.add (r := (z46 + (1 : Int))) rfl rfl (wr o76) rfl <| Jb 2 ?_; exact ⟨(si x45 z46 (((gi x45 z46) + ((gi b z34) * (gi a z46))).tmod Pf), (z46 + (1 : Int))), sp rfl, hv.2, rfl, hv.1, hS⟩
  have hv := hv.2 (oF c50); refine JC <| Je 2 ?_; obtain ⟨o77, hv⟩ := hv; refine WL.sub (r := (z34 - (1 : Int))) rfl rfl (wr o77) rfl <| Jb 2 ?_; exact ⟨(x45, (z34 - (1 : Int))), sp rfl, hv.2, rfl, hv.1, hS⟩
 have hv := hv.2 (oF c38); refine JC <| ⟨_, rfl, Fin.nil ?_⟩
 exact ⟨_, hS.ext, hS.own (i := 1) rfl, x33, rfl, rfl, hv⟩
def Jdv (Pf : Int) (Mf : Int) (mf : List Int) (x : Int) (Q : List Int -> Prop) : Prop :=
  Jav Pf Mf mf (fun r14 => (0 <= r14 /\ r14 * 8 <= 281474976710656 /\ r14 <= 281474976710656) /\ ((((0 : Nat) + (1 : Nat) : Int) * 8 <= 140737488355328) /\ (∃ (x32 : List Int), ZU Pf Mf x (fun q => q = x32) /\ (∃ (x46 : List Int), ZU Pf Mf x (fun q => q = x46) /\ ((0 <= Mf /\ Mf * 8 <= 281474976710656 /\ Mf <= 281474976710656) /\ (∃ (I119 : List Int -> Int -> List Int -> List Int -> Prop) (μ120 : List Int -> Int -> List Int -> List Int -> Nat), I119 (([] : List Int) ++ ([(1 : Int)] : List Int)) x x46 (List.replicate Mf.toNat (0 : Int)) /\ ∀ (x107 : List Int) (z110 : Int) (x111 : List Int) (x115 : List Int), (I119 x107 z110 x111 x115 -> (((z110 ≠ (1 : Int)) -> ((((x107.length : Nat) + (1 : Nat) : Int) * 8 <= 140737488355328) /\ (Jbu Pf Mf mf x115 x111 x32 (fun x131 => Za Pf x131 (fun r133 => I119 (x107 ++ ([z110] : List Int)) r133 x131 x111 /\ μ120 (x107 ++ ([z110] : List Int)) r133 x131 x111 < μ120 x107 z110 x111 x115))))) /\ (¬ (z110 ≠ (1 : Int)) -> Q x107)))))))))
theorem Js5 {w : World} {Q : List Int -> Prop} {Pf : Int} {Mf : Int} {mf : List Int} {x : Int} {Bf : Nat} {Af : Option Addr} {nf kf : Nat} (hf : Rd Bf w 1 Af nf kf (is mf)) (hv : Jdv Pf Mf mf x Q) :
   Calls Tryz.prog 133 #[.agg #[.int .i64 Pf, .int .i64 Mf, .slice Af nf kf], .int .i64 x] w fun e w' => ∃ v Qr, e = .returned v /\ w.grownBy w' none /\ Rows w.heap.size none w' Qr /\ News w.heap.size Qr /\ ∃ (x : List Int)  (A : Option Addr) (c : Nat), v = .slice A x.length c /\ Qr = [.row 3 1 A x.length c (is x)] /\ Q x := by
 have hnf := hf.ilen; subst hnf; refine Jk <| Jl (vs := [.agg #[nI Pf, nI Mf, nS Af mf kf], nI x]) [4] XF133 rfl rfl rfl rfl ?_; have hS := Jr w; unfold Jdv at hv; refine Je 2 <| Jz (z := 3) (cs := [nI Pf, nI Mf, nS Af mf kf]) hS rfl rfl rfl rfl ?_; intro g11 w12 hS; refine Jb 2 <| Je 2 <| Jg (cs := [nI Pf, nI Mf, nS Af mf kf]) JO JP rfl rfl (Jc (hS.own (i := 0) rfl)) rfl <| SL.call hS (Ja3 (hS.ro hf) hv) Jiq rfl Jmm rfl rfl ?_; rintro _ _ w13 ⟨r14, rfl, rfl, hv⟩ hGw13 hS; have hS := hS.n0; obtain ⟨o15, hv⟩ := hv; refine Qac (J := r14) (cs := is []) hS Jq XE3 rfl rfl o15 rfl rfl ?_; intro A16 w17 hS; refine Jb 2 <| Je 3 <| J3 (vs := is ([(1 : Int)] : List Int)) hS Jq XE3 rfl rfl rfl rfl (Qh _) rfl ?_; intro A19 w20 hS; obtain ⟨o22, hv⟩ := hv; refine SL.append (cs := is ([] : List Int)) (cs' := is ([(1 : Int)] : List Int)) 1 ((([] : List Int) ++ ([(1 : Int)] : List Int)).length) (is (([] : List Int) ++ ([(1 : Int)] : List Int))) hS rfl Jq XE3 (hS.rd (i := 0) rfl) (Qh _) rfl rfl (apk o22).1 (apk o22).2 (Ja5 (hS.rd (i := 1) rfl) (hS.rd (i := 0) rfl)) (QD _ _) rfl ?_; intro A23 k24 w25 hS; refine Jb 2 <| Jy ?_; obtain ⟨x32, o39, hv⟩ := hv; obtain ⟨x46, o53, hv⟩ := hv; obtain ⟨o57, hv⟩ := hv; have hS0 := hS; refine Qq 18 (fun iA => [false, false, false, false, false, true, false, false, false, false, false, true, false, false, true, false, false, false].getD iA false) (fun iC => match iC with | 15 => some 5 | 16 => some 11 | 17 => some 14 | _ => none) (fun _ v u => u = v) [⟨[], [2], true⟩, ⟨[0], [], false⟩, ⟨[], [2], true⟩, ⟨[2], [], false⟩, ⟨[], [1], true⟩, ⟨[1, 3, 4], [], false⟩, ⟨[], [2], true⟩, ⟨[6], [], false⟩, ⟨[], [2], true⟩, ⟨[8], [], false⟩, ⟨[], [1], true⟩, ⟨[7, 9, 10], [], false⟩, ⟨[], [2], true⟩, ⟨[12], [], false⟩, ⟨[13], [], false⟩, ⟨[5], [], true⟩, ⟨[11], [], true⟩, ⟨[14], [], true⟩] [.k 15 (nP g11), .k 16 (nI Pf), .k 17 (.pointer (some ((⟨g11, 0, none⟩ : Addr).add 1))), .k 18 (nI Mf), .k 19 (nI x), eS w25 20 3 x32.length (is x32), .k 21 (nP g11), .k 22 (nI Pf), .k 23 (.pointer (some ((⟨g11, 0, none⟩ : Addr).add 1))), .k 24 (nI Mf), .k 25 (nI x), eS w25 26 3 x46.length (is x46), .k 27 (.pointer (some ((⟨g11, 0, none⟩ : Addr).add 1))), .k 28 (nI Mf), eS w25 29 3 Mf.toNat (is (List.replicate Mf.toNat (0 : Int))), eS w25 6 3 x32.length (is x32), eS w25 7 3 x46.length (is x46), eS w25 8 3 Mf.toNat (is (List.replicate Mf.toNat (0 : Int)))] (fun _ => vbD) Jv (by kernel_rfl) rfl rfl (fun _ _ _ _ _ _ _ h => h) ?_ ?_
 . refine ⟨fun _ _ _ => Jd (off := 0) Qj rfl rfl <| Ja ⟨rfl, rfl⟩, fun _ hE _ => have hS := hS.grow (hE rfl); Jo 2 0 XU3 hS rfl rfl rfl ⟨rfl, rfl⟩ <| Ja ⟨rfl, Jf _⟩, fun _ _ _ => Jd (off := 1) Qy rfl rfl <| Ja ⟨rfl, rfl⟩, fun _ hE _ => have hS := hS.grow (hE rfl); Jo 2 1 XU3 hS rfl rfl rfl ⟨rfl, rfl⟩ <| Ja ⟨rfl, Jf _⟩, oB (fun _ => rfl) rfl, ?_, fun _ _ _ => Jd (off := 0) Qj rfl rfl <| Ja ⟨rfl, rfl⟩, fun _ hE _ => have hS := hS.grow (hE rfl); Jo 2 0 XU3 hS rfl rfl rfl ⟨rfl, rfl⟩ <| Ja ⟨rfl, Jf _⟩, fun _ _ _ => Jd (off := 1) Qy rfl rfl <| Ja ⟨rfl, rfl⟩, fun _ hE _ => have hS := hS.grow (hE rfl); Jo 2 1 XU3 hS rfl rfl rfl ⟨rfl, rfl⟩ <| Ja ⟨rfl, Jf _⟩, oB (fun _ => rfl) rfl, ?_, fun _ _ _ => Jd (off := 1) Qy rfl rfl <| Ja ⟨rfl, rfl⟩, fun _ hE _ => have hS := hS.grow (hE rfl); Jo 2 1 XU3 hS rfl rfl rfl ⟨rfl, rfl⟩ <| Ja ⟨rfl, Jf _⟩, ?_, ?_, ?_, ?_, trivial⟩
   .intro w31 hE; have hE := hE rfl; have hS := hS.grow hE; intro RR; refine WL.call Jr0 rfl Jzm rfl rfl (JI (Jef  o39)) ?_; rintro _ w36 ⟨_, hGw36, hRww36, hNww36, x32q, A33, k34, rfl, rfl, he⟩; subst he; have hO37 := (hRww36.get (i := 0) rfl).1; have hN38 : ∀ g, bl A33 = some g -> _ <= g := fun g hg => Nat.le_trans hE.size (hNww36.1 g hg); exact Ja ⟨_, rfl, hGw36, ⟨A33, k34, rfl, hO37, hN38⟩, (fun _ => fun g hg => ⟨hNww36.1 g hg, (hO37.bl_ge g hg).2⟩), (fun j h => by cases h)⟩
   .intro w45 hE; have hE := hE rfl; have hS := hS.grow hE; intro RR; refine WL.call Jr0 rfl Jzm rfl rfl (JI (Jef  o53)) ?_; rintro _ w50 ⟨_, hGw50, hRww50, hNww50, x46q, A47, k48, rfl, rfl, he⟩; subst he; have hO51 := (hRww50.get (i := 0) rfl).1; have hN52 : ∀ g, bl A47 = some g -> _ <= g := fun g hg => Nat.le_trans hE.size (hNww50.1 g hg); exact Ja ⟨_, rfl, hGw50, ⟨A47, k48, rfl, hO51, hN52⟩, (fun _ => fun g hg => ⟨hNww50.1 g hg, (hO51.bl_ge g hg).2⟩), (fun j h => by cases h)⟩
   .intro w56 hE; have hE := hE rfl; have hS := hS.grow hE; intro RR; refine ZX (J := Mf) Jq XE3 rfl rfl o57 (QJ _) rfl ?_; intro A58 k62 w59 hO60 hN61g hGw59; have hN61 : ∀ g, bl A58 = some g -> _ <= g := fun g hg => Nat.le_trans hE.size (hN61g g hg); exact Ja ⟨_, rfl, hGw59, ⟨A58, k62, rfl, hO60, hN61⟩, (fun _ => fun g hg => ⟨hN61g g hg, (hO60.bl_ge g hg).2⟩), (fun j h => by cases h)⟩
   .intro w63 hE; rintro _ ⟨A33_5, k34_5, rfl, hO37_5, hN38_5⟩; intro RR; refine Qd rfl rfl ?_; exact Ja ⟨_, rfl, rfl, ⟨A33_5, k34_5, rfl, hO37_5, hN38_5⟩, (fun h => absurd h (by decide)), (fun j h => by cases h; exact ⟨_, rfl, rfl⟩)⟩
   .intro w64 hE; rintro _ ⟨A47_11, k48_11, rfl, hO51_11, hN52_11⟩; intro RR; refine Qd rfl rfl ?_; exact Ja ⟨_, rfl, rfl, ⟨A47_11, k48_11, rfl, hO51_11, hN52_11⟩, (fun h => absurd h (by decide)), (fun j h => by cases h; exact ⟨_, rfl, rfl⟩)⟩
   intro w65 hE; rintro _ ⟨A58_14, k62_14, rfl, hO60_14, hN61_14⟩; intro RR; refine Qd rfl rfl ?_; exact Ja ⟨_, rfl, rfl, ⟨A58_14, k62_14, rfl, hO60_14, hN61_14⟩, (fun h => absurd h (by decide)), (fun j h => by cases h; exact ⟨_, rfl, rfl⟩)⟩
 intro vals w66 hT hVs hAp hCp; have hS := hS.grow hT; obtain ⟨A33_5, k34_5, hv5, hO37_5, hN38_5⟩ := hVs 5 (by decide); obtain ⟨A47_11, k48_11, hv11, hO51_11, hN52_11⟩ := hVs 11 (by decide); obtain ⟨A58_14, k62_14, hv14, hO60_14, hN61_14⟩ := hVs 14 (by decide); have hv15 : vals 15 = nS A33_5 x32 k34_5 := (hCp 15 5 (by decide) rfl).trans hv5; have hv16 : vals 16 = nS A47_11 x46 k48_11 := (hCp 16 11 (by decide) rfl).trans hv11; have hv17 : vals 17 = .slice A58_14 Mf.toNat k62_14 := (hCp 17 14 (by decide) rfl).trans hv14; have hS := J1 [] hS0 hS hO37_5 hN38_5 (fun s hs => by cases hs); have hap11_5 : ∀ g, (.row 3 1 A47_11 x46.length k48_11 (is x46) : Rw).at_ g -> ¬ (.row 3 1 A33_5 x32.length k34_5 (is x32) : Rw).at_ g := by have h_ := hAp 11 5 (by decide) (by decide) (by decide) rfl rfl; rw [hv11, hv5] at h_; exact fun g h1 h2 => h_ g h1 h2
 have hS := J1 [nR 3 A33_5 x32 k34_5] hS0 hS hO51_11 hN52_11 (by intro s hs g hg; simp only [List.mem_cons, List.not_mem_nil, or_false] at hs; obtain rfl := hs; exact hap11_5 g hg); have hap14_11 : ∀ g, (.row 3 1 A58_14 Mf.toNat k62_14 (is (List.replicate Mf.toNat (0 : Int))) : Rw).at_ g -> ¬ (.row 3 1 A47_11 x46.length k48_11 (is x46) : Rw).at_ g := by have h_ := hAp 14 11 (by decide) (by decide) (by decide) rfl rfl; rw [hv14, hv11] at h_; exact fun g h1 h2 => h_ g h1 h2
 have hap14_5 : ∀ g, (.row 3 1 A58_14 Mf.toNat k62_14 (is (List.replicate Mf.toNat (0 : Int))) : Rw).at_ g -> ¬ (.row 3 1 A33_5 x32.length k34_5 (is x32) : Rw).at_ g := by have h_ := hAp 14 5 (by decide) (by decide) (by decide) rfl rfl; rw [hv14, hv5] at h_; exact fun g h1 h2 => h_ g h1 h2
 have hS := J1 [nR 3 A47_11 x46 k48_11, nR 3 A33_5 x32 k34_5] hS0 hS hO60_14 hN61_14 (by intro s hs g hg; simp only [List.mem_cons, List.not_mem_nil, or_false] at hs; rcases hs with rfl | rfl <;> first | exact hap14_11 g hg | exact hap14_5 g hg); refine Qw [(5, nS A33_5 x32 k34_5), (11, nS A47_11 x46 k48_11), (14, .slice A58_14 Mf.toNat k62_14), (15, nS A33_5 x32 k34_5), (16, nS A47_11 x46 k48_11), (17, .slice A58_14 Mf.toNat k62_14)] ⟨hv5, hv11, hv14, hv15, hv16, hv17, trivial⟩ <| JJ <| Jy <| W.block ?_; obtain ⟨I119, μ120, hv, hk134⟩ := hv; have hS := hS.pick [1, 0, 2, 3, 4, 5] rfl; have hm1 : Mf.toNat = (List.replicate Mf.toNat (0 : Int)).length := (hS.rd (i := 1) rfl).ilen.symm; have hS := hS.relen (i := 1) rfl hm1
 change St _ _ _ _ [_, _, _, _, _, _] at hS
 refine JF (σ := List Int × Int × List Int × List Int × Option Addr × Nat × Option Addr × Nat × Option Addr × Nat) (fun q w1 => match q with | (x107, z110, x111, x115, A108, k109, A112, k113, A116, k117) => I119 x107 z110 x111 x115 /\ St TT w none w1 [nR 3 A112 x111 k113, nR 3 A116 x115 k117, nR 3 A33_5 x32 k34_5, .row 3 1 A19 1 1 (is ([(1 : Int)] : List Int)), nR 3 A108 x107 k109, .row 24 3 (nA g11) 1 1 [nI Pf, nI Mf, nS Af mf kf]]) (fun q => match q with | (x107, z110, x111, x115, A108, k109, A112, k113, A116, k117) => [(1, nI z110), (2, nP g11), (4, .slice none 0 0), (5, nS A108 x107 k109), (6, nS A33_5 x32 k34_5), (7, nS A112 x111 k113), (8, nS A116 x115 k117)]) (fun q => match q with | (x107, z110, x111, x115, A108, k109, A112, k113, A116, k117) => μ120 x107 z110 x111 x115) (([] : List Int) ++ ([(1 : Int)] : List Int), x, x46, List.replicate Mf.toNat (0 : Int), A23, k24, A47_11, k48_11, A58_14, k62_14) ⟨hv, hS⟩ ⟨rfl, rfl, rfl, rfl, rfl, rfl, (sm (by first | rfl | assumption | omega)), trivial⟩ ?_; rintro ⟨x107, z110, x111, x115, A108, k109, A112, k113, A116, k117⟩ w121 ⟨hv, hS⟩; have hv := hk134 x107 z110 x111 x115 hv; refine Je 6 <| Ji rfl (fun c122 => ?_) (fun c122 => ?_)
 .have hv := hv.1 (oT c122); refine Jn <| W.block <| Je 4 <| J3 (vs := is ([z110] : List Int)) hS Jq XE3 rfl rfl rfl rfl (Qh _) rfl ?_; intro A123 w124 hS; obtain ⟨o126, hv⟩ := hv; refine SL.append (cs := is x107) (cs' := is ([z110] : List Int)) 5 ((x107 ++ ([z110] : List Int)).length) (is (x107 ++ ([z110] : List Int))) hS rfl Jq XE3 (hS.rd (i := 0) rfl) (Qh _) rfl rfl (apk o126).1 (apk o126).2 (Ja5 (hS.rd (i := 5) rfl) (hS.rd (i := 0) rfl)) (QD _ _) rfl ?_; intro A127 k128 w129 hS; refine Jb 2 <| Je 2 <| Jg (cs := [nI Pf, nI Mf, nS Af mf kf]) JO JP rfl rfl (Jc (hS.own (i := 6) rfl)) rfl <| Jb 3 <| SL.callm 2 hS rfl (Jnz (hS.own (i := 2) rfl) (hS.ro hf) (hS.rd (i := 1) rfl) (hS.rd (i := 3) rfl) (hS.aptRo (i := 2) rfl hf) (hS.aptRow (i := 2) (j := 1) (by decide) rfl rfl) (hS.aptRow (i := 2) (j := 3) (by decide) rfl rfl) hv) XF140 rfl XN140 rfl rfl ?_; rintro _ _ w130 ⟨x131, rfl, rfl, hv⟩ hS; refine Ja <| Je 8 <| Jd (off := 0) Qj rfl rfl <| Jo 6 0 XU3 hS rfl rfl rfl ⟨rfl, rfl⟩ <| Jp rfl rfl <| SL.call hS (Jhu (hS.rd (i := 2) rfl) hv) XF141 rfl XN141 rfl rfl ?_; rintro _ _ w132 ⟨r133, rfl, rfl, hv⟩ hGw132 hS; have hS := hS.n0; refine Jb 2 ?_; have hS := hS.pick [2, 1, 3, 4, 5, 6] rfl; have hm0 : x115.length = x131.length := (hS.rd (i := 0) rfl).ilen.symm; have hS := hS.relen (i := 0) rfl hm0
  change St _ _ _ _ [_, _, _, _, _, _] at hS
  exact ⟨(x107 ++ ([z110] : List Int), r133, x131, x111, A127, k128, A116, k117, A112, k113), ⟨rfl, rfl, rfl, rfl, rfl, (sm (by first | rfl | assumption | omega)), rfl, trivial⟩, hv.2, rfl, hv.1, hS⟩
 have hv := hv.2 (oF c122); refine JC <| Je 5 <| W.ret <| ⟨_, rfl, Fin.nil ?_⟩
 exact (hS.pick [4] rfl).fin rfl ⟨x107, A108, k109, rfl, rfl, hv⟩
def Jfw (Fg : GFv) (Q : List Int -> Prop) : Prop :=
  (0 <= Fg.q /\ Fg.q * 1 <= 281474976710656 /\ Fg.q <= 281474976710656) /\ ((0 <= (0 : Int) /\ (0 : Int) < (Fg.q.toNat : Nat)) /\ (Jcp Fg (fun _ => I64 Fg.q /\ ∃ (I42 : Nat -> List Int -> List Bool -> Prop) (J43 : List Int -> List Bool -> Prop), I42 0 ([] : List Int) (sb (List.replicate Fg.q.toNat false) (0 : Int) true) /\ (∀ i26 : Nat, i26 < Fg.q.toNat -> ∀ (x37 : List Int) (x41 : List Bool), I42 i26 x37 x41 -> ((0 <= (i26 : Int) /\ (i26 : Int) < (Fg.q.toNat : Nat)) /\ ((((gb x41 (i26 : Int)) = true) -> (I42 (i26 + 1) x37 x41)) /\ ((gb x41 (i26 : Int)) = false -> (Jdv Fg.P Fg.M Fg.mod (i26 : Int) (fun x48 => (I64 (Fg.q - (1 : Int))) /\ ((((x48.length : Int) = (Fg.q - (1 : Int))) -> J43 x48 x41) /\ (¬ ((x48.length : Int) = (Fg.q - (1 : Int))) -> (∃ (I70 : List Bool -> Int -> Prop) (μ71 : List Bool -> Int -> Nat), I70 x41 (0 : Int) /\ ∀ (x68 : List Bool) (z69 : Int), (I70 x68 z69 -> (((z69 < (x48.length : Int)) -> ((0 <= z69 /\ z69 < (x48.length : Nat)) /\ ((0 <= (gi x48 z69) /\ (gi x48 z69) < (Fg.q.toNat : Nat)) /\ ((I64 (z69 + (1 : Int))) /\ (I70 (sb x68 (gi x48 z69) true) (z69 + (1 : Int)) /\ μ71 (sb x68 (gi x48 z69) true) (z69 + (1 : Int)) < μ71 x68 z69))))) /\ (¬ (z69 < (x48.length : Int)) -> (I42 (i26 + 1) x48 x68))))))))))))) /\ (∀ (x37 : List Int) (x41 : List Bool), I42 Fg.q.toNat x37 x41 -> Q x37) /\ (∀ (x37 : List Int) (x41 : List Bool), J43 x37 x41 -> Q x37))))
theorem Jx1 {w : World} {Q : List Int -> Prop} {Fg : GFv} {ag : Addr} {Bg : Nat} (hgg : GFR Bg w ag Fg) (hv : Jfw Fg Q) :
   Calls Tryz.prog 113 #[.pointer (some ag)] w fun e w' => ∃ v Qr, e = .returned v /\ w.grownBy w' none /\ Rows w.heap.size none w' Qr /\ News w.heap.size Qr /\ ∃ (x : List Int)  (A : Option Addr) (c : Nat), v = .slice A x.length c /\ Qr = [.row 3 1 A x.length c (is x)] /\ Q x := by
 have hgg_ := hgg; obtain ⟨Ag_mod, kg_mod, Ag_exp, kg_exp, Ag_log, kg_log, Ag_above, kg_above, hg_c, hg_mod, hg_exp, hg_log, hg_above⟩ := hgg_; refine Jk <| Jl (vs := [.pointer (some ag)]) [2] XF113 rfl rfl rfl rfl ?_; have hS := Jr w; unfold Jfw at hv; refine Je 2 <| Jz (z := 1) (cs := [.pointer (some ag)]) hS rfl rfl rfl rfl ?_; intro g11 w12 hS; refine Jb 2 <| Je 2 <| Jo 0 0 Jfb hS rfl rfl rfl ⟨rfl, rfl⟩ <| Q6 rfl rfl <| Jd (off := 3) Jan rfl rfl <| Jm XU3 rfl rfl (Rd.at_ (hS.ro hg_c) (j := 3) rfl) rfl ?_; obtain ⟨o13, hv⟩ := hv; refine QB (J := Fg.q) hS Jhb XE4 rfl rfl o13 (Qbk _) rfl ?_; intro A14 w15 hS; refine SL.alloc (cs := [.slice none 0 0]) hS XE128 rfl rfl ?_; intro g17 w18 hS; refine JG (cs' := [.slice A14 Fg.q.toNat Fg.q.toNat]) 0 0 hS rfl XE128 rfl rfl rfl (QA rfl) rfl ?_; intro w19 hS; refine Ja <| Je 2 <| Jo 0 0 Jhb hS rfl rfl rfl ⟨rfl, rfl⟩ ?_; obtain ⟨o20, hv⟩ := hv; refine Jj Jhb XE4 (hS.rd (i := 1) rfl) rfl rfl o20 rfl <| JG (cs' := bs (sb (List.replicate Fg.q.toNat false) (0 : Int) true)) 1 (0 : Int).toNat hS rfl XE4 rfl rfl rfl (bs_lt (hS.rd (i := 1) rfl) o20) (Jy6 _ _ _) ?_; intro w21 hS; refine Ja <| Je 2 <| SL.alloc (cs := [.slice none 0 0]) hS Jw rfl rfl ?_; intro g22 w23 hS; refine Ja <| Je 3 <| Jo 3 0 Jfb hS rfl rfl rfl ⟨rfl, rfl⟩ <| SL.call hS (Jlm (GFR.ext (GFR.norm hgg) hS.ext) hv) XF132 rfl XN132 rfl rfl ?_; rintro _ _ w24 ⟨g25, rfl, rfl, hv⟩ hGw24 hS; have hS := hS.n1; refine Ja <| W.block ?_; obtain ⟨o85, hv⟩ := hv; obtain ⟨I42, J43, hv, hk82, hd83, hx84⟩ := hv; have hS := hS.nil (e := 3) (z := 1); have hm0 : 0 = ([] : List Int).length := (hS.rd (i := 0) rfl).ilen.symm; have hS := hS.relen (i := 0) rfl hm0
 change St _ _ _ _ [_, _, _, _, _, _] at hS
 refine Jm2 (σ := List Int × List Bool × Option Addr × Nat) (fun i q => match q with | (x37, x41, A38, k39) => I42 i x37 x41) (fun q => match q with | (x37, x41, A38, k39) => [.row 3 1 A38 x37.length k39 (is x37), .row 84 1 (some ⟨g25, 0, none⟩) 1 1 [.pointer (some ag)], .row 22 1 (some ⟨g22, 0, none⟩) 1 1 [.slice A38 x37.length k39], .row 128 1 (some ⟨g17, 0, none⟩) 1 1 [.slice A14 Fg.q.toNat Fg.q.toNat], .row 4 1 A14 Fg.q.toNat Fg.q.toNat (bs x41), .row 84 1 (some ⟨g11, 0, none⟩) 1 1 [.pointer (some ag)]]) (fun e q => match e, q with | .exit 0, (x37, x41, A38, k39) => J43 x37 x41 | _, _ => False) (fun vs => [(1, .pointer (some ⟨g11, 0, none⟩)), (2, .slice none 0 0), (3, .pointer (some ⟨g17, 0, none⟩)), (4, .pointer (some ⟨g22, 0, none⟩)), (5, vs.getD 0 undef)]) (([] : List Int), sb (List.replicate Fg.q.toNat false) (0 : Int) true, none, 0) hS hv (fun q => by obtain ⟨x37, x41, A38, k39⟩ := q; exact trivial) rfl XF139 rfl XN139 (Jjy o85 (Jc (hS.own (i := 1) rfl) 0 _ rfl) (Rd.at_ (hS.ro hg_c) (j := 3) rfl)) (Below.refl _ _) (fun _ _ _ h => by rw [h]; rfl) (fun _ _ _ _ _ h _ _ => h) (by decide) (fun _ _ _ _ _ => trivial) ?_ ?_ ?_ ?_
 .intro lq vsq W1q hlq
  match vsq, hlq with
  | [a0], _ =>
    refine Je 3 ?_; exact ⟨rfl, rfl, sp rfl⟩
 .rintro lq i26 _ ⟨x37, x41, A38, k39⟩ w44 hi rfl hI hS; have hv := hk82 i26 hi x37 x41 hI; refine W.block <| Je 3 <| Jo 3 0 Jhb hS rfl rfl rfl ⟨rfl, rfl⟩ <| Jp rfl rfl ?_; obtain ⟨o45, hv⟩ := hv; refine Jj Jhb XE4 (hS.rd (i := 4) rfl) rfl rfl o45 rfl <| Jm XU4 rfl rfl (Rd.gb (hS.rd (i := 4) rfl) o45) rfl <| Ja <| Ji rfl (fun c46 => ?_) (fun c46 => ?_)
  .have hv := hv.1 (c46); refine JC ?_; exact ⟨(x37, x41, A38, k39), hv, hS⟩
  have hv := hv.2 (c46); refine Jn <| Je 2 <| Jo 5 0 Jfb hS rfl rfl rfl ⟨rfl, rfl⟩ <| Q6 rfl rfl <| Jd (off := 0) Jj8 rfl rfl <| Jg (cs := [nI Fg.P, nI Fg.M, nS Ag_mod Fg.mod kg_mod]) JO JP rfl rfl (Jwu (hS.ro hg_c) 0 rfl) rfl <| Jp rfl rfl <| SL.call hS (Js5 (hS.ro hg_mod) hv) XF133 rfl XN133 rfl rfl ?_; rintro _ _ w47 ⟨x48, A49, k50, rfl, rfl, hv⟩ hGw47 hS; have hS := hS.n1; refine JG (cs' := [nS A49 x48 k50]) 3 0 hS rfl Jw rfl rfl rfl (QA rfl) rfl ?_; intro w52 hS; refine Ja <| Je 2 ?_; obtain ⟨o60, hv⟩ := hv; refine JY 8 [⟨[], [4], false⟩, ⟨[0], [], true⟩, ⟨[], [1], false⟩, ⟨[2], [], true⟩, ⟨[3], [], true⟩, ⟨[4], [], false⟩, ⟨[5], [], true⟩, ⟨[1, 6], [], true⟩] [(28, nS A49 x48 k50), (29, nI (x48.length : Int)), (30, .pointer (some ag)), (31, .pointer (some ag)), (32, .pointer (some (ag.add 3))), (33, nI Fg.q), (34, nI (Fg.q - (1 : Int))), (35, .bool (decide ((x48.length : Int) = (Fg.q - (1 : Int)))))] Jv (by kernel_rfl) rfl rfl ?_ ?_
  . refine ⟨fun _ hE _ => have hS := hS.grow (hE rfl); Jo 3 0 Jq hS rfl rfl rfl ⟨rfl, rfl⟩ <| Ja ⟨rfl, Jf _⟩, fun _ _ _ => WL.len Jq rfl rfl <| Ja ⟨rfl, rfl⟩, fun _ hE _ => have hS := hS.grow (hE rfl); Jo 6 0 Jfb hS rfl rfl rfl ⟨rfl, rfl⟩ <| Ja ⟨rfl, Jf _⟩, oA fun _ => rfl, fun _ _ _ => Jd (off := 3) Jan rfl rfl <| Ja ⟨rfl, rfl⟩, fun _ hE _ => have hS := hS.grow (hE rfl); Jm XU3 rfl rfl (Rd.at_ (hS.ro hg_c) (j := 3) rfl) rfl <| Ja ⟨rfl, Jf _⟩, fun _ _ _ => WL.sub (r := (Fg.q - (1 : Int))) rfl rfl (wr o60) rfl <| Ja ⟨rfl, rfl⟩, oA fun _ => rfl, trivial⟩
  intro w62 hT; have hS := hS.grow hT; refine JJ <| Ji rfl (fun c63 => ?_) (fun c63 => ?_)
  .have hv := hv.1 (oT c63); refine JC ?_; have hS := hS.pick [0, 2, 3, 4, 5, 6] rfl; exact ⟨(x48, x41, A49, k50), rfl, hv, hS⟩
  have hv := hv.2 (oF c63); refine Jn <| Je 2 <| Jo 3 0 Jq hS rfl rfl rfl ⟨rfl, rfl⟩ <| WL.len Jq rfl rfl <| Jb 2 <| W.block ?_; obtain ⟨I70, μ71, hv, hk78⟩ := hv; refine JF (σ := List Bool × Int) (fun q w1 => match q with | (x68, z69) => I70 x68 z69 /\ St (KO w44) w none w1 [nR 3 A49 x48 k50, nR 3 A38 x37 k39, nV 84 g25 (.pointer (some ag)), nV 22 g22 (nS A49 x48 k50), nV 128 g17 (.slice A14 Fg.q.toNat Fg.q.toNat), .row 4 1 A14 Fg.q.toNat Fg.q.toNat (bs x68), nV 84 g11 (.pointer (some ag))]) (fun q => match q with | (x68, z69) => [(1, nP g11), (2, .slice none 0 0), (3, nP g17), (4, nP g22), (5, nI (i26 : Int)), (21, .bool (gb x41 (i26 : Int))), (35, .bool (decide ((x48.length : Int) = (Fg.q - (1 : Int))))), (36, nS A49 x48 k50), (37, nI (x48.length : Int)), (38, nI z69)]) (fun q => match q with | (x68, z69) => μ71 x68 z69) (x41, (0 : Int)) ⟨hv, hS⟩ ⟨rfl, rfl, rfl, rfl, rfl, rfl, rfl, rfl, rfl, rfl, trivial⟩ ?_; rintro ⟨x68, z69⟩ w72 ⟨hv, hS⟩; have hv := hk78 x68 z69 hv; refine Je 5 <| Ji rfl (fun c73 => ?_) (fun c73 => ?_)
  .have hv := hv.1 (oT c73); refine Jn <| Jy <| W.block <| Je 2 ?_; obtain ⟨o74, hv⟩ := hv; refine Jj Jq XE3 (hS.rd (i := 0) rfl) rfl rfl o74 rfl <| Jm XU3 rfl rfl (JR (hS.rd (i := 0) rfl) o74) rfl <| Jb 2 <| JA <| Jo 4 0 Jhb hS rfl rfl rfl ⟨rfl, rfl⟩ <| Jp rfl rfl ?_; obtain ⟨o75, hv⟩ := hv; refine Jj Jhb XE4 (hS.rd (i := 5) rfl) rfl rfl o75 rfl <| JG (cs' := bs (sb x68 (gi x48 z69) true)) 5 (gi x48 z69).toNat hS rfl XE4 rfl rfl rfl (bs_lt (hS.rd (i := 5) rfl) o75) (Jy6 _ _ _) ?_; intro w76 hS; refine Ja <| JA ?_; obtain ⟨o77, hv⟩ := hv; refine WL.add (r := (z69 + (1 : Int))) rfl rfl (wr o77) rfl <| Jb 2 ?_; exact ⟨(sb x68 (gi x48 z69) true, (z69 + (1 : Int))), sp rfl, hv.2, rfl, hv.1, hS⟩
  have hv := hv.2 (oF c73); refine JC ?_; have hS := hS.pick [0, 2, 3, 4, 5, 6] rfl; exact ⟨(x48, x68, A49, k50), hv, hS⟩
 .rintro D79 ⟨x37, x41, A38, k39⟩ w80 hv hD hS; have hv := hd83 x37 x41 hv; refine Je 2 <| Jo 3 0 Jq hS rfl rfl rfl ⟨rfl, rfl⟩ <| Jb 2 <| W.ret ?_; have hS := hS.pick [0, 1] rfl; obtain ⟨hDD79, hS⟩ := hS.taken trivial; refine ⟨_, rfl, Fin.cons hDD79 (Fin.nil ?_)⟩; exact (hS.pick [0] rfl).fin rfl ⟨x37, A38, k39, rfl, rfl, hv⟩
 rintro D79 e ⟨x37, x41, A38, k39⟩ w80 he hv hD hS; cases e with
 | exit id =>
   by_cases hid : id = 0
   .subst hid; have hv := hx84 x37 x41 hv; refine Je 2 <| Jo 3 0 Jq hS rfl rfl rfl ⟨rfl, rfl⟩ <| Jb 2 <| W.ret ?_; have hS := hS.pick [0, 1] rfl; obtain ⟨hDD79, hS⟩ := hS.taken trivial; refine ⟨_, rfl, Fin.cons hDD79 (Fin.nil ?_)⟩; exact (hS.pick [0] rfl).fin rfl ⟨x37, A38, k39, rfl, rfl, hv⟩
   exact absurd hv (by simp [hid])
 | ret => exact hv.elim
 | _ => simp [QU] at he
end Go.Proofs.YtngdhnijkgjhcaaGreat
