/- What only this law leans on. -/
import Derived.Test.YtfeeapdpahcanaaCyclicCosetsG3
namespace Go.Proofs.Ytfeeapdpahcanaa
open Go.RowKit

section
variable {P : Program} {n : Nat} {ro : Option Nat} {df : List Deferred} {N : Ji} {L : Fr} {w : World} {ops : Array Oper} {rest : List Oper}
variable {d : Nat} {ty : TypeId} {pos : String} {af : Array Edge}

theorem JC {x : Operand} {k k' : IntKind} {a r : Int} {src dst : TypeId} {ds : TypeDesc} (hs : P.underlying src = some ds) (hd : P.underlying dst = some (.int k')) (hx : ev L x = some (.int k a)) (hr : k'.wrap a = r) (hn : Nat.blt d n = true) (h : WL P n ro df ops rest N ((d, .int k' r) :: L) w) :
    WL P n ro df ops (⟨some d, .convert src dst x, ty, pos, af, none⟩ :: rest) N L w :=
  Jc rfl rfl hn (fun a ha => by simp [execOp, convert, ha.ev hx, run_underlying hs, run_underlying hd, Conv.intToInt, hr]) h
end
end Go.Proofs.Ytfeeapdpahcanaa
namespace Go.Proofs.Ytfeeapdpahcanaa
open Go.RowKit
theorem iv {k : IntKind} {a b : Int} (h : a = b) : some (Value.int k a) = some (Value.int k b) := by rw [h]
section
variable {P : Program} {n : Nat} {ro : Option Nat} {df : List Deferred} {N : Ji} {L : Fr} {w : World} {ops : Array Oper} {rest : List Oper}
variable {d : Nat} {ty : TypeId} {pos : String} {af : Array Edge}
end
section
variable {P : Program} {n : Nat} {ro : Option Nat} {df : List Deferred} {N : Ji} {L : Fr} {w : World} {ops : Array Oper} {rest : List Oper}
variable {d : Nat} {ty : TypeId} {pos : String} {af : Array Edge}
end
end Go.Proofs.Ytfeeapdpahcanaa
set_option linter.unusedVariables false
namespace Go.Proofs.Ytfeeapdpahcanaa
open Go.RowKit
theorem is_set (l : List Int) (j : Nat) (x : Int) : (is l).set j (.int .i64 x) = is (l.set j x) := by simp [is, List.map_set]
theorem Jcv (k : Nat) : (madeCells (Value.int .i64 0).cells (k * 1)).toList = is (List.replicate k 0) := by
  rw [Nat.mul_one]
  show (madeCells #[Value.int .i64 0] k).toList = _
  rw [toList_madeCells_one]
  simp [is]
def si (l : List Int) (i : Int) (x : Int) : List Int := l.set i.toNat x
end Go.Proofs.Ytfeeapdpahcanaa
set_option linter.unusedSimpArgs false
set_option linter.unusedVariables false
namespace Go.Proofs.Ytfeeapdpahcanaa
open Go.RowKit
theorem is_lt {B : Nat} {w : World} {A : Option Addr} {m c : Nat} {l : List Int} (h : Rd B w 1 A m c (is l)) {I : Int} (hI : 0 <= I /\ I < (m : Nat)) : I.toNat < (is l).length := by rw [Ja8, h.ilen]; omega
section
variable {X : World -> Prop} {w0 w w' : World} {mr : Option Nat} {R : List Rw}
end
section
variable {P : Program} {n : Nat} {ro : Option Nat} {df : List Deferred} {N : Ji} {L : Fr} {w w0 : World} {ops : Array Oper} {rest : List Oper}
variable {d : Nat} {ty : TypeId} {pos : String} {af : Array Edge}
end
end Go.Proofs.Ytfeeapdpahcanaa
set_option linter.unusedSimpArgs false
set_option linter.unusedVariables false
namespace Go.Proofs.Ytfeeapdpahcanaa
open Go.RowKit
/-! ### pieces in other orders, several rows as one piece -/
section
variable {b : Nat} {mr : Option Nat} {w w' : World} {R L : List Rw}
end
section
variable {X : World -> Prop} {w0 w w' : World} {mr : Option Nat} {R L : List Rw}
end
section
variable {X : World -> Prop} {w0 w w' : World} {mr : Option Nat} {R : List Rw} {eS eI m c : Nat} {A : Option Addr} {hs : Hs} {ls : List (List Int)}
theorem St.mxrd {i : Nat} (h : St X w0 mr w R) (hi : R[i]? = some (mx eS eI A m c hs ls)) {I : Int} (hI : 0 <= I /\ I < (m : Nat)) : Rd w.heap.size w 1 (hs I.toNat).1 (gl ls I).length (hs I.toNat).2 (is (gl ls I)) := by
  have hl := h.mxlen hi
  have h2 := (h.mxrows hi).2.2.get (Ja9 eI hs ls (i := I.toNat) (by omega))
  exact h2.1.rd
theorem St.mxcell {i : Nat} (h : St X w0 mr w R) (hi : R[i]? = some (mx eS eI A m c hs ls)) {I : Int} (hI : 0 <= I /\ I < (m : Nat)) : w.cell? ((JI A).add I.toNat) = some (.slice (hs I.toNat).1 (gl ls I).length (hs I.toNat).2) := by
  have hl := h.mxlen hi
  exact (h.mxout hi).at_ (Yi hs ls (by omega))
end
end Go.Proofs.Ytfeeapdpahcanaa
set_option linter.unusedSimpArgs false
set_option linter.unusedVariables false
namespace Go.Proofs.Ytfeeapdpahcanaa
open Go.RowKit
section
variable {X : World -> Prop} {w0 w w' : World} {mr : Option Nat} {R : List Rw} {eS eI m c : Nat} {A : Option Addr} {hs : Hs} {ls : List (List Int)}
end
section
variable {P : Program} {n : Nat} {ro : Option Nat} {df : List Deferred} {N : Ji} {L : Fr} {w w0 : World} {ops : Array Oper} {rest : List Oper}
variable {d : Nat} {ty : TypeId} {pos : String} {af : Array Edge} {X : World -> Prop} {mr : Option Nat} {R : List Rw} {eS eI m c : Nat} {A : Option Addr} {hs : Hs} {ls : List (List Int)}
/-- The address of an element of a list of lists. -/
theorem JP {x i : Operand} {t e : TypeId} {by_ : Nat} {zero : Value} {k : IntKind} {I : Int} {wR : World} (q : Nat)
    (ht : P.underlying t = some (.slice e)) (he : Elem P e 1 by_ zero) (hS : St X w0 mr wR R) (hq : R[q]? = some (mx eS eI A m c hs ls)) (hx : ev L x = some (.slice A m c)) (hi : ev L i = some (.int k I)) (hI : 0 <= I /\ I < ((m : Nat) : Int)) (hn : Nat.blt d n = true)
    (h : WL P n ro df ops rest N ((d, .pointer (some ((JI A).add I.toNat))) :: L) w) : WL P n ro df ops (⟨some d, .indexAddr t x i, ty, pos, af, none⟩ :: rest) N L w :=
  Jj ht he (hS.mxout hq) hx hi hI hn h
end
end Go.Proofs.Ytfeeapdpahcanaa
set_option linter.unusedSimpArgs false
set_option linter.unusedVariables false
namespace Go.Proofs.Ytfeeapdpahcanaa
open Go.RowKit
section
variable {P : Program} {n : Nat} {ro : Option Nat} {df : List Deferred} {N : Ji} {L : Fr} {w w0 : World} {ops : Array Oper} {rest : List Oper}
variable {d : Nat} {ty : TypeId} {pos : String} {af : Array Edge} {X : World -> Prop} {mr : Option Nat} {R : List Rw} {eI m c : Nat} {A : Option Addr} {hs : Hs} {ls : List (List Int)}
end
theorem Rll.two {w : World} {A A1 A2 : Option Addr} {B k m1 k1 m2 k2 : Nat} {hs1 hs2 : Hs} {l1 l2 : List (List Int)} (hA : Rd B w 1 A 2 k [.slice A1 m1 k1, .slice A2 m2 k2]) (h1 : RlH w A1 m1 k1 hs1 l1) (h2 : RlH w A2 m2 k2 hs2 l2) :
    Rll w A 2 k (fun i => if i = 0 then ((A1, k1), hs1) else ((A2, k2), hs2)) [l1, l2] := by
  obtain rfl := h1.len
  obtain rfl := h2.len
  refine ⟨⟨B, hA⟩, fun i hi => ?_⟩
  match i, hi with
  | 0, _ => exact h1
  | 1, _ => exact h2
end Go.Proofs.Ytfeeapdpahcanaa
set_option linter.unusedVariables false
namespace Go.Proofs.Ytfeeapdpahcanaa
open Go.RowKit
theorem Jap {x : Int} (h : (Lit.int .u8 x).wf = true) : 0 <= x /\ x <= 255 := by
  simp [Lit.wf, IntKind.min, IntKind.max, IntKind.signed, IntKind.bits] at h
  exact ⟨by omega, by omega⟩
end Go.Proofs.Ytfeeapdpahcanaa
namespace Go.Proofs.Ytfeeapdpahcanaa
open Go.RowKit
abbrev XF4 := Try.func4
abbrev XU5 := Try.underlying5
end Go.Proofs.Ytfeeapdpahcanaa
set_option linter.unusedSimpArgs false
set_option linter.unusedVariables false
set_option maxRecDepth 4000
set_option maxHeartbeats 4000000
namespace Go.Proofs.Ytfeeapdpahcanaa
open Go.RowKit
def J4 (u : Int) (v : Int) (Q : Bool -> Prop) : Prop :=
  (I64 u) /\ ((I64 v) /\ (JX u v (fun (x14, r15) => ((u < 2) -> (Q (decide (r15 = 6)))) /\ (¬ (u < 2) -> (((v < 1) -> (Q (decide (r15 = 6)))) /\ (¬ (v < 1) -> (((r15 ≠ 0) -> (((r15 = 10) -> ((I64 u) /\ ((I64 v) /\ (JV u v (fun r27 => Q (decide (r27 ≠ 1))))))) /\ (¬ (r15 = 10) -> Q false))) /\ (¬ (r15 ≠ 0) -> ((I64 v) /\ ((0 <= v /\ v * 8 <= 281474976710656 /\ v <= 281474976710656) /\ (∃ (I42 : List Int -> Int -> Int -> Prop) (μ43 : List Int -> Int -> Int -> Nat), I42 (List.replicate v.toNat (0 : Int)) (0 : Int) (0 : Int) /\ ∀ (x39 : List Int) (z40 : Int) (z41 : Int), (I42 x39 z40 z41 -> (((z41 < (x14.length : Int)) -> (∃ (I55 : List Int -> Int -> Int -> Prop) (μ56 : List Int -> Int -> Int -> Nat), I55 x39 z40 0 /\ ∀ (x52 : List Int) (z53 : Int) (z54 : Int), (I55 x52 z53 z54 -> ((0 <= z41 /\ z41 < (x14.length : Nat)) /\ (((z54 < (((gl x14 z41).length : Nat) : Int)) -> ((0 <= z41 /\ z41 < (x14.length : Nat)) /\ ((0 <= z54 /\ z54 < ((gl x14 z41).length : Nat)) /\ ((((gi (gl x14 z41) z54) < (0 : Int)) -> Q false) /\ (¬ ((gi (gl x14 z41) z54) < (0 : Int)) -> ((0 <= z41 /\ z41 < (x14.length : Nat)) /\ ((0 <= z54 /\ z54 < ((gl x14 z41).length : Nat)) /\ ((I64 v) /\ (((v <= (gi (gl x14 z41) z54)) -> Q false) /\ (¬ (v <= (gi (gl x14 z41) z54)) -> ((0 <= z41 /\ z41 < (x14.length : Nat)) /\ ((0 <= z54 /\ z54 < ((gl x14 z41).length : Nat)) /\ ((0 <= (gi (gl x14 z41) z54) /\ (gi (gl x14 z41) z54) < (v.toNat : Nat)) /\ ((((gi x52 (gi (gl x14 z41) z54)) ≠ 0) -> Q false) /\ (¬ ((gi x52 (gi (gl x14 z41) z54)) ≠ 0) -> ((0 <= z41 /\ z41 < (x14.length : Nat)) /\ ((0 <= z54 /\ z54 < ((gl x14 z41).length : Nat)) /\ ((I64 (z41 + 1)) /\ ((0 <= (gi (gl x14 z41) z54) /\ (gi (gl x14 z41) z54) < (v.toNat : Nat)) /\ ((I64 (z53 + 1)) /\ ((I64 (z54 + 1)) /\ (I55 (si x52 (gi (gl x14 z41) z54) (z41 + 1)) (z53 + 1) (z54 + 1) /\ μ56 (si x52 (gi (gl x14 z41) z54) (z41 + 1)) (z53 + 1) (z54 + 1) < μ56 x52 z53 z54)))))))))))))))))))))) /\ (¬ (z54 < (((gl x14 z41).length : Nat) : Int)) -> ((I64 (z41 + 1)) /\ (I42 x52 z53 (z41 + 1) /\ μ43 x52 z53 (z41 + 1) < μ43 x39 z40 z41)))))))) /\ (¬ (z41 < (x14.length : Int)) -> (∃ (I83 : Int -> Prop) (μ84 : Int -> Nat), I83 0 /\ ∀ (z82 : Int), (I83 z82 -> ((I64 v) /\ (((z82 < v) -> ((0 <= z82 /\ z82 < (v.toNat : Nat)) /\ ((I64 u) /\ ((I64 (z82 * u)) /\ ((I64 v) /\ ((v ≠ 0) /\ ((0 <= ((z82 * u).tmod v) /\ ((z82 * u).tmod v) < (v.toNat : Nat)) /\ ((((gi x39 z82) ≠ (gi x39 ((z82 * u).tmod v))) -> Q false) /\ (¬ ((gi x39 z82) ≠ (gi x39 ((z82 * u).tmod v))) -> ((I64 (z82 + 1)) /\ (I83 (z82 + 1) /\ μ84 (z82 + 1) < μ84 z82))))))))))) /\ (¬ (z82 < v) -> ((I64 v) /\ (Q (decide (z40 = v)))))))))))))))))))))))
theorem Q7 {w : World} {Q : Bool -> Prop} {u : Int} {v : Int}  (hv : J4 u v Q) :
    Calls Try.prog 4 #[.int .u8 u, .int .u8 v] w <| Rt w fun v Qr => ∃ (r0 : Bool), v = .bool r0 /\ Qr = [] /\ Q r0 := by
  refine Jk <| Jl (vs := [.int .u8 u, .int .u8 v]) [4] XF4 rfl rfl rfl rfl ?_
  have hS := Js w
  unfold J4 at hv
  refine Jb 7 ?_
  obtain ⟨o11, hv⟩ := hv
  refine JC (r := u) XU5 XU3 rfl (wr o11) rfl <| Jg rfl rfl ?_
  obtain ⟨o12, hv⟩ := hv
  refine JC (r := v) XU5 XU3 rfl (wr o12) rfl <| SL.call hS (Qu  hv) XF6 rfl XN6 rfl rfl ?_
  rintro _ _ w13 ⟨x14, r15, A16, k17, hs18, rfl, rfl, hv⟩ hGw13 hS
  have hS := hS.n1
  refine Ja 6 <| Jb 4 <| QM (k := .u8) rfl rfl rfl <| Jg rfl rfl ?_
  by_cases g20 : u < 2
  .have hv := hv.1 g20
   rw [decide_eq_true g20]
   refine Ja 4 <| JD rfl <| Jb 6 <| W.ret <| ⟨_, rfl, Fin.nil ?_⟩
   exact (hS.pick [] rfl).fin rfl ⟨(decide (r15 = 6)), rfl, rfl, hv⟩
  have hv := hv.2 g20
  rw [decide_eq_false g20]
  refine Ja 3 <| QM (k := .u8) rfl rfl rfl <| Ja 2 <| Jd rfl (fun c21 => ?_) (fun c21 => ?_)
  .have hv := hv.1 (oT c21)
   refine Jb 6 <| W.ret <| ⟨_, rfl, Fin.nil ?_⟩
   exact (hS.pick [] rfl).fin rfl ⟨(decide (r15 = 6)), rfl, rfl, hv⟩
  have hv := hv.2 (oF c21)
  refine Jf <| Jb 6 <| Jd rfl (fun c22 => ?_) (fun c22 => ?_)
  .have hv := hv.1 (oT c22)
   refine Jb 4 <| Jg rfl rfl ?_
   by_cases g23 : r15 = 10
   .have hv := hv.1 g23
    rw [decide_eq_true g23]
    refine Ja 3 ?_
    obtain ⟨o24, hv⟩ := hv
    refine JC (r := u) XU5 XU3 rfl (wr o24) rfl <| Ja 3 ?_
    obtain ⟨o25, hv⟩ := hv
    refine JC (r := v) XU5 XU3 rfl (wr o25) rfl <| WL.take rfl <| SL.call hS (QV  hv) XF9 rfl XN9 rfl rfl ?_
    rintro _ _ w26 ⟨r27, rfl, rfl, hv⟩ hGw26 hS
    have hS := hS.n0
    refine Ja 5 <| W.ret <| ⟨_, rfl, Fin.nil ?_⟩
    exact (hS.pick [] rfl).fin rfl ⟨(decide (r27 ≠ 1)), rfl, rfl, hv⟩
   have hv := hv.2 g23
   rw [decide_eq_false g23]
   refine Ja 9 <| W.ret <| ⟨_, rfl, Fin.nil ?_⟩
   exact (hS.pick [] rfl).fin rfl ⟨false, rfl, rfl, hv⟩
  have hv := hv.2 (oF c22)
  refine Jf <| Jb 3 ?_
  obtain ⟨o28, hv⟩ := hv
  refine JC (r := v) XU5 XU3 rfl (wr o28) rfl ?_
  obtain ⟨o29, hv⟩ := hv
  refine YB (J := v) hS JB XE3 rfl rfl o29 (Jcv _) rfl ?_
  intro A30 w31 hS
  refine Ja 2 <| Jb 9 <| W.block ?_
  obtain ⟨I42, μ43, hv, hk114⟩ := hv
  refine JJ (σ := List Int × Int × Int) (fun q w1 => match q with | (x39, z40, z41) => I42 x39 z40 z41 /\ St TT w none w1 [.row 3 1 A30 v.toNat v.toNat (is x39), mx 31 3 A16 x14.length k17 hs18 x14]) (fun (x39, z40, z41) => [(0, .int .u8 u), (1, .int .u8 v), (4, .bool false), (5, nS A16 x14 k17), (7, .slice A30 v.toNat v.toNat), (8, nI z40), (9, nI z41)]) (fun (x39, z40, z41) => μ43 x39 z40 z41) (List.replicate v.toNat (0 : Int), (0 : Int), (0 : Int)) ⟨hv, hS⟩ ⟨rfl, rfl, rfl, rfl, rfl, rfl, rfl, trivial⟩ ?_
  rintro ⟨x39, z40, z41⟩ w44 ⟨hv, hS⟩
  have hv := hk114 x39 z40 z41 hv
  refine Jb 5 <| WL.len J9 rfl rfl <| Ja 2 <| Jd rfl (fun c45 => ?_) (fun c45 => ?_)
  .have hv := hv.1 (oT c45)
   refine Jf <| JO <| W.block <| Jb 4 <| W.block ?_
   obtain ⟨I55, μ56, hv, hk79⟩ := hv
   refine JJ (σ := List Int × Int × Int) (fun q w1 => match q with | (x52, z53, z54) => I55 x52 z53 z54 /\ St TT w none w1 [.row 3 1 A30 v.toNat v.toNat (is x52), mx 31 3 A16 x14.length k17 hs18 x14]) (fun (x52, z53, z54) => [(0, .int .u8 u), (1, .int .u8 v), (4, .bool false), (5, nS A16 x14 k17), (7, .slice A30 v.toNat v.toNat), (8, nI z53), (9, nI z41), (10, nI z54), (46, .bool (decide (z41 < (x14.length : Int))))]) (fun (x52, z53, z54) => μ56 x52 z53 z54) (x39, z40, (0 : Int)) ⟨hv, hS⟩ ⟨rfl, rfl, rfl, rfl, rfl, rfl, rfl, rfl, rfl, trivial⟩ ?_
   rintro ⟨x52, z53, z54⟩ w57 ⟨hv, hS⟩
   have hv := hk79 x52 z53 z54 hv
   refine Jb 6 ?_
   obtain ⟨o58, hv⟩ := hv
   refine JP 1 J9 Q3 hS rfl rfl rfl o58 rfl <| Jo JB rfl rfl (hS.mxcell (i := 1) rfl o58) rfl <| WL.len JB rfl rfl <| Ja 2 <| Jd rfl (fun c59 => ?_) (fun c59 => ?_)
   .have hv := hv.1 (oT c59)
    refine Jf <| JO <| W.block <| Jb 5 ?_
    obtain ⟨o60, hv⟩ := hv
    refine JP 1 J9 Q3 hS rfl rfl rfl o60 rfl <| Jo JB rfl rfl (hS.mxcell (i := 1) rfl o60) rfl <| Jg rfl rfl ?_
    obtain ⟨o61, hv⟩ := hv
    refine Jj JB XE3 (hS.mxrd (i := 1) rfl o60) rfl rfl o61 rfl <| Jo XU3 rfl rfl (Qi (hS.mxrd (i := 1) rfl o60) o61) rfl <| QM rfl rfl rfl <| Jg rfl rfl ?_
    by_cases g62 : (gi (gl x14 z41) z54) < (0 : Int)
    .have hv := hv.1 g62
     rw [decide_eq_true g62]
     refine Ja 25 <| JD rfl <| Jb 4 <| W.ret <| ⟨_, rfl, Fin.nil ?_⟩
     exact (hS.pick [] rfl).fin rfl ⟨false, rfl, rfl, hv⟩
    have hv := hv.2 g62
    rw [decide_eq_false g62]
    refine Ja 5 ?_
    obtain ⟨o63, hv⟩ := hv
    refine JP 1 J9 Q3 hS rfl rfl rfl o63 rfl <| WL.take rfl <| Jo JB rfl rfl (hS.mxcell (i := 1) rfl o63) rfl <| Ja 3 ?_
    obtain ⟨o64, hv⟩ := hv
    refine Jj JB XE3 (hS.mxrd (i := 1) rfl o63) rfl rfl o64 rfl <| WL.take rfl <| Jo XU3 rfl rfl (Qi (hS.mxrd (i := 1) rfl o63) o64) rfl <| Ja 3 ?_
    obtain ⟨o65, hv⟩ := hv
    refine JC (r := v) XU5 XU3 rfl (wr o65) rfl <| Ja 3 <| Jg rfl rfl ?_
    by_cases g66 : v <= (gi (gl x14 z41) z54)
    .have hv := hv.1 g66
     rw [decide_eq_true g66]
     refine Ja 13 <| JD rfl <| Jb 4 <| W.ret <| ⟨_, rfl, Fin.nil ?_⟩
     exact (hS.pick [] rfl).fin rfl ⟨false, rfl, rfl, hv⟩
    have hv := hv.2 g66
    rw [decide_eq_false g66]
    refine Ja 7 ?_
    obtain ⟨o67, hv⟩ := hv
    refine JP 1 J9 Q3 hS rfl rfl rfl o67 rfl <| WL.take rfl <| Jo JB rfl rfl (hS.mxcell (i := 1) rfl o67) rfl <| Ja 3 ?_
    obtain ⟨o68, hv⟩ := hv
    refine Jj JB XE3 (hS.mxrd (i := 1) rfl o67) rfl rfl o68 rfl <| WL.take rfl <| Jo XU3 rfl rfl (Qi (hS.mxrd (i := 1) rfl o67) o68) rfl <| WL.take rfl ?_
    obtain ⟨o69, hv⟩ := hv
    refine Jj JB XE3 (hS.rd (i := 0) rfl) rfl rfl o69 rfl <| WL.take rfl <| Jo XU3 rfl rfl (Qi (hS.rd (i := 0) rfl) o69) rfl <| Ja 4 <| Jd rfl (fun c70 => ?_) (fun c70 => ?_)
    .have hv := hv.1 (oT c70)
     refine Jb 4 <| W.ret <| ⟨_, rfl, Fin.nil ?_⟩
     exact (hS.pick [] rfl).fin rfl ⟨false, rfl, rfl, hv⟩
    have hv := hv.2 (oF c70)
    refine Jf <| Jb 5 ?_
    obtain ⟨o71, hv⟩ := hv
    refine JP 1 J9 Q3 hS rfl rfl rfl o71 rfl <| Jo JB rfl rfl (hS.mxcell (i := 1) rfl o71) rfl <| Jg rfl rfl ?_
    obtain ⟨o72, hv⟩ := hv
    refine Jj JB XE3 (hS.mxrd (i := 1) rfl o71) rfl rfl o72 rfl <| Jo XU3 rfl rfl (Qi (hS.mxrd (i := 1) rfl o71) o72) rfl <| Jg rfl rfl ?_
    obtain ⟨o73, hv⟩ := hv
    refine WL.add (r := (z41 + 1)) rfl rfl (wr o73) rfl ?_
    obtain ⟨o74, hv⟩ := hv
    refine Jj JB XE3 (hS.rd (i := 0) rfl) rfl rfl o74 rfl <| Q6 (cs' := is (si x52 (gi (gl x14 z41) z54) (z41 + 1))) 0 (gi (gl x14 z41) z54).toNat hS rfl XE3 rfl rfl rfl (is_lt (hS.rd (i := 0) rfl) o74) (is_set _ _ _) ?_
    intro w75 hS
    refine Je <| Jb 2 ?_
    obtain ⟨o76, hv⟩ := hv
    refine WL.add (r := (z53 + 1)) rfl rfl (wr o76) rfl <| Ja 2 <| Jb 2 ?_
    obtain ⟨o77, hv⟩ := hv
    refine WL.add (r := (z54 + 1)) rfl rfl (wr o77) rfl <| Ja 2 ?_
    exact ⟨(si x52 (gi (gl x14 z41) z54) (z41 + 1), (z53 + 1), (z54 + 1)), sp rfl, hv.2, rfl, hv.1, hS⟩
   have hv := hv.2 (oF c59)
   refine JK <| Jb 2 ?_
   obtain ⟨o78, hv⟩ := hv
   refine WL.add (r := (z41 + 1)) rfl rfl (wr o78) rfl <| Ja 2 ?_
   exact ⟨(x52, z53, (z41 + 1)), sp rfl, hv.2, rfl, hv.1, hS⟩
  have hv := hv.2 (oF c45)
  refine JK <| Jb 5 <| W.block ?_
  obtain ⟨I83, μ84, hv, hk113⟩ := hv
  refine JJ (σ := Int) (fun z82 w1 => I83 z82 /\ St TT w none w1 [.row 3 1 A30 v.toNat v.toNat (is x39), mx 31 3 A16 x14.length k17 hs18 x14]) (fun z82 => [(0, .int .u8 u), (1, .int .u8 v), (4, .bool false), (7, .slice A30 v.toNat v.toNat), (8, nI z40), (11, nI z82)]) (fun z82 => μ84 z82) (0 : Int) ⟨hv, hS⟩ ⟨rfl, rfl, rfl, rfl, rfl, rfl, trivial⟩ ?_
  rintro z82 w85 ⟨hv, hS⟩
  have hv := hk113 z82 hv
  refine Jb 5 ?_
  obtain ⟨o86, hv⟩ := hv
  refine JC (r := v) XU5 XU3 rfl (wr o86) rfl <| Ja 2 <| Jd rfl (fun c87 => ?_) (fun c87 => ?_)
  .have hv := hv.1 (oT c87)
   refine Jf <| JO <| W.block <| JO ?_
   obtain ⟨o91, hv⟩ := hv
   obtain ⟨o97, hv⟩ := hv
   obtain ⟨o99, hv⟩ := hv
   obtain ⟨o102, hv⟩ := hv
   obtain ⟨o104, hv⟩ := hv
   obtain ⟨o106, hv⟩ := hv
   refine QN 15 [⟨[], [7], true⟩, ⟨[], [11], true⟩, ⟨[0, 1], [], true⟩, ⟨[2], [], false⟩, ⟨[], [7], true⟩, ⟨[], [11], true⟩, ⟨[], [0], true⟩, ⟨[6], [], true⟩, ⟨[5, 7], [], true⟩, ⟨[], [1], true⟩, ⟨[9], [], true⟩, ⟨[8, 10], [], true⟩, ⟨[4, 11], [], true⟩, ⟨[12], [], false⟩, ⟨[3, 13], [], true⟩] [(110, .slice A30 v.toNat v.toNat), (111, nI z82), (112, .pointer (some ((JI A30).add z82.toNat))), (113, nI (gi x39 z82)), (114, .slice A30 v.toNat v.toNat), (115, nI z82), (116, .int .u8 u), (117, nI u), (118, nI (z82 * u)), (119, .int .u8 v), (120, nI v), (121, nI ((z82 * u).tmod v)), (122, .pointer (some ((JI A30).add (((z82 * u).tmod v).toNat)))), (123, nI (gi x39 ((z82 * u).tmod v))), (124, .bool (decide ((gi x39 z82) ≠ (gi x39 ((z82 * u).tmod v)))))] Try.mixed (by kernel_rfl) rfl rfl ?_ ?_
   . refine ⟨oD, oD, fun _ _ _ => Jj JB XE3 (hS.rd (i := 0) rfl) rfl rfl o91 rfl <| Je ⟨rfl, rfl⟩, og hS fun _ _ hS => Jo XU3 rfl rfl (Qi (hS.rd (i := 0) rfl) o91) rfl <| Je ⟨rfl, JH _⟩, oD, oD, oD, fun _ _ _ => JC (r := u) XU5 XU3 rfl (wr o97) rfl <| Je ⟨rfl, rfl⟩, fun _ _ _ => WL.mul (r := (z82 * u)) rfl rfl (wr o99) rfl <| Je ⟨rfl, rfl⟩, oD, fun _ _ _ => JC (r := v) XU5 XU3 rfl (wr o102) rfl <| Je ⟨rfl, rfl⟩, fun _ _ _ => Q4 (r := ((z82 * u).tmod v)) rfl rfl o104 rfl rfl <| Je ⟨rfl, rfl⟩, fun _ _ _ => Jj JB XE3 (hS.rd (i := 0) rfl) rfl rfl o106 rfl <| Je ⟨rfl, rfl⟩, og hS fun _ _ hS => Jo XU3 rfl rfl (Qi (hS.rd (i := 0) rfl) o106) rfl <| Je ⟨rfl, JH _⟩, oD, trivial⟩
   intro w109 hT
   have hS := hS.grow hT
   refine WA.e <| Jd rfl (fun c110 => ?_) (fun c110 => ?_)
   .have hv := hv.1 (oT c110)
    refine Jb 4 <| W.ret <| ⟨_, rfl, Fin.nil ?_⟩
    exact (hS.pick [] rfl).fin rfl ⟨false, rfl, rfl, hv⟩
   have hv := hv.2 (oF c110)
   refine Jf <| Jb 2 ?_
   obtain ⟨o111, hv⟩ := hv
   refine WL.add (r := (z82 + 1)) rfl rfl (wr o111) rfl <| Ja 2 ?_
   exact ⟨(z82 + 1), sp rfl, hv.2, rfl, hv.1, hS⟩
  have hv := hv.2 (oF c87)
  refine JK <| Jb 4 ?_
  obtain ⟨o112, hv⟩ := hv
  refine JC (r := v) XU5 XU3 rfl (wr o112) rfl <| Ja 3 <| W.ret <| ⟨_, rfl, Fin.nil ?_⟩
  exact (hS.pick [] rfl).fin rfl ⟨(decide (z40 = v)), rfl, rfl, hv⟩
end Go.Proofs.Ytfeeapdpahcanaa
namespace Go.Proofs.Ytfeeapdpahcanaa
theorem isB.uniq {n : Int} {P : Int -> Prop} {b b' : Int} (h : isB n P b) (h' : isB n P b') : b = b' := by
  have g : ∀ t : Int, Int.gcd (1 * t) n = Int.gcd t n := fun t => by rw [Int.one_mul]
  have h1 : Int.gcd 1 n = 1 := by rw [Int.one_gcd]
  have := h.le h' h1 (fun a p => by rw [Int.one_mul]; exact p) (fun t e => by rw [g]; exact e)
  have := h'.le h h1 (fun a p => by rw [Int.one_mul]; exact p) (fun t e => by rw [g]; exact e)
  omega
theorem isT.uniq {n : Int} {P : Int -> Prop} {b b' : Int} (h : isT n P b) (h' : isT n P b') : b = b' := by
  have g : ∀ t : Int, Int.gcd (1 * t) n = Int.gcd t n := fun t => by rw [Int.one_mul]
  have := h.le h' (k := 1) (fun a p => by rw [Int.one_mul]; exact p) g
  have := h'.le h (k := 1) (fun a p => by rw [Int.one_mul]; exact p) g
  omega
end Go.Proofs.Ytfeeapdpahcanaa
set_option linter.unusedVariables false
set_option linter.unusedSimpArgs false
namespace Go.Proofs.Ytfeeapdpahcanaa
theorem gi_si {x : List Int} {r i : Int} (hr : 0 <= r) (hr2 : r < (x.length : Nat)) (hi : 0 <= i) (b : Int) : gi (si x r b) i = if i = r then b else gi x i := by
  unfold gi si
  rw [List.getD_eq_getElem?_getD, List.getD_eq_getElem?_getD, List.getElem?_set]
  by_cases e : i = r
  . subst e; rw [if_pos rfl, if_pos (by omega), if_pos rfl]; rfl
  . rw [if_neg (by omega), if_neg e]
theorem si_len (x : List Int) (r b : Int) : (si x r b).length = x.length := List.length_set
theorem Qv {l : List Int} {x : Int} : x ∈ l ↔ ∃ j : Int, 0 <= j /\ j < (l.length : Nat) /\ gi l j = x := by
  constructor
  . intro h
    obtain ⟨j, hj, e⟩ := List.mem_iff_getElem.1 h
    refine ⟨j, by omega, by omega, ?_⟩
    unfold gi
    rw [Int.toNat_natCast, List.getD_eq_getElem?_getD, List.getElem?_eq_getElem hj]; exact e
  . rintro ⟨j, h0, h1, rfl⟩
    unfold gi
    rw [List.getD_eq_getElem?_getD, List.getElem?_eq_getElem (by omega : j.toNat < l.length)]
    exact List.getElem_mem _
end Go.Proofs.Ytfeeapdpahcanaa
set_option linter.unusedVariables false
set_option linter.unusedSimpArgs false
namespace Go.Proofs.Ytfeeapdpahcanaa
section
variable {α : Type} [Cr α]
namespace Cr
end Cr
namespace Pl
end Pl
theorem Dg.uniq {f : Pl α} {d e : Nat} (h : Dg f d) (h' : Dg f e) : d = e := by
  have h1 := h.lt h'.2; have h2 := h'.lt h.2; omega
/-- a a monomial -/
def mo (a : α) (n : Nat) : Pl α := fun i => if i = n then a else 0
/-- a constant -/
def ct (a : α) : Pl α := mo a 0
end
end Go.Proofs.Ytfeeapdpahcanaa
set_option linter.unusedVariables false
set_option linter.unusedSimpArgs false
set_option linter.unusedSectionVars false
namespace Go.Proofs.Ytfeeapdpahcanaa
section
variable {α : Type} [Cr α]
end
section
variable {α : Type} [Cr α] [Fd α]
theorem Dv.dg {f g : Pl α} {a b : Nat} (h : Dv f g) (hf : Dg f a) (hg : Dg g b) : a <= b := by
  obtain ⟨k, ⟨n, hn⟩, rfl⟩ := h
  rcases YR hn with h1 | ⟨c, _, h1⟩
  . rw [h1, Cr.mul_zero] at hg; exact absurd rfl hg.ne
  . have := (hf.mul h1).uniq hg; omega
theorem Mn.uniq {f g : Pl α} (hf : Mn f) (hg : Mn g) (h1 : Dv f g) (h2 : Dv g f) : f = g := by
  obtain ⟨a, ha, ea⟩ := hf; obtain ⟨b, hb, eb⟩ := hg
  have e1 := h1.dg ha hb; have e2 := h2.dg hb ha
  obtain rfl : a = b := by omega
  obtain ⟨k, ⟨n, hn⟩, rfl⟩ := h1
  rcases YR hn with h | ⟨c, _, h⟩
  . rw [h, Cr.mul_zero] at hb; exact absurd rfl hb.ne
  . have hc := (ha.mul h).uniq hb
    have hc0 : c = 0 := by omega
    subst hc0
    have hk : k = ct (k 0) := Pl.ext fun i => by
      show _ = if i = 0 then k 0 else 0
      split
      . rename_i hi; rw [hi]
      . rename_i hi; exact h.2 i (by omega)
    have := Zt ha.2 h.2
    rw [Nat.add_zero, eb, ea, Cr.one_mul] at this
    rw [hk, <- this]
    exact (Cr.mul_one f).symm
theorem Gd.uniq {p q d e : Pl α} (h1 : Gd p q d) (h2 : Gd p q e) (hd : Mn d) (he : Mn e) : d = e :=
  hd.uniq he (h2.2.2 d h1.1 h1.2.1) (h1.2.2 e h2.1 h2.2.1)
end
end Go.Proofs.Ytfeeapdpahcanaa
set_option linter.unusedVariables false
set_option linter.unusedSimpArgs false
namespace Go.Proofs.Ytfeeapdpahcanaa
/-! ### ascending lists -/
section
open Classical
end
section
variable {q n : Nat}
theorem Ldr.uniq (hc : Nat.gcd q n = 1) (hn : 0 < n) {i j : Nat} (hi : i < n) (hj : j < n) (h : Ldr q n i) (h' : Ldr q n j) (hr : Cst q n i j) : i = j := by
  rcases Nat.lt_trichotomy i j with c | c | c
  . exact absurd hr (h' i c)
  . exact c
  . exact absurd (hr.symm hc hn hi) (h j c)
theorem CL_of {m i : Nat} (hi : i < m) (hM : Ldr q n i) : ∃ k, k < (CL q n m).length /\ gl (CL q n m) k = orb q n i := by
  have hm : ((i : Nat) : Int) ∈ AL (Ldr q n) m := YE.2 ⟨i, hi, hM, rfl⟩
  obtain ⟨k, hk, e⟩ := List.mem_iff_getElem.1 hm
  refine ⟨k, by unfold CL; rwa [List.length_map], ?_⟩
  unfold gl CL
  rw [Int.toNat_natCast, List.getD_eq_getElem?_getD, List.getElem?_map, List.getElem?_eq_getElem hk]
  show orb q n ((AL (Ldr q n) m)[k]).toNat = _
  rw [e]; rfl
end
end Go.Proofs.Ytfeeapdpahcanaa
set_option linter.unusedVariables false
set_option linter.unusedSimpArgs false
namespace Go.Proofs.Ytfeeapdpahcanaa
theorem IsLf.uniq {n d e : Nat} (h : IsLf n d) (h' : IsLf n e) : d = e := Nat.le_antisymm (h.min e h'.two h'.dvd) (h'.min d h.two h.dvd)
end Go.Proofs.Ytfeeapdpahcanaa
set_option linter.unusedVariables false
set_option linter.unusedSimpArgs false
namespace Go.Proofs.Ytfeeapdpahcanaa
section
variable {q N : Nat}
end
theorem ZX {q n m k k' : Nat} (hc : Nat.gcd q n = 1) (hn : 0 < n) (hm : m <= n) (hkk : k < k') (hk' : k' < (CL q n m).length) {x : Int} (h : x ∈ gl (CL q n m) k) (h' : x ∈ gl (CL q n m) k') : False := by
  obtain ⟨i, hi, hM, e1, g1⟩ := ZY (q := q) (n := n) (m := m) (k := k) (by omega)
  obtain ⟨i', hi', hM', e1', g1'⟩ := ZY (q := q) (n := n) (m := m) (k := k') hk'
  rw [g1] at h; rw [g1'] at h'
  obtain ⟨j, hj, hr, e⟩ := JQ.1 h
  obtain ⟨j', hj', hr', e'⟩ := JQ.1 h'
  have : j = j' := by omega
  subst this
  have : i = i' := Ldr.uniq hc hn (by omega) (by omega) hM hM' (hr.trans (hr'.symm hc hn (by omega)))
  subst this
  have hl : (CL q n m).length = (AL (Ldr q n) m).length := by unfold CL; rw [List.length_map]
  have hp := List.pairwise_iff_getElem.1 (YG (Ldr q n) m) k k' (by omega) (by omega) hkk
  unfold gi at e1 e1'
  rw [Int.toNat_natCast, List.getD_eq_getElem?_getD, List.getElem?_eq_getElem (by omega)] at e1 e1'
  have h1 : (AL (Ldr q n) m)[k] = i := e1
  have h2 : (AL (Ldr q n) m)[k'] = i := e1'
  omega
theorem Jc4 {l : List Int} (h : l.Pairwise fun x y => x < y) {i j : Nat} (hij : i < j) (hj : j < l.length) : gi l i ≠ gi l j := by
  have hp := List.pairwise_iff_getElem.1 h i j (by omega) hj hij
  unfold gi
  rw [Int.toNat_natCast, Int.toNat_natCast, List.getD_eq_getElem?_getD, List.getElem?_eq_getElem (by omega), List.getD_eq_getElem?_getD, List.getElem?_eq_getElem hj]
  show l[i] ≠ l[j]
  omega
theorem cnt_si {x : List Int} {r : Nat} {b : Int} (hr : r < x.length) (h : gi x (r : Int) = 0) (hb : b ≠ 0) : (si x (r : Int) b).count 0 + 1 = x.count 0 := by
  unfold gi at h
  rw [Int.toNat_natCast, List.getD_eq_getElem?_getD, List.getElem?_eq_getElem hr] at h
  have h' : x[r] = 0 := h
  unfold si
  rw [Int.toNat_natCast, List.count_set hr, h']
  have : 0 < x.count 0 := List.count_pos_iff.2 (by rw [<- h']; exact List.getElem_mem hr)
  have e : (b == 0) = false := by simp [hb]
  rw [e]
  simp
  omega
theorem gi_rep (n : Nat) (i : Int) : gi (List.replicate n (0 : Int)) i = 0 := by
  unfold gi
  rw [List.getD_eq_getElem?_getD, List.getElem?_replicate]
  split <;> rfl
theorem gi_sin {x : List Int} {r i : Nat} (hr : r < x.length) (b : Int) : gi (si x (r : Int) b) (i : Int) = if i = r then b else gi x (i : Int) := by
  rw [gi_si (by omega) (by omega) (by omega)]
  by_cases e : i = r
  . rw [if_pos e, if_pos (by omega)]
  . rw [if_neg e, if_neg (by omega)]
end Go.Proofs.Ytfeeapdpahcanaa
set_option linter.unusedVariables false
set_option linter.unusedSimpArgs false
namespace Go.Proofs.Ytfeeapdpahcanaa
/-! ### the cosets are a partition -/
theorem Qe (u v : Int) (hu0 : 0 <= u) (hu : u <= 255) (hv0 : 0 <= v) (hv : v <= 255) : J4 u v (fun b => b = true) := by
  have one : ∀ {A B : Prop} {a : Int}, A -> ((a = a -> A) /\ (¬ (a = a) -> B)) := fun h => ⟨fun _ => h, fun c => absurd rfl c⟩
  have nz : ∀ {A B : Prop} {a : Int}, a ≠ 0 -> A -> ((a ≠ 0 -> A) /\ (¬ (a ≠ 0) -> B)) := fun h a => ⟨fun _ => a, fun c => absurd h c⟩
  have iu : I64 u := JT (by omega) (by omega)
  have iv : I64 v := JT (by omega) (by omega)
  refine ⟨iu, iv, Qo (fun hno => ?_) (fun h1 h2 h3 h4 hno => ?_) (fun _ _ _ _ _ => by omega) fun q N e1 e2 q2 q256 n1 n300 hc => ?_⟩
  . exact ⟨fun _ => decide_eq_true rfl, fun c1 => ⟨fun _ => decide_eq_true rfl, fun c2 => absurd ⟨by omega, by omega, by omega, by omega⟩ hno⟩⟩
  . refine ⟨fun _ => by omega, fun c1 => ⟨fun _ => by omega, fun c2 => nz (by decide) (one ⟨iu, iv, ?_⟩)⟩⟩
    obtain ⟨q, rfl⟩ := Int.eq_ofNat_of_zero_le hu0
    obtain ⟨N, rfl⟩ := Int.eq_ofNat_of_zero_le hv0
    refine Q9 (decide_eq_true ?_)
    rw [Int.gcd_natCast_natCast] at hno; omega
  subst e1; subst e2
  have hN : 0 < N := by omega
  have hCL := YD (q := q) (n := N) N
  have hrow := Jb9 q N N
  refine ⟨fun c => by omega, fun _ => ⟨fun c => by omega, fun _ => ⟨fun c => absurd rfl c, fun _ => ⟨iv, ⟨by omega, by omega, by omega⟩, ?_⟩⟩⟩⟩
  rw [Int.toNat_natCast]
  have hat : ∀ k : Nat, k < (CL q N N).length -> ∃ i : Nat, i < N /\ gl (CL q N N) k = orb q N i := fun k hk => by
    obtain ⟨i, hi, _, _, e⟩ := ZY (q := q) (n := N) hk; exact ⟨i, hi, e⟩
  have hlow : ∀ k : Nat, k < (CL q N N).length -> ∀ i : Nat, i < (gl (CL q N N) k).length -> ∃ j : Nat, j < N /\ gi (gl (CL q N N) k) i = j := fun k hk i hi => by
    obtain ⟨i0, _, e⟩ := hat k hk
    have : gi (gl (CL q N N) k) i ∈ gl (CL q N N) k := Qv.2 ⟨i, by omega, by omega, rfl⟩
    rw [e] at this
    obtain ⟨j, hj, _, ej⟩ := JQ.1 this
    exact ⟨j, hj, by rw [e]; exact ej⟩
  refine ⟨fun x t z => ∃ k : Nat, z = k /\ k <= (CL q N N).length /\ x.length = N /\ t + (x.count 0 : Nat) = N /\ 0 <= t /\ ∀ j : Nat, j < N -> (∀ k' : Nat, k' < k -> (j : Int) ∈ gl (CL q N N) k' -> gi x j = k' + 1) /\ ((∀ k' : Nat, k' < k -> (j : Int) ∉ gl (CL q N N) k') -> gi x j = 0), fun _ _ z => (((CL q N N).length : Nat) - z : Int).toNat, ⟨0, rfl, Nat.zero_le _, by simp, by simp, by omega, fun j hj => ⟨fun k' hk' => by omega, fun _ => gi_rep _ _⟩⟩, ?_⟩
  rintro x t _ ⟨k, rfl, hk, hx, ht, ht0, hm⟩
  refine ⟨fun hlt => ?_, fun hge => ?_⟩
  . have hk' : k < (CL q N N).length := by omega
    obtain ⟨i0, hi0, ek⟩ := hat k hk'
    have hasc : (gl (CL q N N) k).Pairwise fun x y => x < y := by rw [ek]; exact YG _ _
    have hgl := hrow k
    refine ⟨fun x' t' z => ∃ i : Nat, z = i /\ i <= (gl (CL q N N) k).length /\ x'.length = N /\ t' + (x'.count 0 : Nat) = N /\ 0 <= t' /\ ∀ j : Nat, j < N -> (∀ k' : Nat, k' < k -> (j : Int) ∈ gl (CL q N N) k' -> gi x' j = k' + 1) /\ ((∃ i' : Nat, i' < i /\ gi (gl (CL q N N) k) i' = j) -> gi x' j = k + 1) /\ ((∀ k' : Nat, k' < k -> (j : Int) ∉ gl (CL q N N) k') -> (∀ i' : Nat, i' < i -> gi (gl (CL q N N) k) i' ≠ j) -> gi x' j = 0), fun _ _ z => (((gl (CL q N N) k).length : Nat) - z : Int).toNat, ⟨0, rfl, Nat.zero_le _, hx, ht, ht0, fun j hj => ⟨(hm j hj).1, fun ⟨i', h, _⟩ => by omega, fun h _ => (hm j hj).2 h⟩⟩, ?_⟩
    rintro x' t' _ ⟨i, rfl, hi, hx', ht', ht0', hm'⟩
    refine ⟨⟨by omega, hlt⟩, fun hlt2 => ?_, fun hge2 => ⟨JT (by omega) (by omega), ⟨k + 1, by push_cast; rfl, by omega, hx', ht', ht0', fun j hj => ⟨fun k' hk2 hj2 => ?_, fun hno => ?_⟩⟩, by show (((CL q N N).length : Nat) - ((k : Int) + 1) : Int).toNat < (((CL q N N).length : Nat) - (k : Int) : Int).toNat; omega⟩⟩
    . have hi' : i < (gl (CL q N N) k).length := by omega
      obtain ⟨j0, hj0, ej0⟩ := hlow k hk' i hi'
      rw [ej0]
      have hz : gi x' (j0 : Int) = 0 := (hm' j0 hj0).2.2 (fun k' hk2 hin => ZX hc hN (Nat.le_refl _) hk2 hk' hin (Qv.2 ⟨i, by omega, hlt2, ej0⟩)) fun i' hi2 e => Jc4 hasc hi2 hi' (by rw [e, ej0])
      have hcs := cnt_si (x := x') (r := j0) (b := (k : Int) + 1) (by omega) hz (by omega)
      refine ⟨⟨by omega, hlt⟩, ⟨by omega, hlt2⟩, fun c => by omega, fun _ => ⟨⟨by omega, hlt⟩, ⟨by omega, hlt2⟩, iv, fun c => by omega, fun _ => ⟨⟨by omega, hlt⟩, ⟨by omega, hlt2⟩, ⟨by omega, by omega⟩, fun c => absurd hz c, fun _ => ⟨⟨by omega, hlt⟩, ⟨by omega, hlt2⟩, JT (by omega) (by omega), ⟨by omega, by omega⟩, JT (by omega) (by omega), JT (by omega) (by omega), ⟨i + 1, by push_cast; rfl, by omega, by rw [si_len]; exact hx', by omega, by omega, fun j hj => ?_⟩, by show (((gl (CL q N N) k).length : Nat) - ((i : Int) + 1) : Int).toNat < (((gl (CL q N N) k).length : Nat) - (i : Int) : Int).toNat; omega⟩⟩⟩⟩
      rw [gi_sin (by omega)]
      by_cases e : j = j0
      . subst e
        rw [if_pos rfl]
        refine ⟨fun k' hk2 hin => ?_, fun _ => rfl, fun _ h2 => absurd ej0 (h2 i (by omega))⟩
        exact (ZX hc hN (Nat.le_refl _) hk2 hk' hin (Qv.2 ⟨i, by omega, hlt2, ej0⟩)).elim
      . rw [if_neg e]
        refine ⟨(hm' j hj).1, fun ⟨i', h1, h2⟩ => (hm' j hj).2.1 ⟨i', ?_, h2⟩, fun h1 h2 => (hm' j hj).2.2 h1 fun i' h3 => h2 i' (by omega)⟩
        by_cases c : i' = i
        . subst c; rw [ej0] at h2; omega
        . omega
    . by_cases c : k' = k
      . subst c
        obtain ⟨s, h0, h1, e⟩ := Qv.1 hj2
        obtain ⟨s, rfl⟩ := Int.eq_ofNat_of_zero_le h0
        exact (hm' j hj).2.1 ⟨s, by omega, e⟩
      . exact (hm' j hj).1 k' (by omega) hj2
    . refine (hm' j hj).2.2 (fun k' hk2 => hno k' (by omega)) fun i' hi2 e => hno k (by omega) (Qv.2 ⟨i', by omega, by omega, e⟩)
  . have hkk : k = (CL q N N).length := by omega
    subst hkk
    have hhome : ∀ j : Nat, j < N -> ∃ k' : Nat, ∃ i : Nat, k' < (CL q N N).length /\ i < N /\ gl (CL q N N) k' = orb q N i /\ Cst q N i j /\ gi x j = k' + 1 := fun j hj => by
      obtain ⟨i, hij, hM, hr⟩ := Ldr.ex hc hN hj
      obtain ⟨k', hk', e⟩ := CL_of (q := q) (n := N) (m := N) (show i < N by omega) hM
      exact ⟨k', i, hk', by omega, e, hr, (hm j hj).1 k' hk' (by rw [e]; exact JQ.2 ⟨j, hj, hr, rfl⟩)⟩
    have hcz : x.count 0 = 0 := by
      refine List.count_eq_zero.2 fun c => ?_
      obtain ⟨s, h0, h1, e⟩ := Qv.1 c
      obtain ⟨s, rfl⟩ := Int.eq_ofNat_of_zero_le h0
      obtain ⟨k', i, _, _, _, _, e2⟩ := hhome s (by omega)
      omega
    refine ⟨fun z => 0 <= z, fun z => ((N : Int) - z).toNat, by omega, fun z hz => ⟨iv, fun hzl => ?_, fun hzg => ⟨iv, decide_eq_true (by omega)⟩⟩⟩
    obtain ⟨j, rfl⟩ := Int.eq_ofNat_of_zero_le hz
    have hj : j < N := by omega
    have hlt2 : j * q % N < N := Nat.mod_lt _ hN
    rw [show ((j : Nat) : Int) = (j : Int) from rfl, Za]
    obtain ⟨k', i, hk', hi, e, hr, e2⟩ := hhome j hj
    have hr2 : Cst q N i (j * q % N) := hr.trans ⟨1, rfl⟩
    have e3 := (hm _ hlt2).1 k' hk' (by rw [e]; exact JQ.2 ⟨_, hlt2, hr2, rfl⟩)
    refine ⟨⟨by omega, by omega⟩, iu, Zb (by omega) q256, iv, by omega, ⟨by omega, by omega⟩, fun c => absurd (by rw [e2, e3]) c, fun _ => ⟨JT (by omega) (by omega), by show 0 <= (j : Int) + 1; omega, by show ((N : Int) - ((j : Int) + 1)).toNat < ((N : Int) - (j : Int)).toNat; omega⟩⟩
end Go.Proofs.Ytfeeapdpahcanaa
