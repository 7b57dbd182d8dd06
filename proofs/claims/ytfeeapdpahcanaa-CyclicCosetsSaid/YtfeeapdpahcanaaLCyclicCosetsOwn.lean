/- What only this law leans on. -/
import Derived.Test.YtfeeapdpahcanaaCyclicCosetsG3
namespace Go.Proofs.Ytfeeapdpahcanaa
open Go.RowKit
theorem Jdg {P : Program} {n : Nat} {ro : Option Nat} {df : List Deferred} {N : Ji} {B : Ju} {L : Fr} {w : World} {c : Operand} {x y : Code} (hc : ev L c = some (.bool false)) (h : W P n ro df y N B L w) : W P n ro df (.cond c x y) N B L w := Jb6 hc h
section
variable {P : Program} {n : Nat} {ro : Option Nat} {df : List Deferred} {N : Ji} {L : Fr} {w : World} {ops : Array Oper} {rest : List Oper}
variable {d : Nat} {ty : TypeId} {pos : String} {af : Array Edge}
end
section
variable {P : Program} {n : Nat} {ro : Option Nat} {df : List Deferred} {N : Ji} {L : Fr} {w : World} {ops : Array Oper} {rest : List Oper}
variable {d : Nat} {ty : TypeId} {pos : String} {af : Array Edge}
end
end Go.Proofs.Ytfeeapdpahcanaa
set_option linter.unusedSimpArgs false
set_option linter.unusedVariables false
namespace Go.Proofs.Ytfeeapdpahcanaa
open Go.ChangeShapes Go.WideShapes Go.ChangeAt Go.RowKit
/-! ### arguments that came in: ints, lists of ints, structs and arrays of them -/
theorem ZM {x : Int} (h : (Lit.int .i64 x).wf = true) : -9223372036854775808 <= x /\ x <= 9223372036854775807 := by
  simp [Lit.wf, IntKind.min, IntKind.max, IntKind.signed, IntKind.bits] at h
  exact ⟨by omega, by omega⟩
section
variable {H : Type} {enc : TypeId × Value -> H} {P : Program} {W : World} {base : Nat} {spare : Nat -> Bool} {held : Bool}
end
end Go.Proofs.Ytfeeapdpahcanaa
set_option linter.unusedSimpArgs false
set_option linter.unusedVariables false
namespace Go.Proofs.Ytfeeapdpahcanaa
open Go.RowKit
theorem Jbp {P : Program} {f : FuncId} {args : Array Value} {w : World} {K : Value -> List Rw -> Prop} (h : Calls P f args w fun e w' => ∃ v Q, e = .returned v /\ w.grownBy w' none /\ Rows w.heap.size none w' Q /\ News w.heap.size Q /\ K v Q) :
    Calls P f args w fun e w' => ∃ v, e = .returned v /\ ∃ Q, w.grownBy w' none /\ Rows w.heap.size none w' Q /\ News w.heap.size Q /\ K v Q := h.mono fun e w' ⟨v, Q, h1, h2⟩ => ⟨v, h1, Q, h2⟩
section
variable {X : World -> Prop} {w0 w w' wS : World} {mr : Option Nat} {R R0 : List Rw}
end
section
variable {P : Program} {n : Nat} {ro : Option Nat} {df : List Deferred} {N : Ji} {L : Fr} {w w0 : World} {ops : Array Oper} {rest : List Oper}
variable {d : Nat} {ty : TypeId} {pos : String} {af : Array Edge} {X : World -> Prop} {mr : Option Nat} {R : List Rw}
end
end Go.Proofs.Ytfeeapdpahcanaa
set_option linter.unusedSimpArgs false
set_option linter.unusedVariables false
namespace Go.Proofs.Ytfeeapdpahcanaa
open Go.RowKit
section
variable {w w' : World} {A : Option Addr} {n k : Nat} {hs : Hs} {ls : List (List Int)}
theorem Ym {P : Program} {nn : Nat} {ro : Option Nat} {df : List Deferred} {N : Ji} {L : Fr} {ops : Array Oper} {rest : List Oper} {d : Nat} {ty : TypeId} {pos : String} {af : Array Edge} {wR : World} {x i : Operand} {t e : TypeId} {by_ : Nat} {zero : Value} {kk : IntKind} {I : Int}
    (ht : P.underlying t = some (.slice e)) (he : Elem P e 1 by_ zero) (hR : RlH wR A n k hs ls) (hx : ev L x = some (.slice A n k)) (hi : ev L i = some (.int kk I)) (hI : 0 <= I /\ I < ((n : Nat) : Int)) (hn : Nat.blt d nn = true)
    (h : WL P nn ro df ops rest N ((d, .pointer (some ((JI A).add I.toNat))) :: L) w) : WL P nn ro df ops (⟨some d, .indexAddr t x i, ty, pos, af, none⟩ :: rest) N L w := by
  obtain ⟨B, h1⟩ := hR.out
  exact Jj ht he h1 hx hi hI hn h
end
section
variable {w w' : World} {A : Option Addr} {n k : Nat} {H : HM} {ms : List Mt}
end
section
variable {w w' : World} {A : Option Addr} {eS eI m c : Nat} {hs : Hs} {ls : List (List Int)} {b : Nat} {mr : Option Nat}
end
section
variable {X : World -> Prop} {w0 w w' wS : World} {mr : Option Nat} {R R0 : List Rw} {eS eI m c : Nat} {A : Option Addr} {hs : Hs} {ls : List (List Int)}
end
section
variable {P : Program} {n : Nat} {ro : Option Nat} {df : List Deferred} {N : Ji} {L : Fr} {w w0 : World} {ops : Array Oper} {rest : List Oper}
variable {d : Nat} {ty : TypeId} {pos : String} {af : Array Edge} {X : World -> Prop} {mr : Option Nat} {R : List Rw} {eS eI m c : Nat} {A : Option Addr} {hs : Hs} {ls : List (List Int)}
end
end Go.Proofs.Ytfeeapdpahcanaa
set_option linter.unusedVariables false
namespace Go.Proofs.Ytfeeapdpahcanaa
open Go.RowKit
theorem Try.nm5 : (Try.f5.name == "runtime.NumGoroutine") = false := by kernel_rfl
theorem Try.nm7 : (Try.f7.name == "runtime.NumGoroutine") = false := by kernel_rfl
theorem Try.nm8 : (Try.f8.name == "runtime.NumGoroutine") = false := by kernel_rfl
theorem Try.nm12 : (Try.f12.name == "runtime.NumGoroutine") = false := by kernel_rfl
theorem Try.nm13 : (Try.f13.name == "runtime.NumGoroutine") = false := by kernel_rfl
end Go.Proofs.Ytfeeapdpahcanaa
namespace Go.Proofs.Ytfeeapdpahcanaa
open Go.RowKit
abbrev XF12 := Try.func12
abbrev XF13 := Try.func13
abbrev XF3 := Try.func3
abbrev XF5 := Try.func5
abbrev XF7 := Try.func7
abbrev XF8 := Try.func8
abbrev XN12 := Try.nm12
abbrev XN13 := Try.nm13
abbrev XN5 := Try.nm5
abbrev XN7 := Try.nm7
abbrev XN8 := Try.nm8
end Go.Proofs.Ytfeeapdpahcanaa
set_option linter.unusedSimpArgs false
set_option linter.unusedVariables false
set_option maxRecDepth 4000
set_option maxHeartbeats 4000000
namespace Go.Proofs.Ytfeeapdpahcanaa
open Go.RowKit
def Jq (qq : Int) (n : Int) (Q : Int -> Prop) : Prop :=
  ((qq < 2) -> (Q 6)) /\ (¬ (qq < 2) -> ((((256 : Int) < qq) -> (Q 6)) /\ (¬ ((256 : Int) < qq) -> (((n < 1) -> (Q 6)) /\ (¬ (n < 1) -> ((((65536 : Int) < n) -> (Q 6)) /\ (¬ ((65536 : Int) < n) -> (JV qq n (fun r16 => ((r16 ≠ 1) -> (Q 10)) /\ (¬ (r16 ≠ 1) -> (Q 0)))))))))))
theorem Jy {w : World} {Q : Int -> Prop} {qq : Int} {n : Int}  (hv : Jq qq n Q) :
    Calls Try.prog 5 #[.int .i64 qq, .int .i64 n] w <| Rt w fun v Qr => ∃ (r0 : Int), v = .int .i64 r0 /\ Qr = [] /\ Q r0 := by
  refine Jk <| Jl (vs := [nI qq, nI n]) [4] XF5 rfl rfl rfl rfl ?_
  have hS := Js w
  unfold Jq at hv
  refine Jb 9 <| Jg rfl rfl ?_
  by_cases g11 : qq < 2
  .have hv := hv.1 g11
   rw [decide_eq_true g11]
   refine Ja 12 <| JD rfl <| Jb 4 <| W.ret <| ⟨_, rfl, Fin.nil ?_⟩
   exact (hS.pick [] rfl).fin rfl ⟨(6 : Int), rfl, rfl, hv⟩
  have hv := hv.2 g11
  rw [decide_eq_false g11]
  refine Ja 5 <| Jg rfl rfl ?_
  by_cases g12 : (256 : Int) < qq
  .have hv := hv.1 g12
   rw [decide_eq_true g12]
   refine Ja 8 <| JD rfl <| Jb 4 <| W.ret <| ⟨_, rfl, Fin.nil ?_⟩
   exact (hS.pick [] rfl).fin rfl ⟨(6 : Int), rfl, rfl, hv⟩
  have hv := hv.2 g12
  rw [decide_eq_false g12]
  refine Ja 5 <| Jg rfl rfl ?_
  by_cases g13 : n < 1
  .have hv := hv.1 g13
   rw [decide_eq_true g13]
   refine Ja 4 <| JD rfl <| Jb 4 <| W.ret <| ⟨_, rfl, Fin.nil ?_⟩
   exact (hS.pick [] rfl).fin rfl ⟨(6 : Int), rfl, rfl, hv⟩
  have hv := hv.2 g13
  rw [decide_eq_false g13]
  refine Ja 6 <| Jd rfl (fun c14 => ?_) (fun c14 => ?_)
  .have hv := hv.1 (oT c14)
   refine Jb 4 <| W.ret <| ⟨_, rfl, Fin.nil ?_⟩
   exact (hS.pick [] rfl).fin rfl ⟨(6 : Int), rfl, rfl, hv⟩
  have hv := hv.2 (oF c14)
  refine Jf <| Jb 5 <| SL.call hS (QV  hv) XF9 rfl XN9 rfl rfl ?_
  rintro _ _ w15 ⟨r16, rfl, rfl, hv⟩ hGw15 hS
  have hS := hS.n0
  refine Ja 2 <| Jd rfl (fun c17 => ?_) (fun c17 => ?_)
  .have hv := hv.1 (oT c17)
   refine Jb 4 <| W.ret <| ⟨_, rfl, Fin.nil ?_⟩
   exact (hS.pick [] rfl).fin rfl ⟨(10 : Int), rfl, rfl, hv⟩
  have hv := hv.2 (oF c17)
  refine Jf <| Jb 4 <| W.ret <| ⟨_, rfl, Fin.nil ?_⟩
  exact (hS.pick [] rfl).fin rfl ⟨(0 : Int), rfl, rfl, hv⟩
end Go.Proofs.Ytfeeapdpahcanaa
set_option linter.unusedSimpArgs false
set_option linter.unusedVariables false
set_option maxRecDepth 4000
set_option maxHeartbeats 4000000
namespace Go.Proofs.Ytfeeapdpahcanaa
open Go.RowKit
def Qa (qq : Int) (n : Int) (x : Int) (Q : List Int -> Prop) : Prop :=
  (0 <= n /\ n * 1 <= 281474976710656 /\ n <= 281474976710656) /\ ((n ≠ 0) /\ (∃ (I22 : List Bool -> Int -> Prop) (μ23 : List Bool -> Int -> Nat), I22 (List.replicate n.toNat false) (x.tmod n) /\ ∀ (x20 : List Bool) (z21 : Int), (I22 x20 z21 -> ((0 <= z21 /\ z21 < (n.toNat : Nat)) /\ ((((!(gb x20 z21)) = true) -> ((0 <= z21 /\ z21 < (n.toNat : Nat)) /\ ((I64 (z21 * qq)) /\ ((n ≠ 0) /\ (I22 (sb x20 z21 true) ((z21 * qq).tmod n) /\ μ23 (sb x20 z21 true) ((z21 * qq).tmod n) < μ23 x20 z21))))) /\ ((!(gb x20 z21)) = false -> (∃ (I46 : List Int -> Int -> Prop) (μ47 : List Int -> Int -> Nat), I46 ([] : List Int) (0 : Int) /\ ∀ (x41 : List Int) (z45 : Int), (I46 x41 z45 -> (((z45 < n) -> (∃ J53 : List Int -> Prop, ((0 <= z45 /\ z45 < (n.toNat : Nat)) /\ ((((gb x20 z45) = true) -> ((((x41.length : Nat) + (1 : Nat) : Int) * 8 <= 140737488355328) /\ (J53 (x41 ++ ([z45] : List Int))))) /\ ((gb x20 z45) = false -> J53 x41))) /\ ∀ (x50 : List Int), (J53 x50 -> ((I64 (z45 + 1)) /\ (I46 x50 (z45 + 1) /\ μ47 x50 (z45 + 1) < μ47 x41 z45))))) /\ (¬ (z45 < n) -> Q x41))))))))))
theorem Z4 {w : World} {Q : List Int -> Prop} {qq : Int} {n : Int} {x : Int}  (hv : Qa qq n x Q) :
    Calls Try.prog 13 #[.int .i64 qq, .int .i64 n, .int .i64 x] w <| Rt w fun v Qr => ∃ (x : List Int)  (A : Option Addr) (c : Nat), v = .slice A x.length c /\ Qr = [.row 3 1 A x.length c (is x)] /\ Q x := by
  refine Jk <| Jl (vs := [nI qq, nI n, nI x]) [6] XF13 rfl rfl rfl rfl ?_
  have hS := Js w
  unfold Qa at hv
  refine Jb 7 ?_
  obtain ⟨o11, hv⟩ := hv
  refine YB (J := n) hS Zm XE4 rfl rfl o11 (ZK _) rfl ?_
  intro A12 w13 hS
  refine Ja 2 <| Jb 5 ?_
  obtain ⟨o15, hv⟩ := hv
  refine Q4 (r := (x.tmod n)) rfl rfl o15 rfl rfl <| Ja 2 <| W.block ?_
  obtain ⟨I22, μ23, hv, hk67⟩ := hv
  refine JJ (σ := List Bool × Int) (fun q w1 => match q with | (x20, z21) => I22 x20 z21 /\ St TT w none w1 [.row 4 1 A12 n.toNat n.toNat (bs x20)]) (fun (x20, z21) => [(0, nI qq), (1, nI n), (6, .slice none 0 0), (7, .slice A12 n.toNat n.toNat), (8, nI z21)]) (fun (x20, z21) => μ23 x20 z21) (List.replicate n.toNat false, (x.tmod n)) ⟨hv, hS⟩ ⟨rfl, rfl, rfl, rfl, rfl, trivial⟩ ?_
  rintro ⟨x20, z21⟩ w24 ⟨hv, hS⟩
  have hv := hk67 x20 z21 hv
  refine Jb 5 ?_
  obtain ⟨o25, hv⟩ := hv
  refine Jj Zm XE4 (hS.rd (i := 0) rfl) rfl rfl o25 rfl <| Jo XU4 rfl rfl (Jb8 (hS.rd (i := 0) rfl) o25) rfl <| Ja 2 <| Jd rfl (fun c26 => ?_) (fun c26 => ?_)
  .have hv := hv.1 (c26)
   refine Jf <| JO <| W.block <| Jb 3 ?_
   obtain ⟨o27, hv⟩ := hv
   refine Jj Zm XE4 (hS.rd (i := 0) rfl) rfl rfl o27 rfl <| Q6 (cs' := bs (sb x20 z21 true)) 0 z21.toNat hS rfl XE4 rfl rfl rfl (bs_lt (hS.rd (i := 0) rfl) o27) (Jbq _ _ _) ?_
   intro w28 hS
   refine Je <| Jb 3 ?_
   obtain ⟨o29, hv⟩ := hv
   refine WL.mul (r := (z21 * qq)) rfl rfl (wr o29) rfl <| Jg rfl rfl ?_
   obtain ⟨o30, hv⟩ := hv
   refine Q4 (r := ((z21 * qq).tmod n)) rfl rfl o30 rfl rfl <| Ja 2 ?_
   exact ⟨(sb x20 z21 true, ((z21 * qq).tmod n)), sp rfl, hv.2, rfl, hv.1, hS⟩
  have hv := hv.2 (c26)
  refine JK <| Jb 9 <| W.block ?_
  obtain ⟨I46, μ47, hv, hk66⟩ := hv
  have hS := hS.nil (e := 3) (z := 1)
  have hm0 : 0 = ([] : List Int).length := (hS.rd (i := 0) rfl).ilen.symm
  have hS := hS.relen (i := 0) rfl hm0
  change St _ _ _ _ [_, _] at hS
  refine JJ (σ := List Int × Int × Option Addr × Nat) (fun q w1 => match q with | (x41, z45, A42, k43) => I46 x41 z45 /\ St TT w none w1 [nR 3 A42 x41 k43, .row 4 1 A12 n.toNat n.toNat (bs x20)]) (fun (x41, z45, A42, k43) => [(1, nI n), (6, .slice none 0 0), (7, .slice A12 n.toNat n.toNat), (9, nS A42 x41 k43), (10, nI z45)]) (fun (x41, z45, A42, k43) => μ47 x41 z45) (([] : List Int), (0 : Int), none, 0) ⟨hv, hS⟩ ⟨rfl, rfl, rfl, (sm (by first | rfl | assumption | omega)), rfl, trivial⟩ ?_
  rintro ⟨x41, z45, A42, k43⟩ w48 ⟨hv, hS⟩
  have hv := hk66 x41 z45 hv
  refine Jb 7 <| Jd rfl (fun c49 => ?_) (fun c49 => ?_)
  .have hv := hv.1 (oT c49)
   refine Jf <| JO ?_
   obtain ⟨J53, hv, hk65⟩ := hv
   refine Zo (σ := List Int × Option Addr × Nat) (fun q w1 => match q with | (x50, A51, k52) => J53 x50 /\ St TT w none w1 [nR 3 A51 x50 k52, .row 4 1 A12 n.toNat n.toNat (bs x20)]) (fun (x50, A51, k52) => [(1, nI n), (6, .slice none 0 0), (7, .slice A12 n.toNat n.toNat), (9, nS A51 x50 k52), (10, nI z45), (31, .bool (decide (z45 < n))), (37, .bool (gb x20 z45))]) ?_ ?_
   .refine W.block ?_
    refine Jb 4 ?_
    obtain ⟨o54, hv⟩ := hv
    refine Jj Zm XE4 (hS.rd (i := 1) rfl) rfl rfl o54 rfl <| Jo XU4 rfl rfl (Jb8 (hS.rd (i := 1) rfl) o54) rfl <| Je <| Jd rfl (fun c55 => ?_) (fun c55 => ?_)
    .have hv := hv.1 (c55)
     refine Jb 3 <| QP (vs := is ([z45] : List Int)) hS JB XE3 rfl rfl rfl rfl (Yv _) rfl ?_
     intro A56 w57 hS
     obtain ⟨o59, hv⟩ := hv
     refine SL.append (cs := is x41) (cs' := is ([z45] : List Int)) 1 ((x41 ++ ([z45] : List Int)).length) (is (x41 ++ ([z45] : List Int))) hS rfl JB XE3 (hS.rd (i := 0) rfl) (Yv _) rfl rfl (apk o59).1 (apk o59).2 (is_ap (hS.rd (i := 1) rfl) (hS.rd (i := 0) rfl)) (Yh _ _) rfl ?_
     intro A60 k61 w62 hS
     refine Ja 2 ?_
     have hS := hS.pick [1, 2] rfl
     exact ⟨(x41 ++ ([z45] : List Int), A60, k61), sp rfl, rfl, hv, hS⟩
    have hv := hv.2 (c55)
    refine Jf ?_
    exact ⟨(x41, A42, k43), sp rfl, rfl, hv, hS⟩
   rintro ⟨x50, A51, k52⟩ w63 ⟨hv, hS⟩
   have hv := hk65 x50 hv
   refine Jb 2 ?_
   obtain ⟨o64, hv⟩ := hv
   refine WL.add (r := (z45 + 1)) rfl rfl (wr o64) rfl <| Ja 2 ?_
   exact ⟨(x50, (z45 + 1), A51, k52), sp rfl, hv.2, rfl, hv.1, hS⟩
  have hv := hv.2 (oF c49)
  refine JK <| Jb 5 <| W.ret <| ⟨_, rfl, Fin.nil ?_⟩
  exact (hS.pick [0] rfl).fin rfl ⟨x41, A42, k43, rfl, rfl, hv⟩
def Qd (qq : Int) (n : Int) (Q : List (List Int) -> Prop) : Prop :=
  ∃ (I29 : List (List Int) -> Int -> Prop) (μ30 : List (List Int) -> Int -> Nat), I29 ([] : List (List Int)) (0 : Int) /\ ∀ (x23 : List (List Int)) (z28 : Int), (I29 x23 z28 -> (((z28 < n) -> (∃ J38 : List (List Int) -> Bool -> Prop, (Qa qq n z28 (fun x40 => (0 <= (0 : Int) /\ (0 : Int) < (x40.length : Nat)) /\ ((((gi x40 0) = z28) -> ((((x23.length : Nat) + (1 : Nat) : Int) * 24 <= 140737488355328) /\ (J38 (x23 ++ [x40]) (decide ((gi x40 0) = z28))))) /\ (¬ ((gi x40 0) = z28) -> (J38 x23 (decide ((gi x40 0) = z28))))))) /\ ∀ (x33 : List (List Int)) (b37 : Bool), (J38 x33 b37 -> ((I64 (z28 + 1)) /\ (I29 x33 (z28 + 1) /\ μ30 x33 (z28 + 1) < μ30 x23 z28))))) /\ (¬ (z28 < n) -> Q x23)))
theorem Y8 {w : World} {Q : List (List Int) -> Prop} {qq : Int} {n : Int}  (hv : Qd qq n Q) :
    Calls Try.prog 8 #[.int .i64 qq, .int .i64 n] w <| Rt w fun v Qr => ∃ (r0 : List (List Int)) (A0 : Option Addr) (k0 : Nat) (hs0 : Hs), v = .slice A0 r0.length k0 /\ Qr = [mx 31 3 A0 r0.length k0 hs0 r0] /\ Q r0 := by
  refine Jk <| Jl (vs := [nI qq, nI n]) [4] XF8 rfl rfl rfl rfl ?_
  have hS := Js w
  unfold Qd at hv
  refine Jb 13 <| W.block ?_
  obtain ⟨I29, μ30, hv, hk56⟩ := hv
  have hS := hS.mxNil 31 3
  have hm0 : 0 = ([] : List (List Int)).length := (hS.mxlen (i := 0) rfl).symm
  have hS := hS.relenMx (i := 0) rfl hm0
  change St _ _ _ _ [_] at hS
  refine JJ (σ := List (List Int) × Int × Option Addr × Nat × Hs) (fun q w1 => match q with | (x23, z28, A24, k25, hs26) => I29 x23 z28 /\ St TT w none w1 [mx 31 3 A24 x23.length k25 hs26 x23]) (fun (x23, z28, A24, k25, hs26) => [(0, nI qq), (1, nI n), (4, .slice none 0 0), (5, nS A24 x23 k25), (6, nI z28)]) (fun (x23, z28, A24, k25, hs26) => μ30 x23 z28) (([] : List (List Int)), (0 : Int), none, 0, (fun _ => (none, 0))) ⟨hv, hS⟩ ⟨rfl, rfl, rfl, (sm (by first | rfl | assumption | omega)), rfl, trivial⟩ ?_
  rintro ⟨x23, z28, A24, k25, hs26⟩ w31 ⟨hv, hS⟩
  have hv := hk56 x23 z28 hv
  refine Jb 7 <| Jd rfl (fun c32 => ?_) (fun c32 => ?_)
  .have hv := hv.1 (oT c32)
   refine Jf <| JO ?_
   obtain ⟨J38, hv, hk55⟩ := hv
   refine Zo (σ := List (List Int) × Bool × Option Addr × Nat × Hs) (fun q w1 => match q with | (x33, b37, A34, k35, hs36) => J38 x33 b37 /\ St TT w none w1 [mx 31 3 A34 x33.length k35 hs36 x33]) (fun (x33, b37, A34, k35, hs36) => [(0, nI qq), (1, nI n), (4, .slice none 0 0), (5, nS A34 x33 k35), (6, nI z28), (10, .bool (decide (z28 < n))), (21, .bool b37)]) ?_ ?_
   .refine W.block ?_
    refine Jb 5 <| SL.call hS (Z4  hv) XF13 rfl XN13 rfl rfl ?_
    rintro _ _ w39 ⟨x40, A41, k42, rfl, rfl, hv⟩ hGw39 hS
    have hS := hS.n1
    refine Ja 2 <| Jb 3 ?_
    obtain ⟨o44, hv⟩ := hv
    refine Jj JB XE3 (hS.rd (i := 0) rfl) rfl rfl o44 rfl <| Jo XU3 rfl rfl (Qi (hS.rd (i := 0) rfl) o44) rfl <| Ja 3 <| Jd rfl (fun c45 => ?_) (fun c45 => ?_)
    .have hv := hv.1 (oT c45)
     refine Jb 3 <| QP (vs := [nS A41 x40 k42]) hS J9 Q3 rfl rfl rfl rfl (by simp [Value.oneCell']) rfl ?_
     intro A46 w47 hS
     obtain ⟨o49, hv⟩ := hv
     have hS := hS.pick [2, 0, 1] rfl
     have hS := hS.pick [1, 2, 0] rfl
     have hS := YY (hS.rd (i := 1) rfl).ilen.symm hS
     change St _ _ _ _ [_, _] at hS
     refine QG hS J9 Q3 rfl rfl (apk o49).1 (apk o49).2 rfl ?_
     intro A50 k51 w52 hS
     refine Ja 2 ?_
     exact ⟨(x23 ++ [x40], (decide ((gi x40 0) = z28)), A50, k51, (QJ x23.length hs26 (fun _ => (A41, k42)))), sp rfl, rfl, hv, hS⟩
    have hv := hv.2 (oF c45)
    refine Jf ?_
    have hS := hS.pick [1] rfl
    exact ⟨(x23, (decide ((gi x40 0) = z28)), A24, k25, hs26), sp rfl, rfl, hv, hS⟩
   rintro ⟨x33, b37, A34, k35, hs36⟩ w53 ⟨hv, hS⟩
   have hv := hk55 x33 b37 hv
   refine Jb 2 ?_
   obtain ⟨o54, hv⟩ := hv
   refine WL.add (r := (z28 + 1)) rfl rfl (wr o54) rfl <| Ja 2 ?_
   exact ⟨(x33, (z28 + 1), A34, k35, hs36), sp rfl, hv.2, rfl, hv.1, hS⟩
  have hv := hv.2 (oF c32)
  refine JK <| Jb 5 <| W.ret <| ⟨_, rfl, Fin.nil ?_⟩
  exact (hS.pick [0] rfl).fin rfl ⟨x23, A24, k25, hs26, rfl, rfl, hv⟩
def Qs (l : List Int) (o : List Int) (Q : Bool -> Prop) : Prop :=
  (((l.length : Int) ≠ (o.length : Int)) -> Q false) /\ (¬ ((l.length : Int) ≠ (o.length : Int)) -> (∃ (I15 : Int -> Prop) (μ16 : Int -> Nat), I15 0 /\ ∀ (z14 : Int), (I15 z14 -> (((z14 < (l.length : Int)) -> ((0 <= z14 /\ z14 < (l.length : Nat)) /\ ((0 <= z14 /\ z14 < (o.length : Nat)) /\ ((((gi l z14) ≠ (gi o z14)) -> Q false) /\ (¬ ((gi l z14) ≠ (gi o z14)) -> ((I64 (z14 + 1)) /\ (I15 (z14 + 1) /\ μ16 (z14 + 1) < μ16 z14))))))) /\ (¬ (z14 < (l.length : Int)) -> Q true)))))
theorem Z3 {w : World} {Q : Bool -> Prop} {l : List Int} {o : List Int} {Bl : Nat} {Al : Option Addr} {nl kl : Nat} (hl : Rd Bl w 1 Al nl kl (is l)) {Bo : Nat} {Ao : Option Addr} {no ko : Nat} (ho : Rd Bo w 1 Ao no ko (is o)) (hv : Qs l o Q) :
    Calls Try.prog 12 #[.slice Al nl kl, .slice Ao no ko] w <| Rt w fun v Qr => ∃ (r0 : Bool), v = .bool r0 /\ Qr = [] /\ Q r0 := by
  have hnl := hl.ilen
  subst hnl
  have hno := ho.ilen
  subst hno
  refine Jk <| Jl (vs := [nS Al l kl, nS Ao o ko]) [4] XF12 rfl rfl rfl rfl ?_
  have hS := Js w
  unfold Qs at hv
  refine Jb 8 <| WL.len JB rfl rfl <| Jg rfl rfl <| WL.len JB rfl rfl <| Ja 2 <| Jd rfl (fun c11 => ?_) (fun c11 => ?_)
  .have hv := hv.1 (oT c11)
   refine Jb 4 <| W.ret <| ⟨_, rfl, Fin.nil ?_⟩
   exact (hS.pick [] rfl).fin rfl ⟨false, rfl, rfl, hv⟩
  have hv := hv.2 (oF c11)
  refine Jf <| Jb 5 <| W.block ?_
  obtain ⟨I15, μ16, hv, hk33⟩ := hv
  refine JJ (σ := Int) (fun z14 w1 => I15 z14 /\ St TT w none w1 []) (fun z14 => [(0, nS Al l kl), (1, nS Ao o ko), (4, .bool false), (5, nI z14)]) (fun z14 => μ16 z14) (0 : Int) ⟨hv, hS⟩ ⟨rfl, rfl, rfl, rfl, trivial⟩ ?_
  rintro z14 w17 ⟨hv, hS⟩
  have hv := hk33 z14 hv
  refine Jb 5 <| WL.len JB rfl rfl <| Ja 2 <| Jd rfl (fun c18 => ?_) (fun c18 => ?_)
  .have hv := hv.1 (oT c18)
   refine Jf <| JO <| W.block <| JO ?_
   obtain ⟨o22, hv⟩ := hv
   obtain ⟨o27, hv⟩ := hv
   refine QN 9 [⟨[], [0], true⟩, ⟨[], [5], true⟩, ⟨[0, 1], [], true⟩, ⟨[2], [], false⟩, ⟨[], [1], true⟩, ⟨[], [5], true⟩, ⟨[4, 5], [], true⟩, ⟨[6], [], false⟩, ⟨[3, 7], [], true⟩] [(17, nS Al l kl), (18, nI z14), (19, .pointer (some ((JI Al).add z14.toNat))), (20, nI (gi l z14)), (21, nS Ao o ko), (22, nI z14), (23, .pointer (some ((JI Ao).add z14.toNat))), (24, nI (gi o z14)), (25, .bool (decide ((gi l z14) ≠ (gi o z14))))] Try.mixed (by kernel_rfl) rfl rfl ?_ ?_
   . refine ⟨oD, oD, fun _ _ _ => Jj JB XE3 (hS.ro hl) rfl rfl o22 rfl <| Je ⟨rfl, rfl⟩, og hS fun _ _ hS => Jo XU3 rfl rfl (Qi (hS.ro hl) o22) rfl <| Je ⟨rfl, JH _⟩, oD, oD, fun _ _ _ => Jj JB XE3 (hS.ro ho) rfl rfl o27 rfl <| Je ⟨rfl, rfl⟩, og hS fun _ _ hS => Jo XU3 rfl rfl (Qi (hS.ro ho) o27) rfl <| Je ⟨rfl, JH _⟩, oD, trivial⟩
   intro w30 hT
   have hS := hS.grow hT
   refine WA.e <| Jd rfl (fun c31 => ?_) (fun c31 => ?_)
   .have hv := hv.1 (oT c31)
    refine Jb 4 <| W.ret <| ⟨_, rfl, Fin.nil ?_⟩
    exact (hS.pick [] rfl).fin rfl ⟨false, rfl, rfl, hv⟩
   have hv := hv.2 (oF c31)
   refine Jf <| Jb 2 ?_
   obtain ⟨o32, hv⟩ := hv
   refine WL.add (r := (z14 + 1)) rfl rfl (wr o32) rfl <| Ja 2 ?_
   exact ⟨(z14 + 1), sp rfl, hv.2, rfl, hv.1, hS⟩
  have hv := hv.2 (oF c18)
  refine JK <| Jb 4 <| W.ret <| ⟨_, rfl, Fin.nil ?_⟩
  exact (hS.pick [] rfl).fin rfl ⟨true, rfl, rfl, hv⟩
def Qq (l : List (List Int)) (o : List (List Int)) (Q : Bool -> Prop) : Prop :=
  (((l.length : Int) ≠ (o.length : Int)) -> Q false) /\ (¬ ((l.length : Int) ≠ (o.length : Int)) -> (∃ (I15 : Int -> Prop) (μ16 : Int -> Nat), I15 0 /\ ∀ (z14 : Int), (I15 z14 -> (((z14 < (l.length : Int)) -> ((0 <= z14 /\ z14 < (l.length : Nat)) /\ ((0 <= z14 /\ z14 < (o.length : Nat)) /\ (∃ (r30 : Bool), Qs (gl l z14) (gl o z14) (fun q => q = r30) /\ ((((!r30) = true) -> Q false) /\ ((!r30) = false -> ((I64 (z14 + 1)) /\ (I15 (z14 + 1) /\ μ16 (z14 + 1) < μ16 z14)))))))) /\ (¬ (z14 < (l.length : Int)) -> Q true)))))
theorem Z2 {w : World} {Q : Bool -> Prop} {l : List (List Int)} {o : List (List Int)} {Al : Option Addr} {nl kl : Nat} (hl : Rl w Al nl kl l) {Ao : Option Addr} {no ko : Nat} (ho : Rl w Ao no ko o) (hv : Qq l o Q) :
    Calls Try.prog 7 #[.slice Al nl kl, .slice Ao no ko] w <| Rt w fun v Qr => ∃ (r0 : Bool), v = .bool r0 /\ Qr = [] /\ Q r0 := by
  have hnl := hl.len
  subst hnl
  obtain ⟨hsl, hHl⟩ := hl.heads
  have hno := ho.len
  subst hno
  obtain ⟨hso, hHo⟩ := ho.heads
  refine Jk <| Jl (vs := [nS Al l kl, nS Ao o ko]) [4] XF7 rfl rfl rfl rfl ?_
  have hS := Js w
  unfold Qq at hv
  refine Jb 8 <| WL.len J9 rfl rfl <| Jg rfl rfl <| WL.len J9 rfl rfl <| Ja 2 <| Jd rfl (fun c11 => ?_) (fun c11 => ?_)
  .have hv := hv.1 (oT c11)
   refine Jb 4 <| W.ret <| ⟨_, rfl, Fin.nil ?_⟩
   exact (hS.pick [] rfl).fin rfl ⟨false, rfl, rfl, hv⟩
  have hv := hv.2 (oF c11)
  refine Jf <| Jb 5 <| W.block ?_
  obtain ⟨I15, μ16, hv, hk37⟩ := hv
  refine JJ (σ := Int) (fun z14 w1 => I15 z14 /\ St TT w none w1 []) (fun z14 => [(0, nS Al l kl), (1, nS Ao o ko), (4, .bool false), (5, nI z14)]) (fun z14 => μ16 z14) (0 : Int) ⟨hv, hS⟩ ⟨rfl, rfl, rfl, rfl, trivial⟩ ?_
  rintro z14 w17 ⟨hv, hS⟩
  have hv := hk37 z14 hv
  refine Jb 5 <| WL.len J9 rfl rfl <| Ja 2 <| Jd rfl (fun c18 => ?_) (fun c18 => ?_)
  .have hv := hv.1 (oT c18)
   refine Jf <| JO <| W.block <| JO ?_
   obtain ⟨o22, hv⟩ := hv
   obtain ⟨o27, hv⟩ := hv
   obtain ⟨r30, o32, hv⟩ := hv
   refine QN 10 [⟨[], [0], true⟩, ⟨[], [5], true⟩, ⟨[0, 1], [], true⟩, ⟨[2], [], false⟩, ⟨[], [1], true⟩, ⟨[], [5], true⟩, ⟨[4, 5], [], true⟩, ⟨[6], [], false⟩, ⟨[3, 7], [], false⟩, ⟨[8], [], true⟩] [(17, nS Al l kl), (18, nI z14), (19, .pointer (some ((JI Al).add z14.toNat))), (20, .slice ((hsl z14.toNat).1) ((gl l z14).length) ((hsl z14.toNat).2)), (21, nS Ao o ko), (22, nI z14), (23, .pointer (some ((JI Ao).add z14.toNat))), (24, .slice ((hso z14.toNat).1) ((gl o z14).length) ((hso z14.toNat).2)), (25, .bool r30), (26, .bool (!r30))] Try.mixed (by kernel_rfl) rfl rfl ?_ ?_
   . refine ⟨oD, oD, fun _ _ _ => Ym J9 Q3 hHl rfl rfl o22 rfl <| Je ⟨rfl, rfl⟩, og hS fun _ _ hS => Jo JB rfl rfl (hS.cell (RlH.cell hHl o22)) rfl <| Je ⟨rfl, JH _⟩, oD, oD, fun _ _ _ => Ym J9 Q3 hHo rfl rfl o27 rfl <| Je ⟨rfl, rfl⟩, og hS fun _ _ hS => Jo JB rfl rfl (hS.cell (RlH.cell hHo o27)) rfl <| Je ⟨rfl, JH _⟩, ?_, oD, trivial⟩
     intro w29 hE RR
     have hS := hS.grow (hE rfl)
     refine WL.call XF12 rfl XN12 rfl rfl (Jbp (Z3 (hS.ro (ZW hHl o22)) (hS.ro (ZW hHo o27)) o32)) ?_
     rintro _ w31 ⟨_, hGw31, hRww31, hNww31, r30q, rfl, rfl, he⟩
     subst he
     exact Je ⟨rfl, hGw31⟩
   intro w34 hT
   have hS := hS.grow hT
   refine WA.e <| Jd rfl (fun c35 => ?_) (fun c35 => ?_)
   .have hv := hv.1 (c35)
    refine Jb 4 <| W.ret <| ⟨_, rfl, Fin.nil ?_⟩
    exact (hS.pick [] rfl).fin rfl ⟨false, rfl, rfl, hv⟩
   have hv := hv.2 (c35)
   refine Jf <| Jb 2 ?_
   obtain ⟨o36, hv⟩ := hv
   refine WL.add (r := (z14 + 1)) rfl rfl (wr o36) rfl <| Ja 2 ?_
   exact ⟨(z14 + 1), sp rfl, hv.2, rfl, hv.1, hS⟩
  have hv := hv.2 (oF c18)
  refine JK <| Jb 4 <| W.ret <| ⟨_, rfl, Fin.nil ?_⟩
  exact (hS.pick [] rfl).fin rfl ⟨true, rfl, rfl, hv⟩
end Go.Proofs.Ytfeeapdpahcanaa
set_option linter.unusedSimpArgs false
set_option linter.unusedVariables false
set_option maxRecDepth 4000
set_option maxHeartbeats 4000000
namespace Go.Proofs.Ytfeeapdpahcanaa
open Go.RowKit
def QA (qq : Int) (n : Int) (Q : Bool -> Prop) : Prop :=
  (((300 : Int) < n) -> (Jq qq n (fun r13 => ((r13 = 0) -> Q true) /\ (¬ (r13 = 0) -> (JX qq n (fun (x16, r17) => Jq qq n (fun r23 => ((r23 ≠ 0) -> (Jq qq n (fun r26 => ((r17 = r26) -> (Q (decide ((x16.length : Int) = (0 : Int))))) /\ (¬ (r17 = r26) -> Q false)))) /\ (¬ (r23 ≠ 0) -> Q true)))))))) /\ (¬ ((300 : Int) < n) -> (JX qq n (fun (x29, r30) => Jq qq n (fun r36 => ((r36 ≠ 0) -> (Jq qq n (fun r39 => ((r30 = r39) -> (Q (decide ((x29.length : Int) = (0 : Int))))) /\ (¬ (r30 = r39) -> Q false)))) /\ (¬ (r36 ≠ 0) -> (((r30 = 0) -> (Qd qq n (fun x43 => Qq x29 x43 (fun r49 => Q r49)))) /\ (¬ (r30 = 0) -> Q false)))))))
theorem Y9 {w : World} {Q : Bool -> Prop} {qq : Int} {n : Int}  (hv : QA qq n Q) :
    Calls Try.prog 3 #[.int .i64 qq, .int .i64 n] w <| Rt w fun v Qr => ∃ (r0 : Bool), v = .bool r0 /\ Qr = [] /\ Q r0 := by
  refine Jk <| Jl (vs := [nI qq, nI n]) [4] XF3 rfl rfl rfl rfl ?_
  have hS := Js w
  unfold QA at hv
  refine Jb 9 <| Jg rfl rfl ?_
  by_cases g11 : (300 : Int) < n
  .have hv := hv.1 g11
   rw [decide_eq_true g11]
   refine Ja 5 <| SL.call hS (Jy  hv) XF5 rfl XN5 rfl rfl ?_
   rintro _ _ w12 ⟨r13, rfl, rfl, hv⟩ hGw12 hS
   have hS := hS.n0
   refine Ja 4 <| Jd rfl (fun c14 => ?_) (fun c14 => ?_)
   .have hv := hv.1 (oT c14)
    refine Jb 4 <| W.ret <| ⟨_, rfl, Fin.nil ?_⟩
    exact (hS.pick [] rfl).fin rfl ⟨true, rfl, rfl, hv⟩
   have hv := hv.2 (oF c14)
   refine Jf <| Jb 4 <| SL.call hS (Qu  hv) XF6 rfl XN6 rfl rfl ?_
   rintro _ _ w15 ⟨x16, r17, A18, k19, hs20, rfl, rfl, hv⟩ hGw15 hS
   have hS := hS.n1
   refine Ja 6 <| Jb 5 <| SL.call hS (Jy  hv) XF5 rfl XN5 rfl rfl ?_
   rintro _ _ w22 ⟨r23, rfl, rfl, hv⟩ hGw22 hS
   have hS := hS.n0
   refine Ja 2 <| Jd rfl (fun c24 => ?_) (fun c24 => ?_)
   .have hv := hv.1 (oT c24)
    refine Jb 5 <| SL.call hS (Jy  hv) XF5 rfl XN5 rfl rfl ?_
    rintro _ _ w25 ⟨r26, rfl, rfl, hv⟩ hGw25 hS
    have hS := hS.n0
    refine YA rfl rfl rfl <| Jg rfl rfl ?_
    by_cases g27 : r17 = r26
    .have hv := hv.1 g27
     rw [decide_eq_true g27]
     refine Ja 3 <| WL.len J9 rfl rfl <| Ja 5 <| W.ret <| ⟨_, rfl, Fin.nil ?_⟩
     exact (hS.pick [] rfl).fin rfl ⟨(decide ((x16.length : Int) = (0 : Int))), rfl, rfl, hv⟩
    have hv := hv.2 g27
    rw [decide_eq_false g27]
    refine Ja 6 <| W.ret <| ⟨_, rfl, Fin.nil ?_⟩
    exact (hS.pick [] rfl).fin rfl ⟨false, rfl, rfl, hv⟩
   have hv := hv.2 (oF c24)
   refine Jf <| Jb 3 <| Yz rfl rfl rfl ?_; rw [decide_eq_true g11]
   refine Ja 4 <| JU rfl rfl <| JU rfl rfl <| JU rfl rfl <| JU rfl rfl <| JU rfl rfl <| Ja 4 <| W.ret <| ⟨_, rfl, Fin.nil ?_⟩
   exact (hS.pick [] rfl).fin rfl ⟨true, rfl, rfl, hv⟩
  have hv := hv.2 g11
  rw [decide_eq_false g11]
  refine Ja 6 <| Jdg rfl <| Jf <| Jb 4 <| SL.call hS (Qu  hv) XF6 rfl XN6 rfl rfl ?_
  rintro _ _ w28 ⟨x29, r30, A31, k32, hs33, rfl, rfl, hv⟩ hGw28 hS
  have hS := hS.n1
  refine Ja 6 <| Jb 5 <| SL.call hS (Jy  hv) XF5 rfl XN5 rfl rfl ?_
  rintro _ _ w35 ⟨r36, rfl, rfl, hv⟩ hGw35 hS
  have hS := hS.n0
  refine Ja 2 <| Jd rfl (fun c37 => ?_) (fun c37 => ?_)
  .have hv := hv.1 (oT c37)
   refine Jb 5 <| SL.call hS (Jy  hv) XF5 rfl XN5 rfl rfl ?_
   rintro _ _ w38 ⟨r39, rfl, rfl, hv⟩ hGw38 hS
   have hS := hS.n0
   refine YA rfl rfl rfl <| Jg rfl rfl ?_
   by_cases g40 : r30 = r39
   .have hv := hv.1 g40
    rw [decide_eq_true g40]
    refine Ja 3 <| WL.len J9 rfl rfl <| Ja 5 <| W.ret <| ⟨_, rfl, Fin.nil ?_⟩
    exact (hS.pick [] rfl).fin rfl ⟨(decide ((x29.length : Int) = (0 : Int))), rfl, rfl, hv⟩
   have hv := hv.2 g40
   rw [decide_eq_false g40]
   refine Ja 6 <| W.ret <| ⟨_, rfl, Fin.nil ?_⟩
   exact (hS.pick [] rfl).fin rfl ⟨false, rfl, rfl, hv⟩
  have hv := hv.2 (oF c37)
  refine Jf <| Jb 3 <| Yz rfl rfl rfl ?_; rw [decide_eq_false g11]
  refine Ja 6 <| Jg rfl rfl ?_
  by_cases g41 : r30 = 0
  .have hv := hv.1 g41
   rw [decide_eq_true g41]
   refine Ja 7 <| SL.call hS (Y8  hv) XF8 rfl XN8 rfl rfl ?_
   rintro _ _ w42 ⟨x43, A44, k45, hs46, rfl, rfl, hv⟩ hGw42 hS
   have hS := hS.n1
   refine WL.take rfl <| SL.call hS (Z2 (hS.rl (i := 1) rfl) (hS.rl (i := 0) rfl) hv) XF7 rfl XN7 rfl rfl ?_
   rintro _ _ w48 ⟨r49, rfl, rfl, hv⟩ hGw48 hS
   have hS := hS.n0
   refine Ja 5 <| W.ret <| ⟨_, rfl, Fin.nil ?_⟩
   exact (hS.pick [] rfl).fin rfl ⟨r49, rfl, rfl, hv⟩
  have hv := hv.2 g41
  rw [decide_eq_false g41]
  refine Ja 10 <| W.ret <| ⟨_, rfl, Fin.nil ?_⟩
  exact (hS.pick [] rfl).fin rfl ⟨false, rfl, rfl, hv⟩
end Go.Proofs.Ytfeeapdpahcanaa
set_option linter.unusedVariables false
set_option linter.unusedSimpArgs false
namespace Go.Proofs.Ytfeeapdpahcanaa
section
variable {q N : Nat}
/-- walking along an orbit with marks -/
theorem Jak {i : Nat} {Q : List Int -> Prop} (hi : i < N) (h300 : N <= 300) (hq : q <= 256) (h : Q (orb q N i)) : Qa q N i Q := by
  have e0 : ((i : Int)).tmod (N : Int) = (i : Int) := by
    rw [Int.tmod_eq_emod_of_nonneg (by omega), Int.emod_eq_of_lt (by omega) (by omega)]
  unfold Qa
  rw [Int.toNat_natCast, e0]
  refine ⟨⟨by omega, by omega, by omega⟩, by omega, fun x z => ∃ t : Nat, z = itr q N i t /\ x.length = N /\ ∀ j : Nat, j < N -> (gb x (j : Int) = true ↔ ∃ s, s < t /\ itr q N i s = j), fun x _ => x.count false, ⟨0, rfl, by simp, fun j hj => ⟨fun c => (by rw [Jbe] at c; cases c), fun ⟨s, hs, _⟩ => by omega⟩⟩, ?_⟩
  rintro x _ ⟨t, rfl, hx, hm⟩
  have hz := J6 (q := q) (show 0 < N by omega) hi t
  refine ⟨⟨by omega, by omega⟩, fun hg => ⟨⟨by omega, by omega⟩, Zb (by omega) hq, by omega, ⟨t + 1, Za _ _ _, by rw [Jax]; exact hx, fun j hj => ?_⟩, ?_⟩, fun hg => ?_⟩
  . rw [Jbd (by omega)]
    by_cases e : j = itr q N i t
    . rw [if_pos e]; exact ⟨fun _ => ⟨t, by omega, e.symm⟩, fun _ => rfl⟩
    . rw [if_neg e, hm j hj]
      constructor
      . rintro ⟨s, hs, e⟩; exact ⟨s, by omega, e⟩
      . rintro ⟨s, hs, e'⟩
        by_cases c : s = t
        . subst c; exact absurd e'.symm e
        . exact ⟨s, by omega, e'⟩
  . have := Jbm (x := x) (r := itr q N i t) (by omega) (bn hg)
    show (sb x _ true).count false < x.count false
    omega
  . have hcl := (hm _ hz).1 (bt hg)
    have hm' : ∀ j : Nat, j < N -> (gb x (j : Int) = true ↔ Cst q N i j) := fun j hj => by
      rw [hm j hj, Qm (by obtain ⟨s, hs, e⟩ := hcl; exact ⟨s, hs, e.symm⟩)]
    refine ⟨fun y z => ∃ j : Nat, z = j /\ j <= N /\ y = AL (Cst q N i) j, fun _ z => ((N : Int) - z).toNat, ⟨0, rfl, by omega, rfl⟩, ?_⟩
    rintro _ _ ⟨j, rfl, hj, rfl⟩
    have hl := YF (Cst q N i) j
    refine ⟨fun hlt => ⟨fun y => y = AL (Cst q N i) (j + 1), ⟨⟨by omega, by omega⟩, fun hg => ⟨by omega, ?_⟩, fun hg => ?_⟩, ?_⟩, fun hge => ?_⟩
    . rw [Zq ((hm' j (by omega)).1 hg)]
    . rw [Zr (fun c => by rw [(hm' j (by omega)).2 c] at hg; cases hg)]
    . rintro _ rfl
      exact ⟨JT (by omega) (by omega), ⟨j + 1, by push_cast; rfl, by omega, rfl⟩, by show ((N : Int) - ((j : Int) + 1)).toNat < ((N : Int) - (j : Int)).toNat; omega⟩
    . have : j = N := by omega
      subst this; exact h
end
end Go.Proofs.Ytfeeapdpahcanaa
set_option linter.unusedVariables false
set_option linter.unusedSimpArgs false
namespace Go.Proofs.Ytfeeapdpahcanaa
/-! ### the laws of cosets -/
theorem Jbv {l : List Int} (h : l.Pairwise fun x y => x < y) (h0 : 0 < l.length) : gi l 0 ∈ l /\ ∀ x, x ∈ l -> gi l 0 <= x := by
  cases l with
  | nil => simp at h0
  | cons a l =>
    refine ⟨List.mem_cons_self .., fun x hx => ?_⟩
    show a <= x
    rcases List.mem_cons.1 hx with e | e
    . omega
    . have := (List.pairwise_cons.1 h).1 x e; omega
section
variable {q N : Nat}
theorem Ja1 (hc : Nat.gcd q N = 1) {i : Nat} (hi : i < N) : 0 < (orb q N i).length /\ (gi (orb q N i) 0 = i ↔ Ldr q N i) := by
  have hN : 0 < N := by omega
  have hm : ((i : Nat) : Int) ∈ orb q N i := JQ.2 ⟨i, hi, Cst.refl i, rfl⟩
  have h0 : 0 < (orb q N i).length := List.length_pos_of_mem hm
  obtain ⟨h1, h2⟩ := Jbv (YG (Cst q N i) N) h0
  refine ⟨h0, fun e j hj hr => ?_, fun hM => ?_⟩
  . have := h2 j (JQ.2 ⟨j, by omega, hr.symm hc hN (by omega), rfl⟩)
    have e' : gi (AL (Cst q N i) N) 0 = i := e
    omega
  . obtain ⟨j, hj, hr, e⟩ := JQ.1 h1
    have := h2 i hm
    have h3 : gi (AL (Cst q N i) N) 0 = j := e
    by_cases c : j = i
    . show gi (AL (Cst q N i) N) 0 = _; omega
    . exact absurd (hr.symm hc hN hi) (hM j (by omega))
theorem ZZ {Q : List (List Int) -> Prop} (hc : Nat.gcd q N = 1) (h300 : N <= 300) (hq : q <= 256) (h : Q (CL q N N)) : Qd q N Q := by
  refine ⟨fun x z => ∃ i : Nat, z = i /\ i <= N /\ x = CL q N i, fun _ z => ((N : Int) - z).toNat, ⟨0, rfl, Nat.zero_le _, rfl⟩, ?_⟩
  rintro _ _ ⟨i, rfl, hi, rfl⟩
  have hl := YD (q := q) (n := N) i
  refine ⟨fun hlt => ?_, fun hge => ?_⟩
  . have hiN : i < N := by omega
    obtain ⟨h0, hh⟩ := Ja1 hc hiN
    refine ⟨fun x _ => x = CL q N (i + 1), Jak hiN h300 hq ⟨⟨by omega, by omega⟩, fun e => ⟨by omega, (Jca (hh.1 e)).symm⟩, fun e => (Jcb fun c => e (hh.2 c)).symm⟩, ?_⟩
    rintro _ _ rfl
    exact ⟨JT (by omega) (by omega), ⟨i + 1, by push_cast; rfl, by omega, rfl⟩, by show ((N : Int) - ((i : Int) + 1)).toNat < ((N : Int) - (i : Int)).toNat; omega⟩
  . have : i = N := by omega
    subst this; exact h
end
theorem Jn {qq n : Int} {Q : Int -> Prop} (h6 : ¬ (2 <= qq /\ qq <= 256 /\ 1 <= n /\ n <= 65536) -> Q 6) (h10 : 2 <= qq -> qq <= 256 -> 1 <= n -> n <= 65536 -> Int.gcd qq n ≠ 1 -> Q 10) (h0 : 2 <= qq -> qq <= 256 -> 1 <= n -> n <= 65536 -> Int.gcd qq n = 1 -> Q 0) : Jq qq n Q := by
  refine ⟨fun c => h6 (by omega), fun c1 => ⟨fun c => h6 (by omega), fun c2 => ⟨fun c => h6 (by omega), fun c3 => ⟨fun c => h6 (by omega), fun c4 => ?_⟩⟩⟩⟩
  obtain ⟨q, rfl⟩ := Int.eq_ofNat_of_zero_le (show 0 <= qq by omega)
  obtain ⟨N, rfl⟩ := Int.eq_ofNat_of_zero_le (show 0 <= n by omega)
  refine Q9 ?_
  rw [Int.gcd_natCast_natCast] at h10 h0
  exact ⟨fun c => h10 (by omega) (by omega) (by omega) (by omega) (by omega), fun c => h0 (by omega) (by omega) (by omega) (by omega) (by omega)⟩
theorem Jaj {l : List Int} {Q : Bool -> Prop} (hl : l.length <= 1000000) (h : Q true) : Qs l l Q := by
  refine ⟨fun c => absurd rfl c, fun _ => ⟨fun z => 0 <= z, fun z => ((l.length : Nat) - z : Int).toNat, by omega, fun z hz => ⟨fun hlt => ⟨⟨hz, hlt⟩, ⟨hz, hlt⟩, fun c => absurd rfl c, fun _ => ⟨JT (by omega) (by omega), by omega, by show ((l.length : Nat) - (z + 1) : Int).toNat < ((l.length : Nat) - z : Int).toNat; omega⟩⟩, fun _ => h⟩⟩⟩
theorem Jai {l : List (List Int)} {Q : Bool -> Prop} (hl : l.length <= 1000000) (hi : ∀ z, (gl l z).length <= 1000000) (h : Q true) : Qq l l Q := by
  refine ⟨fun c => absurd rfl c, fun _ => ⟨fun z => 0 <= z, fun z => ((l.length : Nat) - z : Int).toNat, by omega, fun z hz => ⟨fun hlt => ⟨⟨hz, hlt⟩, ⟨hz, hlt⟩, true, Jaj (hi z) rfl, fun c => absurd c (by decide), fun _ => ⟨JT (by omega) (by omega), by omega, by show ((l.length : Nat) - (z + 1) : Int).toNat < ((l.length : Nat) - z : Int).toNat; omega⟩⟩, fun _ => h⟩⟩⟩
theorem Qw (qq n : Int) : QA qq n (fun b => b = true) := by
  have one : ∀ {A B : Prop} {a : Int}, A -> ((a = a -> A) /\ (¬ (a = a) -> B)) := fun h => ⟨fun _ => h, fun c => absurd rfl c⟩
  have nz : ∀ {A B : Prop} {a : Int}, a ≠ 0 -> A -> ((a ≠ 0 -> A) /\ (¬ (a ≠ 0) -> B)) := fun h a => ⟨fun _ => a, fun c => absurd h c⟩
  refine ⟨fun hn => Jn (fun hno => ?_) (fun h1 h2 h3 h4 hno => ?_) (fun _ _ _ _ _ => ⟨fun _ => rfl, fun c => absurd rfl c⟩), fun hn => ?_⟩
  . refine ⟨fun c => absurd c (by decide), fun _ => Qo (fun _ => ?_) (fun a b c d _ => absurd ⟨a, b, c, d⟩ hno) (fun a b c d _ => absurd ⟨a, b, c, d⟩ hno) fun q N e1 e2 a b c d _ => absurd ⟨by omega, by omega, by omega, by omega⟩ hno⟩
    exact Jn (fun _ => nz (by decide) (Jn (fun _ => one (decide_eq_true rfl)) (fun a b c d _ => absurd ⟨a, b, c, d⟩ hno) fun a b c d _ => absurd ⟨a, b, c, d⟩ hno)) (fun a b c d _ => absurd ⟨a, b, c, d⟩ hno) fun a b c d _ => absurd ⟨a, b, c, d⟩ hno
  . refine ⟨fun c => absurd c (by decide), fun _ => Qo (fun c => absurd ⟨h1, h2, h3, h4⟩ c) (fun _ _ _ _ _ => ?_) (fun _ _ _ _ c => absurd c hno) fun q N e1 e2 a b c d hg => absurd (by rw [e1, e2, Int.gcd_natCast_natCast]; exact hg) hno⟩
    exact Jn (fun c => absurd ⟨h1, h2, h3, h4⟩ c) (fun _ _ _ _ _ => nz (by decide) (Jn (fun c => absurd ⟨h1, h2, h3, h4⟩ c) (fun _ _ _ _ _ => one (decide_eq_true rfl)) fun _ _ _ _ c => absurd c hno)) fun _ _ _ _ c => absurd c hno
  . refine Qo (fun hno => ?_) (fun h1 h2 h3 h4 hno => ?_) (fun _ _ _ _ _ => by omega) fun q N e1 e2 q2 q256 n1 n300 hg => ?_
    . exact Jn (fun _ => nz (by decide) (Jn (fun _ => one (decide_eq_true rfl)) (fun a b c d _ => absurd ⟨a, b, c, d⟩ hno) fun a b c d _ => absurd ⟨a, b, c, d⟩ hno)) (fun a b c d _ => absurd ⟨a, b, c, d⟩ hno) fun a b c d _ => absurd ⟨a, b, c, d⟩ hno
    . exact Jn (fun c => absurd ⟨h1, h2, h3, h4⟩ c) (fun _ _ _ _ _ => nz (by decide) (Jn (fun c => absurd ⟨h1, h2, h3, h4⟩ c) (fun _ _ _ _ _ => one (decide_eq_true rfl)) fun _ _ _ _ c => absurd c hno)) fun _ _ _ _ c => absurd c hno
    . subst e1; subst e2
      have hg' : Int.gcd (q : Int) (N : Int) = 1 := by rw [Int.gcd_natCast_natCast]; exact hg
      have hl := YD (q := q) (n := N) N
      exact Jn (fun c => absurd ⟨by omega, by omega, by omega, by omega⟩ c) (fun _ _ _ _ c => absurd hg' c) fun _ _ _ _ _ => ⟨fun c => absurd rfl c, fun _ => one (ZZ hg n300 q256 (Jai (by omega) (fun z => by have := Jb9 q N N z; omega) rfl))⟩
end Go.Proofs.Ytfeeapdpahcanaa
