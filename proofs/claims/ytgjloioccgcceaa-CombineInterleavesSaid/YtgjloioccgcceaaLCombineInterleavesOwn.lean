/- What only this law leans on. -/
import Derived.Test.YtgjloioccgcceaaCombineProductsG8
set_option linter.unusedSimpArgs false
set_option linter.unusedVariables false
namespace Go.Proofs.Ytgjloioccgcceaa
open Go.ChangeShapes Go.WideShapes Go.ChangeAt Go.RowKit
/-! ### arguments that came in: ints, lists of ints, structs and arrays of them -/
theorem Juh {x : Int} (h : (Lit.int .i64 x).wf = true) : -9223372036854775808 <= x /\ x <= 9223372036854775807 := by
  simp [Lit.wf, IntKind.min, IntKind.max, IntKind.signed, IntKind.bits] at h
  exact ⟨by omega, by omega⟩
section
variable {H : Type} {enc : TypeId × Value -> H} {P : Program} {W : World} {base : Nat} {spare : Nat -> Bool} {held : Bool}
end
end Go.Proofs.Ytgjloioccgcceaa
set_option linter.unusedSimpArgs false
set_option linter.unusedVariables false
namespace Go.Proofs.Ytgjloioccgcceaa
open Go.RowKit
/-- A list of lists of the call's own. -/
def eX (w : World) (d eS_ eI m : Nat) (f : Option Addr -> Nat -> Hs -> Value) (ls : List (List Int)) : Ent :=
  .m d (fun v wQ => ∃ A k hs, v = f A k hs /\ Rows w.heap.size none wQ [mx eS_ eI A m k hs ls]) fun _ _ _ ⟨A, k, hs, h1, h2⟩ hg => ⟨A, k, hs, h1, h2.ext hg⟩
end Go.Proofs.Ytgjloioccgcceaa
set_option linter.unusedVariables false
namespace Go.Proofs.Ytgjloioccgcceaa
open Go.RowKit
theorem Try.nm14 : (Try.f14.name == "runtime.NumGoroutine") = false := by kernel_rfl
theorem Try.nm15 : (Try.f15.name == "runtime.NumGoroutine") = false := by kernel_rfl
theorem Try.nm33 : (Try.f33.name == "runtime.NumGoroutine") = false := by kernel_rfl
end Go.Proofs.Ytgjloioccgcceaa
namespace Go.Proofs.Ytgjloioccgcceaa
open Go.RowKit
abbrev XF14 := Try.func14
abbrev XF15 := Try.func15
abbrev XF33 := Try.func33
abbrev XF5 := Try.func5
abbrev XN14 := Try.nm14
abbrev XN15 := Try.nm15
abbrev XN33 := Try.nm33
end Go.Proofs.Ytgjloioccgcceaa
set_option linter.unusedSimpArgs false
set_option linter.unusedVariables false
set_option maxRecDepth 4000
set_option maxHeartbeats 4000000
namespace Go.Proofs.Ytgjloioccgcceaa
open Go.RowKit
def Yg (Pa : Int) (Ma : Int) (ma : List Int) (Na : Int) (a : List (List Int)) (d : Int) (Q : Int × Int × List Int × Int × List (List Int) × Int -> Prop) : Prop :=
  YF Pa Ma ma Na a (fun r16 => ((r16 ≠ 0) -> (Q ((0 : Int), (0 : Int), ([] : List Int), (0 : Int), ([] : List (List Int)), r16))) /\ (¬ (r16 ≠ 0) -> (((d < 1) -> (Q ((0 : Int), (0 : Int), ([] : List Int), (0 : Int), ([] : List (List Int)), (6 : Int)))) /\ (¬ (d < 1) -> ((Na ≠ 0 /\ I64 ((64 : Int).tdiv Na)) /\ (((((64 : Int).tdiv Na) < d) -> (Q ((0 : Int), (0 : Int), ([] : List Int), (0 : Int), ([] : List (List Int)), (4 : Int)))) /\ (¬ (((64 : Int).tdiv Na) < d) -> (∃ (I45 : List (List Int) -> Int -> Prop) (μ46 : List (List Int) -> Int -> Nat), I45 ([] : List (List Int)) (0 : Int) /\ ∀ (x39 : List (List Int)) (z44 : Int), (I45 x39 z44 -> (((z44 < d) -> (∃ (I65 : List (List Int) -> Int -> Prop) (μ66 : List (List Int) -> Int -> Nat), I65 x39 (0 : Int) /\ ∀ (x59 : List (List Int)) (z63 : Int), (I65 x59 z63 -> (((z63 < (a.length : Int)) -> ((I64 (Na * d)) /\ ((0 <= (Na * d) /\ (Na * d) * 8 <= 281474976710656 /\ (Na * d) <= 281474976710656) /\ (∃ (I80 : List Int -> Int -> Prop) (μ81 : List Int -> Int -> Nat), I80 (List.replicate (Na * d).toNat (0 : Int)) (0 : Int) /\ ∀ (x78 : List Int) (z79 : Int), (I80 x78 z79 -> (((z79 < Na) -> ((I64 (z79 * d)) /\ ((I64 ((z79 * d) + z44)) /\ ((0 <= z63 /\ z63 < (a.length : Nat)) /\ ((0 <= z79 /\ z79 < ((gl a z63).length : Nat)) /\ ((0 <= ((z79 * d) + z44) /\ ((z79 * d) + z44) < ((Na * d).toNat : Nat)) /\ ((I64 (z79 + 1)) /\ (I80 (si x78 ((z79 * d) + z44) (gi (gl a z63) z79)) (z79 + 1) /\ μ81 (si x78 ((z79 * d) + z44) (gi (gl a z63) z79)) (z79 + 1) < μ81 x78 z79)))))))) /\ (¬ (z79 < Na) -> ((((x59.length : Nat) + (1 : Nat) : Int) * 24 <= 140737488355328) /\ ((I64 (z63 + 1)) /\ (I65 (x59 ++ [x78]) (z63 + 1) /\ μ66 (x59 ++ [x78]) (z63 + 1) < μ66 x59 z63)))))))))) /\ (¬ (z63 < (a.length : Int)) -> ((I64 (z44 + 1)) /\ (I45 x59 (z44 + 1) /\ μ46 x59 (z44 + 1) < μ46 x39 z44))))))) /\ (¬ (z44 < d) -> ((I64 (Na * d)) /\ (Z7 Pa Ma ma x39 (Na * d) (fun (r104, r105, x106, c107, x108) => Q (r104, r105, x106, c107, x108, (0 : Int))))))))))))))))
theorem Jdl {w : World} {Q : Int × Int × List Int × Int × List (List Int) × Int -> Prop} {Pa : Int} {Ma : Int} {ma : List Int} {Na : Int} {a : List (List Int)} {d : Int} {Baf : Nat} {Aaf : Option Addr} {naf kaf : Nat} (haf : Rd Baf w 1 Aaf naf kaf (is ma)) {Aa : Option Addr} {na ka : Nat} (ha : Rl w Aa na ka a) (hv : Yg Pa Ma ma Na a d Q) :
    Calls Try.prog 15 #[.agg #[.int .i64 Pa, .int .i64 Ma, .slice Aaf naf kaf, .int .i64 Na, .slice Aa na ka], .int .i64 d] w <| Rt w fun v Qr => ∃ (p0 : Int) (m0 : Int) (f0 : List Int) (c0 : Int) (r0 : List (List Int)) (r1 : Int) (A0f : Option Addr) (k0f : Nat) (A0 : Option Addr) (k0 : Nat) (hs0 : Hs), v = .tuple #[.agg #[.int .i64 p0, .int .i64 m0, .slice A0f f0.length k0f, .int .i64 c0, .slice A0 r0.length k0], .int .i64 r1] /\ Qr = [.row 3 1 A0f f0.length k0f (is f0), mx 22 3 A0 r0.length k0 hs0 r0] /\ Q (p0, m0, f0, c0, r0, r1) := by
  have hnaf := haf.ilen
  subst hnaf
  have hna := ha.len
  subst hna
  obtain ⟨hsa, hHa⟩ := ha.heads
  refine Ji <| J8 (vs := [.agg #[nI Pa, nI Ma, nS Aaf ma kaf, nI Na, nS Aa a ka], nI d]) [.cell 4 27, .tmp 5] XF15 rfl rfl rfl rfl ?_
  have hS := Jp w
  unfold Yg at hv
  refine Jd 2 <| JA (z := 5) (cs := [nI Pa, nI Ma, nS Aaf ma kaf, nI Na, nS Aa a ka]) hS rfl rfl rfl rfl ?_
  intro g11 w12 hS
  refine SL.alloc (cs := [nI 0, nI 0, .slice none 0 0, nI 0, .slice none 0 0]) hS JJ rfl rfl ?_
  intro g13 w14 hS
  refine Jb 2 <| Jd 2 <| JC 1 JJ Qf hS rfl ⟨rfl, rfl⟩ rfl <| SL.call hS (Ja9 (hS.ro haf) (RlH.rl (RlH.ext hHa hS.ext)) hv) XF17 rfl XN17 rfl rfl ?_
  rintro _ _ w15 ⟨r16, rfl, rfl, hv⟩ hGw15 hS
  have hS := hS.n0
  refine Jb 2 <| Jd 6 <| Jf rfl (fun c17 => ?_) (fun c17 => ?_)
  .have hv := hv.1 (oT c17)
   refine Jd 2 <| JQ (cells := #[nI 0, nI 0, .slice none 0 0, nI 0, .slice none 0 0]) Jaz rfl rfl rfl <| Jo rfl rfl <| Jw (cs := [nI 0, nI 0, .slice none 0 0, nI 0, .slice none 0 0]) 0 hS rfl JJ rfl rfl rfl rfl rfl ?_
   intro w18 hS
   refine Jb 2 <| W.ret ?_
   have hS := hS.nil (e := 3) (z := 1)
   have hS := hS.mxNil 22 3
   have hm4 := hS.mxlen (i := 0) rfl
   have hS := hS.relenMx (i := 0) rfl hm4.symm
   change St _ _ _ _ [_, _, _, _] at hS
   repeat with_reducible first | refine blk.ret ?_ | refine exits.retI ?_
   refine endC.mk ⟨[.agg #[nI 0, nI 0, .slice none 0 0, nI 0, .slice none 0 0], nI r16], ⟨_, _, _, rfl, rfl, JB (cs := [nI 0, nI 0, .slice none 0 0, nI 0, .slice none 0 0]) JJ Qf rfl (Ju (hS.own (i := 2) rfl)), ⟨_, _, rfl, rfl, rfl⟩⟩, ?_⟩
   exact ⟨_, hS.ext, (hS.pick [1, 0] rfl).rows, J4 (hS.pick [1, 0] rfl).rows rfl, ⟨(0 : Int), (0 : Int), ([] : List Int), (0 : Int), ([] : List (List Int)), r16, none, 0, none, 0, (fun _ => (none, 0)), (by (try unfold nS); first | (rw [show (Value.slice none 0 0) = Value.slice none (([] : List (List Int))).length 0 from sm0 hm4.symm]; done) | (rw [show (Value.slice none 0 0) = Value.slice none (([] : List (List Int))).length 0 from sm0 hm4.symm]; rfl)), rfl, hv⟩⟩
  have hv := hv.2 (oF c17)
  refine Jj <| Jd 6 <| Jf rfl (fun c20 => ?_) (fun c20 => ?_)
  .have hv := hv.1 (oT c20)
   refine Jd 2 <| JQ (cells := #[nI 0, nI 0, .slice none 0 0, nI 0, .slice none 0 0]) Jaz rfl rfl rfl <| Jw (cs := [nI 0, nI 0, .slice none 0 0, nI 0, .slice none 0 0]) 0 hS rfl JJ rfl rfl rfl rfl rfl ?_
   intro w21 hS
   refine Jb 2 <| W.ret ?_
   have hS := hS.nil (e := 3) (z := 1)
   have hS := hS.mxNil 22 3
   have hm4 := hS.mxlen (i := 0) rfl
   have hS := hS.relenMx (i := 0) rfl hm4.symm
   change St _ _ _ _ [_, _, _, _] at hS
   repeat with_reducible first | refine blk.ret ?_ | refine exits.retI ?_
   refine endC.mk ⟨[.agg #[nI 0, nI 0, .slice none 0 0, nI 0, .slice none 0 0], nI 6], ⟨_, _, _, rfl, rfl, JB (cs := [nI 0, nI 0, .slice none 0 0, nI 0, .slice none 0 0]) JJ Qf rfl (Ju (hS.own (i := 2) rfl)), ⟨_, _, rfl, rfl, rfl⟩⟩, ?_⟩
   exact ⟨_, hS.ext, (hS.pick [1, 0] rfl).rows, J4 (hS.pick [1, 0] rfl).rows rfl, ⟨(0 : Int), (0 : Int), ([] : List Int), (0 : Int), ([] : List (List Int)), (6 : Int), none, 0, none, 0, (fun _ => (none, 0)), (by (try unfold nS); first | (rw [show (Value.slice none 0 0) = Value.slice none (([] : List (List Int))).length 0 from sm0 hm4.symm]; done) | (rw [show (Value.slice none 0 0) = Value.slice none (([] : List (List Int))).length 0 from sm0 hm4.symm]; rfl)), rfl, hv⟩⟩
  have hv := hv.2 (oF c20)
  refine Jj <| Jd 4 <| Jc (off := 3) Qm rfl rfl <| Jl 1 3 XU3 hS rfl rfl rfl ⟨rfl, rfl⟩ ?_
  obtain ⟨o23, hv⟩ := hv
  refine Jfj (r := ((64 : Int).tdiv Na)) rfl rfl o23.1 (wr o23.2) rfl <| Jb 2 <| Jf rfl (fun c24 => ?_) (fun c24 => ?_)
  .have hv := hv.1 (oT c24)
   refine Jd 2 <| JQ (cells := #[nI 0, nI 0, .slice none 0 0, nI 0, .slice none 0 0]) Jaz rfl rfl rfl <| Jw (cs := [nI 0, nI 0, .slice none 0 0, nI 0, .slice none 0 0]) 0 hS rfl JJ rfl rfl rfl rfl rfl ?_
   intro w25 hS
   refine Jb 2 <| W.ret ?_
   have hS := hS.nil (e := 3) (z := 1)
   have hS := hS.mxNil 22 3
   have hm4 := hS.mxlen (i := 0) rfl
   have hS := hS.relenMx (i := 0) rfl hm4.symm
   change St _ _ _ _ [_, _, _, _] at hS
   repeat with_reducible first | refine blk.ret ?_ | refine exits.retI ?_
   refine endC.mk ⟨[.agg #[nI 0, nI 0, .slice none 0 0, nI 0, .slice none 0 0], nI 4], ⟨_, _, _, rfl, rfl, JB (cs := [nI 0, nI 0, .slice none 0 0, nI 0, .slice none 0 0]) JJ Qf rfl (Ju (hS.own (i := 2) rfl)), ⟨_, _, rfl, rfl, rfl⟩⟩, ?_⟩
   exact ⟨_, hS.ext, (hS.pick [1, 0] rfl).rows, J4 (hS.pick [1, 0] rfl).rows rfl, ⟨(0 : Int), (0 : Int), ([] : List Int), (0 : Int), ([] : List (List Int)), (4 : Int), none, 0, none, 0, (fun _ => (none, 0)), (by (try unfold nS); first | (rw [show (Value.slice none 0 0) = Value.slice none (([] : List (List Int))).length 0 from sm0 hm4.symm]; done) | (rw [show (Value.slice none 0 0) = Value.slice none (([] : List (List Int))).length 0 from sm0 hm4.symm]; rfl)), rfl, hv⟩⟩
  have hv := hv.2 (oF c24)
  refine Jj <| Jd 9 <| W.block ?_
  obtain ⟨I45, μ46, hv, hk117⟩ := hv
  have hS := hS.mxNil 22 3
  have hm0 : 0 = ([] : List (List Int)).length := (hS.mxlen (i := 0) rfl).symm
  have hS := hS.relenMx (i := 0) rfl hm0
  change St _ _ _ _ [_, _, _] at hS
  refine Jz (σ := List (List Int) × Int × Option Addr × Nat × Hs) (fun q w1 => match q with | (x39, z44, A40, k41, hs42) => I45 x39 z44 /\ St TT w none w1 [mx 22 3 A40 x39.length k41 hs42 x39, .row 27 5 (nA g13) 1 1 [nI 0, nI 0, .slice none 0 0, nI 0, .slice none 0 0], .row 27 5 (nA g11) 1 1 [nI Pa, nI Ma, nS Aaf ma kaf, nI Na, nS Aa a ka]]) (fun (x39, z44, A40, k41, hs42) => [(1, nI d), (2, nP g11), (4, nP g13), (5, nI 0), (7, nS A40 x39 k41), (8, nI z44)]) (fun (x39, z44, A40, k41, hs42) => μ46 x39 z44) (([] : List (List Int)), (0 : Int), none, 0, (fun _ => (none, 0))) ⟨hv, hS⟩ ⟨rfl, rfl, rfl, rfl, (sm (by first | rfl | assumption | omega)), rfl, trivial⟩ ?_
  rintro ⟨x39, z44, A40, k41, hs42⟩ w47 ⟨hv, hS⟩
  have hv := hk117 x39 z44 hv
  refine Jd 7 <| Jf rfl (fun c48 => ?_) (fun c48 => ?_)
  .have hv := hv.1 (oT c48)
   refine Jj <| Jv <| W.block <| Jd 4 <| W.block ?_
   obtain ⟨I65, μ66, hv, hk101⟩ := hv
   refine Jz (σ := List (List Int) × Int × Option Addr × Nat × Hs) (fun q w1 => match q with | (x59, z63, A60, k61, hs62) => I65 x59 z63 /\ St TT w none w1 [mx 22 3 A60 x59.length k61 hs62 x59, .row 27 5 (nA g13) 1 1 [nI 0, nI 0, .slice none 0 0, nI 0, .slice none 0 0], .row 27 5 (nA g11) 1 1 [nI Pa, nI Ma, nS Aaf ma kaf, nI Na, nS Aa a ka]]) (fun (x59, z63, A60, k61, hs62) => [(1, nI d), (2, nP g11), (4, nP g13), (5, nI 0), (7, nS A60 x59 k61), (8, nI z44), (9, nI z63), (29, .bool (decide (z44 < d)))]) (fun (x59, z63, A60, k61, hs62) => μ66 x59 z63) (x39, (0 : Int), A40, k41, hs42) ⟨hv, hS⟩ ⟨rfl, rfl, rfl, rfl, rfl, rfl, rfl, rfl, trivial⟩ ?_
   rintro ⟨x59, z63, A60, k61, hs62⟩ w67 ⟨hv, hS⟩
   have hv := hk101 x59 z63 hv
   refine Jd 4 <| Jc (off := 4) QH rfl rfl <| Jl 2 4 Jr hS rfl rfl rfl ⟨rfl, rfl⟩ <| WL.len Jr rfl rfl <| Jb 2 <| Jf rfl (fun c68 => ?_) (fun c68 => ?_)
   .have hv := hv.1 (oT c68)
    refine Jj <| Jv <| W.block <| Jd 2 <| Jc (off := 3) Qm rfl rfl <| Jl 2 3 XU3 hS rfl rfl rfl ⟨rfl, rfl⟩ <| Jo rfl rfl ?_
    obtain ⟨o69, hv⟩ := hv
    refine WL.mul (r := (Na * d)) rfl rfl (wr o69) rfl ?_
    obtain ⟨o70, hv⟩ := hv
    refine QY (J := (Na * d)) hS Jn XE3 rfl rfl o70 (Q7 _) rfl ?_
    intro A71 w72 hS
    refine Jb 2 <| Jd 5 <| W.block ?_
    obtain ⟨I80, μ81, hv, hk99⟩ := hv
    refine Jz (σ := List Int × Int) (fun q w1 => match q with | (x78, z79) => I80 x78 z79 /\ St TT w none w1 [.row 3 1 A71 ((Na * d).toNat) ((Na * d).toNat) (is x78), mx 22 3 A60 x59.length k61 hs62 x59, .row 27 5 (nA g13) 1 1 [nI 0, nI 0, .slice none 0 0, nI 0, .slice none 0 0], .row 27 5 (nA g11) 1 1 [nI Pa, nI Ma, nS Aaf ma kaf, nI Na, nS Aa a ka]]) (fun (x78, z79) => [(1, nI d), (2, nP g11), (4, nP g13), (5, nI 0), (7, nS A60 x59 k61), (8, nI z44), (9, nI z63), (10, .slice A71 ((Na * d).toNat) ((Na * d).toNat)), (11, nI z79), (29, .bool (decide (z44 < d))), (36, .bool (decide (z63 < (a.length : Int))))]) (fun (x78, z79) => μ81 x78 z79) (List.replicate (Na * d).toNat (0 : Int), (0 : Int)) ⟨hv, hS⟩ ⟨rfl, rfl, rfl, rfl, rfl, rfl, rfl, rfl, rfl, rfl, rfl, trivial⟩ ?_
    rintro ⟨x78, z79⟩ w82 ⟨hv, hS⟩
    have hv := hk99 x78 z79 hv
    refine Jd 4 <| Jc (off := 3) Qm rfl rfl <| Jl 3 3 XU3 hS rfl rfl rfl ⟨rfl, rfl⟩ <| Jb 2 <| Jf rfl (fun c83 => ?_) (fun c83 => ?_)
    .have hv := hv.1 (oT c83)
     refine Jj <| Jv <| W.block <| Jd 4 ?_
     obtain ⟨o84, hv⟩ := hv
     refine WL.mul (r := (z79 * d)) rfl rfl (wr o84) rfl <| Jo rfl rfl ?_
     obtain ⟨o85, hv⟩ := hv
     refine WL.add (r := ((z79 * d) + z44)) rfl rfl (wr o85) rfl <| Jc (off := 4) QH rfl rfl <| Jl 3 4 Jr hS rfl rfl rfl ⟨rfl, rfl⟩ <| Jo rfl rfl ?_
     obtain ⟨o86, hv⟩ := hv
     refine JT Jr Js hHa rfl rfl o86 rfl <| Jk Jn rfl rfl (hS.cell (RlH.cell hHa o86)) rfl <| Jo rfl rfl ?_
     obtain ⟨o87, hv⟩ := hv
     refine Jg Jn XE3 (hS.ro (Qe hHa o86)) rfl rfl o87 rfl <| Jk XU3 rfl rfl (JH (hS.ro (Qe hHa o86)) o87) rfl ?_
     obtain ⟨o88, hv⟩ := hv
     refine Jg Jn XE3 (hS.rd (i := 0) rfl) rfl rfl o88 rfl <| JG (cs' := is (si x78 ((z79 * d) + z44) (gi (gl a z63) z79))) 0 ((z79 * d) + z44).toNat hS rfl XE3 rfl rfl rfl (QS (hS.rd (i := 0) rfl) o88) (Qp _ _ _) ?_
     intro w89 hS
     refine Ja <| Jd 2 ?_
     obtain ⟨o90, hv⟩ := hv
     refine WL.add (r := (z79 + 1)) rfl rfl (wr o90) rfl <| Jb 2 ?_
     exact ⟨(si x78 ((z79 * d) + z44) (gi (gl a z63) z79), (z79 + 1)), sp rfl, hv.2, rfl, hv.1, hS⟩
    have hv := hv.2 (oF c83)
    refine Jt <| Jd 3 <| Qu (vs := [.slice A71 ((Na * d).toNat) ((Na * d).toNat)]) hS Jr Js rfl rfl rfl rfl (by simp [Value.oneCell']) rfl ?_
    intro A91 w92 hS
    obtain ⟨o94, hv⟩ := hv
    have hS := hS.pick [2, 0, 1, 3, 4] rfl
    have hS := hS.pick [1, 2, 0, 3, 4] rfl
    have hS := YT (hS.rd (i := 1) rfl).ilen.symm hS
    change St _ _ _ _ [_, _, _, _] at hS
    refine QM hS Jr Js rfl rfl (apk o94).1 (apk o94).2 rfl ?_
    intro A95 k96 w97 hS
    refine Jb 2 <| Jd 2 ?_
    obtain ⟨o98, hv⟩ := hv
    refine WL.add (r := (z63 + 1)) rfl rfl (wr o98) rfl <| Jb 2 ?_
    exact ⟨(x59 ++ [x78], (z63 + 1), A95, k96, (Z5 x59.length hs62 (fun _ => (A71, (Na * d).toNat)))), sp rfl, hv.2, rfl, hv.1, hS⟩
   have hv := hv.2 (oF c68)
   refine Jt <| Jd 2 ?_
   obtain ⟨o100, hv⟩ := hv
   refine WL.add (r := (z44 + 1)) rfl rfl (wr o100) rfl <| Jb 2 ?_
   exact ⟨(x59, (z44 + 1), A60, k61, hs62), sp rfl, hv.2, rfl, hv.1, hS⟩
  have hv := hv.2 (oF c48)
  refine Jt <| Jd 2 <| Jc (off := 0) QI rfl rfl <| J0 (cs := [nI Pa, nI Ma, nS Aaf ma kaf]) JW JY rfl rfl (QR (hS.rd (i := 2) rfl) 0 rfl) rfl <| Jo rfl rfl <| Jc (off := 3) Qm rfl rfl <| Jl 2 3 XU3 hS rfl rfl rfl ⟨rfl, rfl⟩ <| Jo rfl rfl ?_
  obtain ⟨o102, hv⟩ := hv
  refine WL.mul (r := (Na * d)) rfl rfl (wr o102) rfl <| SL.call hS (Jf9 (hS.ro haf) (hS.rl (i := 0) rfl) hv) XF23 rfl XN23 rfl rfl ?_
  rintro _ _ w103 ⟨r104, r105, x106, c107, x108, A109, k110, A112, k113, hs114, rfl, rfl, hv⟩ hGw103 hS
  have hS := hS.n2
  refine Jw (cs := [nI r104, nI r105, nS A109 x106 k110, nI c107, nS A112 x108 k113]) 3 hS rfl JJ rfl rfl rfl rfl rfl ?_
  intro w116 hS
  refine Jb 2 <| W.ret ?_
  have hS := hS.pick [1, 0, 2, 3, 4] rfl
  change St _ _ _ _ [_, _, _, _, _] at hS
  repeat with_reducible first | refine blk.ret ?_ | refine exits.retI ?_
  refine endC.mk ⟨[.agg #[nI r104, nI r105, nS A109 x106 k110, nI c107, nS A112 x108 k113], nI 0], ⟨_, _, _, rfl, rfl, JB (cs := [nI r104, nI r105, nS A109 x106 k110, nI c107, nS A112 x108 k113]) JJ Qf rfl (Ju (hS.own (i := 3) rfl)), ⟨_, _, rfl, rfl, rfl⟩⟩, ?_⟩
  exact (hS.pick [1, 0] rfl).fin rfl ⟨r104, r105, x106, c107, x108, (0 : Int), A109, k110, A112, k113, hs114, rfl, rfl, hv⟩
end Go.Proofs.Ytgjloioccgcceaa
set_option linter.unusedSimpArgs false
set_option linter.unusedVariables false
set_option maxRecDepth 4000
set_option maxHeartbeats 4000000
namespace Go.Proofs.Ytgjloioccgcceaa
open Go.RowKit
def Z6 (y : List Int) (d : Int) (k : Int) (Q : List Int -> Prop) : Prop :=
  (I64 ((y.length : Int) * d)) /\ ((0 <= ((y.length : Int) * d) /\ ((y.length : Int) * d) * 8 <= 281474976710656 /\ ((y.length : Int) * d) <= 281474976710656) /\ (∃ (I22 : List Int -> Int -> Prop) (μ23 : List Int -> Int -> Nat), I22 (List.replicate ((y.length : Int) * d).toNat (0 : Int)) (0 : Int) /\ ∀ (x20 : List Int) (z21 : Int), (I22 x20 z21 -> (((z21 < (y.length : Int)) -> ((0 <= z21 /\ z21 < (y.length : Nat)) /\ ((I64 (z21 * d)) /\ ((I64 ((z21 * d) + k)) /\ ((0 <= ((z21 * d) + k) /\ ((z21 * d) + k) < (((y.length : Int) * d).toNat : Nat)) /\ ((I64 (z21 + 1)) /\ (I22 (si x20 ((z21 * d) + k) (gi y z21)) (z21 + 1) /\ μ23 (si x20 ((z21 * d) + k) (gi y z21)) (z21 + 1) < μ23 x20 z21))))))) /\ (¬ (z21 < (y.length : Int)) -> Q x20)))))
theorem Joi {w : World} {Q : List Int -> Prop} {y : List Int} {d : Int} {k : Int} {By : Nat} {Ay : Option Addr} {ny ky : Nat} (hy : Rd By w 1 Ay ny ky (is y)) (hv : Z6 y d k Q) :
    Calls Try.prog 33 #[.slice Ay ny ky, .int .i64 d, .int .i64 k] w <| Rt w fun v Qr => ∃ (x : List Int)  (A : Option Addr) (c : Nat), v = .slice A x.length c /\ Qr = [.row 3 1 A x.length c (is x)] /\ Q x := by
  have hny := hy.ilen
  subst hny
  refine Ji <| Jh (vs := [nS Ay y ky, nI d, nI k]) [6] XF33 rfl rfl rfl rfl ?_
  have hS := Jp w
  unfold Z6 at hv
  refine Jd 7 <| WL.len Jn rfl rfl <| Jo rfl rfl ?_
  obtain ⟨o11, hv⟩ := hv
  refine WL.mul (r := ((y.length : Int) * d)) rfl rfl (wr o11) rfl ?_
  obtain ⟨o12, hv⟩ := hv
  refine QY (J := ((y.length : Int) * d)) hS Jn XE3 rfl rfl o12 (Q7 _) rfl ?_
  intro A13 w14 hS
  refine Jb 2 <| Jd 4 <| WL.len Jn rfl rfl <| Jb 2 <| W.block ?_
  obtain ⟨I22, μ23, hv, hk32⟩ := hv
  refine Jz (σ := List Int × Int) (fun q w1 => match q with | (x20, z21) => I22 x20 z21 /\ St TT w none w1 [.row 3 1 A13 (((y.length : Int) * d).toNat) (((y.length : Int) * d).toNat) (is x20)]) (fun (x20, z21) => [(1, nI d), (2, nI k), (6, .slice none 0 0), (7, .slice A13 (((y.length : Int) * d).toNat) (((y.length : Int) * d).toNat)), (15, nS Ay y ky), (16, nI (y.length : Int)), (17, nI z21)]) (fun (x20, z21) => μ23 x20 z21) (List.replicate ((y.length : Int) * d).toNat (0 : Int), (0 : Int)) ⟨hv, hS⟩ ⟨rfl, rfl, rfl, rfl, rfl, rfl, rfl, trivial⟩ ?_
  rintro ⟨x20, z21⟩ w24 ⟨hv, hS⟩
  have hv := hk32 x20 z21 hv
  refine Jd 5 <| Jf rfl (fun c25 => ?_) (fun c25 => ?_)
  .have hv := hv.1 (oT c25)
   refine Jj <| Jv <| W.block <| Jd 3 ?_
   obtain ⟨o26, hv⟩ := hv
   refine Jg Jn XE3 (hS.ro hy) rfl rfl o26 rfl <| Jk XU3 rfl rfl (JH (hS.ro hy) o26) rfl <| Jb 3 <| Jd 4 ?_
   obtain ⟨o27, hv⟩ := hv
   refine WL.mul (r := (z21 * d)) rfl rfl (wr o27) rfl <| Jo rfl rfl ?_
   obtain ⟨o28, hv⟩ := hv
   refine WL.add (r := ((z21 * d) + k)) rfl rfl (wr o28) rfl <| Jo rfl rfl ?_
   obtain ⟨o29, hv⟩ := hv
   refine Jg Jn XE3 (hS.rd (i := 0) rfl) rfl rfl o29 rfl <| JG (cs' := is (si x20 ((z21 * d) + k) (gi y z21))) 0 ((z21 * d) + k).toNat hS rfl XE3 rfl rfl rfl (QS (hS.rd (i := 0) rfl) o29) (Qp _ _ _) ?_
   intro w30 hS
   refine Ja <| JD ?_
   obtain ⟨o31, hv⟩ := hv
   refine WL.add (r := (z21 + 1)) rfl rfl (wr o31) rfl <| Jb 2 ?_
   exact ⟨(si x20 ((z21 * d) + k) (gi y z21), (z21 + 1)), sp rfl, hv.2, rfl, hv.1, hS⟩
  have hv := hv.2 (oF c25)
  refine Jt <| Jd 5 <| W.ret ?_
  have hm := (hS.rd (i := 0) rfl).ilen
  have hS := hS.relen (i := 0) rfl hm.symm
  refine ⟨_, rfl, Fin.nil ?_⟩
  exact ⟨_, hS.ext, (hS.pick [0] rfl).rows, J4 (hS.pick [0] rfl).rows rfl, ⟨x20, A13, ((y.length : Int) * d).toNat, (by rw [hm]), rfl, hv⟩⟩
end Go.Proofs.Ytgjloioccgcceaa
set_option linter.unusedSimpArgs false
set_option linter.unusedVariables false
set_option maxRecDepth 4000
set_option maxHeartbeats 4000000
namespace Go.Proofs.Ytgjloioccgcceaa
open Go.RowKit
def YD (Pa : Int) (Ma : Int) (ma : List Int) (Na : Int) (a : List (List Int)) (d : Int) (Q : Int × Int × List Int × Int × List (List Int) × Int -> Prop) : Prop :=
  YR ([(Pa, Ma, ma, Na, a)] : List Ct) (fun r19 => ((r19 ≠ 0) -> (Q ((0 : Int), (0 : Int), ([] : List Int), (0 : Int), ([] : List (List Int)), r19))) /\ (¬ (r19 ≠ 0) -> (((d < 1) -> (Q ((0 : Int), (0 : Int), ([] : List Int), (0 : Int), ([] : List (List Int)), (6 : Int)))) /\ (¬ (d < 1) -> ((Na ≠ 0 /\ I64 ((64 : Int).tdiv Na)) /\ (((((64 : Int).tdiv Na) < d) -> (Q ((0 : Int), (0 : Int), ([] : List Int), (0 : Int), ([] : List (List Int)), (4 : Int)))) /\ (¬ (((64 : Int).tdiv Na) < d) -> (∃ (I48 : List (List Int) -> Int -> Prop) (μ49 : List (List Int) -> Int -> Nat), I48 ([] : List (List Int)) (0 : Int) /\ ∀ (x42 : List (List Int)) (z47 : Int), (I48 x42 z47 -> (((z47 < (a.length : Int)) -> ((0 <= z47 /\ z47 < (a.length : Nat)) /\ (∃ (I68 : List (List Int) -> Int -> Prop) (μ69 : List (List Int) -> Int -> Nat), I68 x42 (0 : Int) /\ ∀ (x63 : List (List Int)) (z67 : Int), (I68 x63 z67 -> (((z67 < d) -> (Z6 (gl a z47) d z67 (fun x73 => (((x63.length : Nat) + (1 : Nat) : Int) * 24 <= 140737488355328) /\ ((I64 (z67 + 1)) /\ (I68 (x63 ++ [x73]) (z67 + 1) /\ μ69 (x63 ++ [x73]) (z67 + 1) < μ69 x63 z67))))) /\ (¬ (z67 < d) -> ((I64 (z47 + 1)) /\ (I48 x63 (z47 + 1) /\ μ49 x63 (z47 + 1) < μ49 x42 z47)))))))) /\ (¬ (z47 < (a.length : Int)) -> ((I64 (Na * d)) /\ (Q2 Pa Ma ma (Na * d) x42 (fun (r89, r90, x91, c92, x93, r94) => Q (r89, r90, x91, c92, x93, r94)))))))))))))))
theorem Jfx {w : World} {Q : Int × Int × List Int × Int × List (List Int) × Int -> Prop} {Pa : Int} {Ma : Int} {ma : List Int} {Na : Int} {a : List (List Int)} {d : Int} {Baf : Nat} {Aaf : Option Addr} {naf kaf : Nat} (haf : Rd Baf w 1 Aaf naf kaf (is ma)) {Aa : Option Addr} {na ka : Nat} (ha : Rl w Aa na ka a) (hv : YD Pa Ma ma Na a d Q) :
    Calls Try.prog 14 #[.agg #[.int .i64 Pa, .int .i64 Ma, .slice Aaf naf kaf, .int .i64 Na, .slice Aa na ka], .int .i64 d] w <| Rt w fun v Qr => ∃ (p0 : Int) (m0 : Int) (f0 : List Int) (c0 : Int) (r0 : List (List Int)) (r1 : Int) (A0f : Option Addr) (k0f : Nat) (A0 : Option Addr) (k0 : Nat) (hs0 : Hs), v = .tuple #[.agg #[.int .i64 p0, .int .i64 m0, .slice A0f f0.length k0f, .int .i64 c0, .slice A0 r0.length k0], .int .i64 r1] /\ Qr = [.row 3 1 A0f f0.length k0f (is f0), mx 22 3 A0 r0.length k0 hs0 r0] /\ Q (p0, m0, f0, c0, r0, r1) := by
  have hnaf := haf.ilen
  subst hnaf
  have hna := ha.len
  subst hna
  obtain ⟨hsa, hHa⟩ := ha.heads
  refine Ji <| J8 (vs := [.agg #[nI Pa, nI Ma, nS Aaf ma kaf, nI Na, nS Aa a ka], nI d]) [.cell 4 27, .tmp 5] XF14 rfl rfl rfl rfl ?_
  have hS := Jp w
  unfold YD at hv
  refine Jd 2 <| JA (z := 5) (cs := [nI Pa, nI Ma, nS Aaf ma kaf, nI Na, nS Aa a ka]) hS rfl rfl rfl rfl ?_
  intro g11 w12 hS
  refine SL.alloc (cs := [nI 0, nI 0, .slice none 0 0, nI 0, .slice none 0 0]) hS JJ rfl rfl ?_
  intro g13 w14 hS
  refine Jb 2 <| Jd 3 <| JC 1 JJ Qf hS rfl ⟨rfl, rfl⟩ rfl <| Jat (cells := [nI Pa, nI Ma, nS Aaf ma kaf, nI Na, nS Aa a ka]) hS Jih JJ rfl ⟨_, rfl, by kernel_rfl⟩ rfl rfl ?_
  intro A15 w16 hS
  refine SL.call hS (Jgd (Rc.one (a := (Pa, Ma, ma, Na, a)) (Ha := ((Aaf, kaf), (Aa, ka), hsa)) (hS.rd (i := 0) rfl) ⟨⟨_, (Jav (hS.ro haf))⟩, (RlH.ext hHa hS.ext)⟩) hv) XF25 rfl XN25 rfl rfl ?_
  rintro _ _ w18 ⟨r19, rfl, rfl, hv⟩ hGw18 hS
  have hS := hS.n0
  refine Jb 2 <| Jd 5 <| Jf rfl (fun c20 => ?_) (fun c20 => ?_)
  .have hv := hv.1 (oT c20)
   refine Jd 2 <| JQ (cells := #[nI 0, nI 0, .slice none 0 0, nI 0, .slice none 0 0]) Jaz rfl rfl rfl <| Jo rfl rfl <| Jw (cs := [nI 0, nI 0, .slice none 0 0, nI 0, .slice none 0 0]) 1 hS rfl JJ rfl rfl rfl rfl rfl ?_
   intro w21 hS
   refine Jb 2 <| W.ret ?_
   have hS := hS.nil (e := 3) (z := 1)
   have hS := hS.mxNil 22 3
   have hm4 := hS.mxlen (i := 0) rfl
   have hS := hS.relenMx (i := 0) rfl hm4.symm
   change St _ _ _ _ [_, _, _, _, _] at hS
   repeat with_reducible first | refine blk.ret ?_ | refine exits.retI ?_
   refine endC.mk ⟨[.agg #[nI 0, nI 0, .slice none 0 0, nI 0, .slice none 0 0], nI r19], ⟨_, _, _, rfl, rfl, JB (cs := [nI 0, nI 0, .slice none 0 0, nI 0, .slice none 0 0]) JJ Qf rfl (Ju (hS.own (i := 3) rfl)), ⟨_, _, rfl, rfl, rfl⟩⟩, ?_⟩
   exact ⟨_, hS.ext, (hS.pick [1, 0] rfl).rows, J4 (hS.pick [1, 0] rfl).rows rfl, ⟨(0 : Int), (0 : Int), ([] : List Int), (0 : Int), ([] : List (List Int)), r19, none, 0, none, 0, (fun _ => (none, 0)), (by (try unfold nS); first | (rw [show (Value.slice none 0 0) = Value.slice none (([] : List (List Int))).length 0 from sm0 hm4.symm]; done) | (rw [show (Value.slice none 0 0) = Value.slice none (([] : List (List Int))).length 0 from sm0 hm4.symm]; rfl)), rfl, hv⟩⟩
  have hv := hv.2 (oF c20)
  refine Jj <| Jd 6 <| Jf rfl (fun c23 => ?_) (fun c23 => ?_)
  .have hv := hv.1 (oT c23)
   refine Jd 2 <| JQ (cells := #[nI 0, nI 0, .slice none 0 0, nI 0, .slice none 0 0]) Jaz rfl rfl rfl <| Jw (cs := [nI 0, nI 0, .slice none 0 0, nI 0, .slice none 0 0]) 1 hS rfl JJ rfl rfl rfl rfl rfl ?_
   intro w24 hS
   refine Jb 2 <| W.ret ?_
   have hS := hS.nil (e := 3) (z := 1)
   have hS := hS.mxNil 22 3
   have hm4 := hS.mxlen (i := 0) rfl
   have hS := hS.relenMx (i := 0) rfl hm4.symm
   change St _ _ _ _ [_, _, _, _, _] at hS
   repeat with_reducible first | refine blk.ret ?_ | refine exits.retI ?_
   refine endC.mk ⟨[.agg #[nI 0, nI 0, .slice none 0 0, nI 0, .slice none 0 0], nI 6], ⟨_, _, _, rfl, rfl, JB (cs := [nI 0, nI 0, .slice none 0 0, nI 0, .slice none 0 0]) JJ Qf rfl (Ju (hS.own (i := 3) rfl)), ⟨_, _, rfl, rfl, rfl⟩⟩, ?_⟩
   exact ⟨_, hS.ext, (hS.pick [1, 0] rfl).rows, J4 (hS.pick [1, 0] rfl).rows rfl, ⟨(0 : Int), (0 : Int), ([] : List Int), (0 : Int), ([] : List (List Int)), (6 : Int), none, 0, none, 0, (fun _ => (none, 0)), (by (try unfold nS); first | (rw [show (Value.slice none 0 0) = Value.slice none (([] : List (List Int))).length 0 from sm0 hm4.symm]; done) | (rw [show (Value.slice none 0 0) = Value.slice none (([] : List (List Int))).length 0 from sm0 hm4.symm]; rfl)), rfl, hv⟩⟩
  have hv := hv.2 (oF c23)
  refine Jj <| Jd 4 <| Jc (off := 3) Qm rfl rfl <| Jl 2 3 XU3 hS rfl rfl rfl ⟨rfl, rfl⟩ ?_
  obtain ⟨o26, hv⟩ := hv
  refine Jfj (r := ((64 : Int).tdiv Na)) rfl rfl o26.1 (wr o26.2) rfl <| Jb 2 <| Jf rfl (fun c27 => ?_) (fun c27 => ?_)
  .have hv := hv.1 (oT c27)
   refine Jd 2 <| JQ (cells := #[nI 0, nI 0, .slice none 0 0, nI 0, .slice none 0 0]) Jaz rfl rfl rfl <| Jw (cs := [nI 0, nI 0, .slice none 0 0, nI 0, .slice none 0 0]) 1 hS rfl JJ rfl rfl rfl rfl rfl ?_
   intro w28 hS
   refine Jb 2 <| W.ret ?_
   have hS := hS.nil (e := 3) (z := 1)
   have hS := hS.mxNil 22 3
   have hm4 := hS.mxlen (i := 0) rfl
   have hS := hS.relenMx (i := 0) rfl hm4.symm
   change St _ _ _ _ [_, _, _, _, _] at hS
   repeat with_reducible first | refine blk.ret ?_ | refine exits.retI ?_
   refine endC.mk ⟨[.agg #[nI 0, nI 0, .slice none 0 0, nI 0, .slice none 0 0], nI 4], ⟨_, _, _, rfl, rfl, JB (cs := [nI 0, nI 0, .slice none 0 0, nI 0, .slice none 0 0]) JJ Qf rfl (Ju (hS.own (i := 3) rfl)), ⟨_, _, rfl, rfl, rfl⟩⟩, ?_⟩
   exact ⟨_, hS.ext, (hS.pick [1, 0] rfl).rows, J4 (hS.pick [1, 0] rfl).rows rfl, ⟨(0 : Int), (0 : Int), ([] : List Int), (0 : Int), ([] : List (List Int)), (4 : Int), none, 0, none, 0, (fun _ => (none, 0)), (by (try unfold nS); first | (rw [show (Value.slice none 0 0) = Value.slice none (([] : List (List Int))).length 0 from sm0 hm4.symm]; done) | (rw [show (Value.slice none 0 0) = Value.slice none (([] : List (List Int))).length 0 from sm0 hm4.symm]; rfl)), rfl, hv⟩⟩
  have hv := hv.2 (oF c27)
  refine Jj <| Jd 7 <| Jc (off := 4) QH rfl rfl <| Jl 2 4 Jr hS rfl rfl rfl ⟨rfl, rfl⟩ <| WL.len Jr rfl rfl <| Jb 2 <| W.block ?_
  obtain ⟨I48, μ49, hv, hk103⟩ := hv
  have hS := hS.mxNil 22 3
  have hm0 : 0 = ([] : List (List Int)).length := (hS.mxlen (i := 0) rfl).symm
  have hS := hS.relenMx (i := 0) rfl hm0
  change St _ _ _ _ [_, _, _, _] at hS
  refine Jz (σ := List (List Int) × Int × Option Addr × Nat × Hs) (fun q w1 => match q with | (x42, z47, A43, k44, hs45) => I48 x42 z47 /\ St TT w none w1 [mx 22 3 A43 x42.length k44 hs45 x42, .row 27 5 A15 1 1 [nI Pa, nI Ma, nS Aaf ma kaf, nI Na, nS Aa a ka], .row 27 5 (nA g13) 1 1 [nI 0, nI 0, .slice none 0 0, nI 0, .slice none 0 0], .row 27 5 (nA g11) 1 1 [nI Pa, nI Ma, nS Aaf ma kaf, nI Na, nS Aa a ka]]) (fun (x42, z47, A43, k44, hs45) => [(1, nI d), (2, nP g11), (4, nP g13), (5, nI 0), (7, nS A43 x42 k44), (28, nS Aa a ka), (29, nI (a.length : Int)), (30, nI z47)]) (fun (x42, z47, A43, k44, hs45) => μ49 x42 z47) (([] : List (List Int)), (0 : Int), none, 0, (fun _ => (none, 0))) ⟨hv, hS⟩ ⟨rfl, rfl, rfl, rfl, (sm (by first | rfl | assumption | omega)), rfl, rfl, rfl, trivial⟩ ?_
  rintro ⟨x42, z47, A43, k44, hs45⟩ w50 ⟨hv, hS⟩
  have hv := hk103 x42 z47 hv
  refine Jd 5 <| Jf rfl (fun c51 => ?_) (fun c51 => ?_)
  .have hv := hv.1 (oT c51)
   refine Jj <| Jv <| W.block <| Jd 2 ?_
   obtain ⟨o52, hv⟩ := hv
   refine JT Jr Js hHa rfl rfl o52 rfl <| Jk Jn rfl rfl (hS.cell (RlH.cell hHa o52)) rfl <| Jb 2 <| Jd 5 <| W.block ?_
   obtain ⟨I68, μ69, hv, hk86⟩ := hv
   refine Jz (σ := List (List Int) × Int × Option Addr × Nat × Hs) (fun q w1 => match q with | (x63, z67, A64, k65, hs66) => I68 x63 z67 /\ St TT w none w1 [mx 22 3 A64 x63.length k65 hs66 x63, .row 27 5 A15 1 1 [nI Pa, nI Ma, nS Aaf ma kaf, nI Na, nS Aa a ka], .row 27 5 (nA g13) 1 1 [nI 0, nI 0, .slice none 0 0, nI 0, .slice none 0 0], .row 27 5 (nA g11) 1 1 [nI Pa, nI Ma, nS Aaf ma kaf, nI Na, nS Aa a ka]]) (fun (x63, z67, A64, k65, hs66) => [(1, nI d), (2, nP g11), (4, nP g13), (5, nI 0), (7, nS A64 x63 k65), (9, .slice ((hsa z47.toNat).1) ((gl a z47).length) ((hsa z47.toNat).2)), (28, nS Aa a ka), (29, nI (a.length : Int)), (30, nI z47), (31, .bool (decide (z47 < (a.length : Int)))), (34, nI d), (35, nI z67)]) (fun (x63, z67, A64, k65, hs66) => μ69 x63 z67) (x42, (0 : Int), A43, k44, hs45) ⟨hv, hS⟩ ⟨rfl, rfl, rfl, rfl, rfl, rfl, rfl, rfl, rfl, rfl, rfl, rfl, trivial⟩ ?_
   rintro ⟨x63, z67, A64, k65, hs66⟩ w70 ⟨hv, hS⟩
   have hv := hk86 x63 z67 hv
   refine Jd 5 <| Jf rfl (fun c71 => ?_) (fun c71 => ?_)
   .have hv := hv.1 (oT c71)
    refine Jj <| Jv <| W.block <| Jd 10 <| SL.call hS (Joi (hS.ro (Qe hHa o52)) hv) XF33 rfl XN33 rfl rfl ?_
    rintro _ _ w72 ⟨x73, A74, k75, rfl, rfl, hv⟩ hGw72 hS
    have hS := hS.n1
    refine Qu (vs := [nS A74 x73 k75]) hS Jr Js rfl rfl rfl rfl (by simp [Value.oneCell']) rfl ?_
    intro A77 w78 hS
    obtain ⟨o80, hv⟩ := hv
    have hS := hS.pick [2, 0, 1, 3, 4, 5] rfl
    have hS := hS.pick [1, 2, 0, 3, 4, 5] rfl
    have hS := YT (hS.rd (i := 1) rfl).ilen.symm hS
    change St _ _ _ _ [_, _, _, _, _] at hS
    refine QM hS Jr Js rfl rfl (apk o80).1 (apk o80).2 rfl ?_
    intro A81 k82 w83 hS
    refine Jb 2 <| JD ?_
    obtain ⟨o84, hv⟩ := hv
    refine WL.add (r := (z67 + 1)) rfl rfl (wr o84) rfl <| Jb 2 ?_
    exact ⟨(x63 ++ [x73], (z67 + 1), A81, k82, (Z5 x63.length hs66 (fun _ => (A74, k75)))), sp rfl, hv.2, rfl, hv.1, hS⟩
   have hv := hv.2 (oF c71)
   refine Jt <| JD ?_
   obtain ⟨o85, hv⟩ := hv
   refine WL.add (r := (z47 + 1)) rfl rfl (wr o85) rfl <| Jb 2 ?_
   exact ⟨(x63, (z47 + 1), A64, k65, hs66), sp rfl, hv.2, rfl, hv.1, hS⟩
  have hv := hv.2 (oF c51)
  refine Jt <| Jd 2 <| Jc (off := 0) QI rfl rfl <| J0 (cs := [nI Pa, nI Ma, nS Aaf ma kaf]) JW JY rfl rfl (QR (hS.rd (i := 3) rfl) 0 rfl) rfl <| Jc (off := 3) Qm rfl rfl <| Jl 3 3 XU3 hS rfl rfl rfl ⟨rfl, rfl⟩ <| Jo rfl rfl ?_
  obtain ⟨o87, hv⟩ := hv
  refine WL.mul (r := (Na * d)) rfl rfl (wr o87) rfl <| Jo rfl rfl <| SL.call hS (Zw (hS.ro haf) (hS.rl (i := 0) rfl) hv) XF28 rfl XN28 rfl rfl ?_
  rintro _ _ w88 ⟨r89, r90, x91, c92, x93, r94, A95, k96, A98, k99, hs100, rfl, rfl, hv⟩ hGw88 hS
  have hS := hS.n2
  refine Jb 2 <| Jw (cs := [nI r89, nI r90, nS A95 x91 k96, nI c92, nS A98 x93 k99]) 4 hS rfl JJ rfl rfl rfl rfl rfl ?_
  intro w102 hS
  refine Jb 2 <| W.ret ?_
  have hS := hS.pick [1, 0, 2, 3, 4, 5] rfl
  change St _ _ _ _ [_, _, _, _, _, _] at hS
  repeat with_reducible first | refine blk.ret ?_ | refine exits.retI ?_
  refine endC.mk ⟨[.agg #[nI r89, nI r90, nS A95 x91 k96, nI c92, nS A98 x93 k99], nI r94], ⟨_, _, _, rfl, rfl, JB (cs := [nI r89, nI r90, nS A95 x91 k96, nI c92, nS A98 x93 k99]) JJ Qf rfl (Ju (hS.own (i := 4) rfl)), ⟨_, _, rfl, rfl, rfl⟩⟩, ?_⟩
  exact (hS.pick [1, 0] rfl).fin rfl ⟨r89, r90, x91, c92, x93, r94, A95, k96, A98, k99, hs100, rfl, rfl, hv⟩
end Go.Proofs.Ytgjloioccgcceaa
set_option linter.unusedSimpArgs false
set_option linter.unusedVariables false
set_option maxRecDepth 4000
set_option maxHeartbeats 4000000
namespace Go.Proofs.Ytgjloioccgcceaa
open Go.RowKit
def YS (Pa : Int) (Ma : Int) (ma : List Int) (Na : Int) (a : List (List Int)) (d : Int) (Q : Bool -> Prop) : Prop :=
  Jaq ([(Pa, Ma, ma, Na, a)] : List Ct) (fun r17 => (((!r17) = true) -> Q true) /\ ((!r17) = false -> (YD Pa Ma ma Na a d (fun (r20, r21, x22, c23, x24, r25) => Yg Pa Ma ma Na a d (fun (r37, r38, x39, c40, x41, r42) => Q3 r20 r21 x22 c23 x24 r25 r37 r38 x39 c40 x41 r42 (fun r54 => Q r54))))))
theorem Jdo {w : World} {Q : Bool -> Prop} {Pa : Int} {Ma : Int} {ma : List Int} {Na : Int} {a : List (List Int)} {d : Int} {Baf : Nat} {Aaf : Option Addr} {naf kaf : Nat} (haf : Rd Baf w 1 Aaf naf kaf (is ma)) {Aa : Option Addr} {na ka : Nat} (ha : Rl w Aa na ka a) (hv : YS Pa Ma ma Na a d Q) :
    Calls Try.prog 5 #[.agg #[.int .i64 Pa, .int .i64 Ma, .slice Aaf naf kaf, .int .i64 Na, .slice Aa na ka], .int .i64 d] w <| Rt w fun v Qr => ∃ (r0 : Bool), v = .bool r0 /\ Qr = [] /\ Q r0 := by
  have hnaf := haf.ilen
  subst hnaf
  have hna := ha.len
  subst hna
  obtain ⟨hsa, hHa⟩ := ha.heads
  refine Ji <| Jh (vs := [.agg #[nI Pa, nI Ma, nS Aaf ma kaf, nI Na, nS Aa a ka], nI d]) [4] XF5 rfl rfl rfl rfl ?_
  have hS := Jp w
  unfold YS at hv
  refine Jd 2 <| JA (z := 5) (cs := [nI Pa, nI Ma, nS Aaf ma kaf, nI Na, nS Aa a ka]) hS rfl rfl rfl rfl ?_
  intro g11 w12 hS
  refine Jb 2 <| Jd 3 <| JC 0 JJ Qf hS rfl ⟨rfl, rfl⟩ rfl <| Jat (cells := [nI Pa, nI Ma, nS Aaf ma kaf, nI Na, nS Aa a ka]) hS Jih JJ rfl ⟨_, rfl, by kernel_rfl⟩ rfl rfl ?_
  intro A13 w14 hS
  refine SL.call hS (Jjj (Rc.one (a := (Pa, Ma, ma, Na, a)) (Ha := ((Aaf, kaf), (Aa, ka), hsa)) (hS.rd (i := 0) rfl) ⟨⟨_, (Jav (hS.ro haf))⟩, (RlH.ext hHa hS.ext)⟩) hv) XF8 rfl XN8 rfl rfl ?_
  rintro _ _ w16 ⟨r17, rfl, rfl, hv⟩ hGw16 hS
  have hS := hS.n0
  refine Jb 2 <| Jf rfl (fun c18 => ?_) (fun c18 => ?_)
  .have hv := hv.1 (c18)
   refine Jd 4 <| W.ret <| ⟨_, rfl, Fin.nil ?_⟩
   exact (hS.pick [] rfl).fin rfl ⟨true, rfl, rfl, hv⟩
  have hv := hv.2 (c18)
  refine Jj <| Jd 2 <| JC 1 JJ Qf hS rfl ⟨rfl, rfl⟩ rfl <| Jo rfl rfl <| SL.call hS (Jfx (hS.ro haf) (RlH.rl (RlH.ext hHa hS.ext)) hv) XF14 rfl XN14 rfl rfl ?_
  rintro _ _ w19 ⟨r20, r21, x22, c23, x24, r25, A26, k27, A29, k30, hs31, rfl, rfl, hv⟩ hGw19 hS
  have hS := hS.n2
  refine Jb 3 <| SL.alloc (cs := [nI 0, nI 0, .slice none 0 0, nI 0, .slice none 0 0]) hS JJ rfl rfl ?_
  intro g33 w34 hS
  refine Jw (cs := [nI r20, nI r21, nS A26 x22 k27, nI c23, nS A29 x24 k30]) 0 hS rfl JJ rfl rfl rfl rfl rfl ?_
  intro w35 hS
  refine Jb 2 <| Jd 2 <| JC 4 JJ Qf hS rfl ⟨rfl, rfl⟩ rfl <| Jo rfl rfl <| SL.call hS (Jdl (hS.ro haf) (RlH.rl (RlH.ext hHa hS.ext)) hv) XF15 rfl XN15 rfl rfl ?_
  rintro _ _ w36 ⟨r37, r38, x39, c40, x41, r42, A43, k44, A46, k47, hs48, rfl, rfl, hv⟩ hGw36 hS
  have hS := hS.n2
  refine Jb 3 <| SL.alloc (cs := [nI 0, nI 0, .slice none 0 0, nI 0, .slice none 0 0]) hS JJ rfl rfl ?_
  intro g50 w51 hS
  refine Jw (cs := [nI r37, nI r38, nS A43 x39 k44, nI c40, nS A46 x41 k47]) 0 hS rfl JJ rfl rfl rfl rfl rfl ?_
  intro w52 hS
  refine Jb 2 <| Jd 2 <| JC 3 JJ Qf hS rfl ⟨rfl, rfl⟩ rfl <| Jo rfl rfl <| JC 0 JJ Qf hS rfl ⟨rfl, rfl⟩ rfl <| Jo rfl rfl <| SL.call hS (Jey (hS.rd (i := 4) rfl) (hS.rl (i := 5) rfl) (hS.rd (i := 1) rfl) (hS.rl (i := 2) rfl) hv) XF11 rfl XN11 rfl rfl ?_
  rintro _ _ w53 ⟨r54, rfl, rfl, hv⟩ hGw53 hS
  have hS := hS.n0
  refine Jb 2 <| W.ret <| ⟨_, rfl, Fin.nil ?_⟩
  exact (hS.pick [] rfl).fin rfl ⟨r54, rfl, rfl, hv⟩
end Go.Proofs.Ytgjloioccgcceaa
set_option linter.unusedVariables false
set_option linter.unusedSimpArgs false
namespace Go.Proofs.Ytgjloioccgcceaa
section
variable {p m v : Nat} {P M : Int} {mf : List Int} {X Y : List (List Int)} {C : Int} {w : Nat}
def Ann (p m : Nat) (f : (Nat -> Nat) -> Nat) (X : List (List Int)) : Prop := ∀ t, t < X.length -> f (en p m (row X t)) = 0
theorem Yp (hF : FV P M mf p m v) (l : List Int) (c : Nat) : en p m l c < p ^ m := J6 (by have := hF.ring.q2; omega) _
theorem en_sc (hF : FV P M mf p m v) {l : List Int} {x : Int} {c : Nat} (hc : c < l.length) : en p m (sc p m v x l) c = Jy p m (dv p v) (inE (p ^ m) x) (en p m l c) := by
  unfold en; rw [Jeh hc]; unfold Ml; rw [QB (hF.ring.Ml _ _)]
theorem Lin.adx {f : (Nat -> Nat) -> Nat} (L : Lin p m v w f) (hF : FV P M mf p m v) {a o : List Int} {x : Int} (ha : a.length = w) : f (en p m (adx p m v a x o)) = JZ p m (f (en p m a)) (Jy p m (dv p v) (inE (p ^ m) x) (f (en p m o))) := by
  rw [<- L.ad (Yp hF a) (Yp hF o) (J6 (by have := hF.ring.q2; omega) x)]
  exact L.cg fun c hc => Jrw hF (by omega)
theorem Lin.sc {f : (Nat -> Nat) -> Nat} (L : Lin p m v w f) (hF : FV P M mf p m v) {l : List Int} {x : Int} (hl : l.length = w) : f (en p m (sc p m v x l)) = Jy p m (dv p v) (inE (p ^ m) x) (f (en p m l)) := by
  rw [<- L.ml (Yp hF l) (J6 (by have := hF.ring.q2; omega) x)]
  exact L.cg fun c hc => en_sc hF (by omega)
theorem Juy {f : (Nat -> Nat) -> Nat} {r cur : Nat} (hr : r < X.length) (hc : cur < X.length) (h : Ann p m f (swq X r cur)) : Ann p m f X := fun t ht => by
  rw [Ann, JS] at h
  by_cases h1 : t = r
  . have := h cur hc; rw [Zt hr hc, if_pos rfl] at this; rw [h1]; exact this
  . by_cases h2 : t = cur
    . have := h r hr; rw [Zt hr hc] at this
      rw [if_neg (fun e => h1 (h2.trans e.symm)), if_pos rfl] at this; rw [h2]; exact this
    . have := h t ht; rw [Zt hr hc, if_neg h2, if_neg h1] at this; exact this
theorem Juz {f : (Nat -> Nat) -> Nat} (L : Lin p m v w f) (hF : FV P M mf p m v) {cur : Nat} {e : Int} {z : Nat} (hz : z < p ^ m) (he : Jy p m (dv p v) z (inE (p ^ m) (Iv p m v e)) = 1) (hc : cur < X.length) (hw : (row X cur).length = w) (h : Ann p m f (scq p m v X cur e)) : Ann p m f X := fun t ht => by
  have R := hF.ring
  have q1 : 1 < p ^ m := R.q2
  rw [Ann, Qs] at h
  have h3 := h t ht
  rw [Jg5 hc] at h3
  split at h3
  . rename_i h1; subst h1
    rw [L.sc hF hw] at h3
    have hi := J6 (q := p ^ m) (by omega) (Iv p m v e)
    have h4 := R.Ma hz hi (L.lt (en p m (row X t)))
    rw [he, h3, R.M0 hz, R.Mc q1 (L.lt _), R.M1 (L.lt _)] at h4
    exact h4
  . exact h3
theorem Ju0 {f : (Nat -> Nat) -> Nat} (L : Lin p m v w f) (hF : FV P M mf p m v) {cur : Nat} {g : Nat -> Int} (hc : cur < X.length) (hw : ∀ t, t < X.length -> (row X t).length = w) (h : Ann p m f (clr p m v g cur X)) : Ann p m f X := fun t ht => by
  have R := hF.ring
  have hq : 0 < p ^ m := by have := R.q2; omega
  rw [Ann, YA] at h
  have hcur := h cur hc
  rw [YX hc, if_pos rfl] at hcur
  have h3 := h t ht
  rw [YX ht] at h3
  split at h3
  . exact h3
  . rw [L.adx hF (hw t ht), hcur, R.M0 (J6 hq _), R.Az (L.lt _)] at h3; exact h3
/-- what the rows of a step's matrix are taken to 0 by takes the rows before to 0 -/
theorem Jsf {g : Nat} (K : Gn (p ^ m) (Jy p m (dv p v)) g) (hF : FV P M mf p m v) {f : (Nat -> Nat) -> Nat} (L : Lin p m v w f) {S : ES} {c : Nat} (he : Els p m S.X) (hw : ∀ t, t < S.X.length -> (row S.X t).length = w) (h : Ann p m f (QU p m v S c).X) : Ann p m f S.X := by
  unfold QU at h
  split at h
  . rename_i h1
    obtain ⟨hc, hr⟩ := h1
    rw [Ja5] at h
    have hw1 : ∀ t, t < (swq S.X (nz S.X c S.pv.length) S.pv.length).length -> (row (swq S.X (nz S.X c S.pv.length) S.pv.length) t).length = w := fun t ht => by
      rw [JS] at ht; exact QE hr hc hw ht
    have hrow : row (swq S.X (nz S.X c S.pv.length) S.pv.length) S.pv.length = row S.X (nz S.X c S.pv.length) := by rw [Zt hr hc, if_pos rfl]
    have hne := (Zx S.X c S.pv.length (by omega)).2.2 hr
    have hcl : c < (row S.X (nz S.X c S.pv.length)).length := by
      rcases Nat.lt_or_ge c (row S.X (nz S.X c S.pv.length)).length with h | h
      . exact h
      . exact absurd (Jbm h) hne
    have hel : El p m (vo (row S.X (nz S.X c S.pv.length)) c) := Qi he _ _ (Jcg hcl)
    obtain ⟨h4, h5⟩ := iv_ex K hF hne hel
    have h2 := Ju0 L hF (by rw [Qs, JS]; exact hc) (fun t ht => by rw [Qs] at ht; exact QG (by rw [JS]; exact hc) hw1 ht) h
    rw [hrow] at h2
    have h3 := Juz L hF h4 h5 (by rw [JS]; exact hc) (hw1 _ (by rw [JS]; exact hc)) h2
    exact Juy hr hc h3
  . exact h
theorem Jke {g : Nat} (K : Gn (p ^ m) (Jy p m (dv p v)) g) (hF : FV P M mf p m v) {f : (Nat -> Nat) -> Nat} (L : Lin p m v w f) {n wy : Nat} {S : ES} (hS : Shp n w wy S) (he : Els p m S.X) : ∀ k, Ann p m f (elim p m v k S).X -> Ann p m f S.X
  | 0, h => h
  | k + 1, h => by
    rw [Qy] at h
    have hk := YI (p := p) (m := m) (v := v) hS k
    refine Jke K hF L hS he k (Jsf K hF L (ZZ (by have := hF.p2; omega) he k) (fun t ht => hk.xr t (by have := hk.xl; omega)) h)
end
end Go.Proofs.Ytgjloioccgcceaa
set_option linter.unusedVariables false
set_option linter.unusedSimpArgs false
namespace Go.Proofs.Ytgjloioccgcceaa
section
variable {p m v g : Nat} {P M : Int} {mf : List Int} {X Y : List (List Int)} {C : Int} {w : Nat}
theorem Jdh (hF : FV P M mf p m v) (f : Nat -> Nat) : ∀ n, fs p m f n < p ^ m
  | 0 => by have := hF.ring.q2; show 0 < _; omega
  | n + 1 => hF.ring.Al _ _
theorem fs_cg {f h : Nat -> Nat} : ∀ n, (∀ i, i < n -> f i = h i) -> fs p m f n = fs p m h n
  | 0, _ => rfl
  | n + 1, e => by show JZ p m _ _ = JZ p m _ _; rw [fs_cg n fun i hi => e i (by omega), e n (by omega)]
theorem mix (hF : FV P M mf p m v) {a b c d : Nat} (ha : a < p ^ m) (hb : b < p ^ m) (hc : c < p ^ m) (hd : d < p ^ m) : JZ p m (JZ p m a b) (JZ p m c d) = JZ p m (JZ p m a c) (JZ p m b d) := by
  have R := hF.ring
  rw [R.Aa ha hb (R.Al _ _), <- R.Aa hb hc hd, R.Ac b c, R.Aa hc hb hd, <- R.Aa ha hc (R.Al _ _)]
theorem Jly (hF : FV P M mf p m v) {f h : Nat -> Nat} {x : Nat} (hf : ∀ i, f i < p ^ m) (hh : ∀ i, h i < p ^ m) (hx : x < p ^ m) : ∀ n, fs p m (fun i => JZ p m (f i) (Jy p m (dv p v) x (h i))) n = JZ p m (fs p m f n) (Jy p m (dv p v) x (fs p m h n))
  | 0 => by
    have R := hF.ring
    show 0 = JZ p m 0 (Jy p m (dv p v) x 0)
    rw [R.M0 hx, R.Az (by have := R.q2; omega)]
  | n + 1 => by
    have R := hF.ring
    show JZ p m (fs p m _ n) _ = JZ p m (JZ p m _ _) (Jy p m (dv p v) x (JZ p m _ _))
    rw [Jly hF hf hh hx n, R.Md hx (Jdh hF h n) (hh n), mix hF (Jdh hF f n) (R.Ml _ _) (hf n) (R.Ml _ _)]
theorem fs_ml (hF : FV P M mf p m v) {f : Nat -> Nat} {x : Nat} (hf : ∀ i, f i < p ^ m) (hx : x < p ^ m) : ∀ n, fs p m (fun i => Jy p m (dv p v) x (f i)) n = Jy p m (dv p v) x (fs p m f n)
  | 0 => by show 0 = Jy p m (dv p v) x 0; rw [hF.ring.M0 hx]
  | n + 1 => by
    show JZ p m (fs p m _ n) _ = Jy p m (dv p v) x (JZ p m _ _)
    rw [fs_ml hF hf hx n, hF.ring.Md hx (Jdh hF f n) (hf n)]
theorem Jd0 (hF : FV P M mf p m v) {f : Nat -> Nat} : ∀ n, (∀ i, i < n -> f i = 0) -> fs p m f n = 0
  | 0, _ => rfl
  | n + 1, h => by
    show JZ p m (fs p m f n) (f n) = 0
    rw [Jd0 hF n fun i hi => h i (by omega), h n (by omega), hF.ring.Az (by have := hF.ring.q2; omega)]
theorem Jlx (hF : FV P M mf p m v) {f : Nat -> Nat} {j : Nat} (hj : f j < p ^ m) : ∀ n, j < n -> (∀ i, i < n -> i ≠ j -> f i = 0) -> fs p m f n = f j
  | 0, h, _ => absurd h (Nat.not_lt_zero _)
  | n + 1, h, e => by
    have R := hF.ring
    show JZ p m (fs p m f n) (f n) = f j
    by_cases en : n = j
    . subst en
      rw [Jd0 hF n fun i hi => e i (by omega) (by omega), R.Ac, R.Az hj]
    . rw [Jlx hF hj n (by omega) fun i hi => e i (by omega), e n (by omega) en, R.Az hj]
/-! ### rows are combinations of the canonical rows -/
def cof (p m v c r : Nat) (pv : Nat -> Nat) (nR : Nat -> Nat) (a : Nat -> Nat) : Nat := JZ p m (a c) (fs p m (fun i => Jy p m (dv p v) (nR i) (a (pv i))) r)
theorem Jus (hF : FV P M mf p m v) {c r : Nat} {pv nR : Nat -> Nat} (hc : c < w) (hpv : ∀ i, i < r -> pv i < w) (hn : ∀ i, nR i < p ^ m) : Lin p m v w (cof p m v c r pv nR) where
  lt a := hF.ring.Al _ _
  cg h := by
    unfold cof
    rw [h c hc, fs_cg r fun i hi => by rw [h _ (hpv i hi)]]
  ad {a b x} ha hb hx := by
    have R := hF.ring
    unfold cof
    have e : (fun i => Jy p m (dv p v) (nR i) (JZ p m (a (pv i)) (Jy p m (dv p v) x (b (pv i))))) = fun i => JZ p m (Jy p m (dv p v) (nR i) (a (pv i))) (Jy p m (dv p v) x (Jy p m (dv p v) (nR i) (b (pv i)))) := funext fun i => by
      rw [R.Md (hn i) (ha _) (R.Ml _ _), <- R.Ma (hn i) hx (hb _), R.Mc (hn i) hx, R.Ma hx (hn i) (hb _)]
    rw [e, Jly hF (fun i => R.Ml _ _) (fun i => R.Ml _ _) hx, mix hF (ha c) (R.Ml _ _) (Jdh hF _ _) (R.Ml _ _), <- R.Md hx (hb c) (Jdh hF _ _)]
  ml {a x} ha hx := by
    have R := hF.ring
    unfold cof
    have e : (fun i => Jy p m (dv p v) (nR i) (Jy p m (dv p v) x (a (pv i)))) = fun i => Jy p m (dv p v) x (Jy p m (dv p v) (nR i) (a (pv i))) := funext fun i => by
      rw [<- R.Ma (hn i) hx (ha _), R.Mc (hn i) hx, R.Ma hx (hn i) (ha _)]
    rw [e, fs_ml hF (fun i => R.Ml _ _) hx, <- R.Md hx (ha c) (Jdh hF _ _)]
end
end Go.Proofs.Ytgjloioccgcceaa
set_option linter.unusedVariables false
set_option linter.unusedSimpArgs false
namespace Go.Proofs.Ytgjloioccgcceaa
section
variable {p m v g : Nat} {P M : Int} {mf : List Int} {X Y : List (List Int)} {C : Int} {w : Nat}
theorem Jdi (hF : FV P M mf p m v) {l : List Int} {c : Nat} {z : Nat} (hz : z < p ^ m) (h : vo l c = (z : Int)) : en p m l c = z := by unfold en; rw [h]; exact QB hz
theorem Jkb (hF : FV P M mf p m v) (he : Els p m X) : Els p m (J9 p m v C X) := fun r hr => ZZ (S := ⟨X, List.replicate X.length [], [], 1⟩) (by have := hF.p2; omega) he C.toNat r (List.mem_of_mem_take hr)
end
end Go.Proofs.Ytgjloioccgcceaa
set_option linter.unusedVariables false
set_option linter.unusedSimpArgs false
namespace Go.Proofs.Ytgjloioccgcceaa
section
variable {p m v : Nat} {P M : Int} {mf : List Int} {X Y : List (List Int)} {C : Int} {w : Nat}
/-! ### what takes all rows to 0 takes the rows of each later step to 0 -/
theorem Jse {f : (Nat -> Nat) -> Nat} {r cur : Nat} (hr : r < X.length) (hc : cur < X.length) (h : Ann p m f X) : Ann p m f (swq X r cur) := fun t ht => by
  rw [JS] at ht
  rw [Zt hr hc]
  split
  . exact h r hr
  . split
    . exact h cur hc
    . exact h t ht
theorem Jsg {f : (Nat -> Nat) -> Nat} (L : Lin p m v w f) (hF : FV P M mf p m v) {cur : Nat} {e : Int} (hc : cur < X.length) (hw : (row X cur).length = w) (h : Ann p m f X) : Ann p m f (scq p m v X cur e) := fun t ht => by
  rw [Qs] at ht
  rw [Jg5 hc]
  split
  . rw [L.sc hF hw, h cur hc, hF.ring.M0 (J6 (by have := hF.ring.q2; omega) _)]
  . exact h t ht
theorem Jsh {f : (Nat -> Nat) -> Nat} (L : Lin p m v w f) (hF : FV P M mf p m v) {cur : Nat} {g : Nat -> Int} (hc : cur < X.length) (hw : ∀ t, t < X.length -> (row X t).length = w) (h : Ann p m f X) : Ann p m f (clr p m v g cur X) := fun t ht => by
  have R := hF.ring
  have hq : 0 < p ^ m := by have := R.q2; omega
  rw [YA] at ht
  rw [YX ht]
  split
  . exact h t ht
  . rw [L.adx hF (hw t ht), h cur hc, h t ht, R.M0 (J6 hq _), R.Az hq]
theorem Jpk (hF : FV P M mf p m v) {f : (Nat -> Nat) -> Nat} (L : Lin p m v w f) {S : ES} {c : Nat} (hw : ∀ t, t < S.X.length -> (row S.X t).length = w) (h : Ann p m f S.X) : Ann p m f (QU p m v S c).X := by
  unfold QU
  split
  . rename_i h1
    obtain ⟨hc, hr⟩ := h1
    rw [Ja5]
    have hw1 : ∀ t, t < (swq S.X (nz S.X c S.pv.length) S.pv.length).length -> (row (swq S.X (nz S.X c S.pv.length) S.pv.length) t).length = w := fun t ht => by
      rw [JS] at ht; exact QE hr hc hw ht
    exact Jsh L hF (by rw [Qs, JS]; exact hc) (fun t ht => by rw [Qs] at ht; exact QG (by rw [JS]; exact hc) hw1 ht) (Jsg L hF (by rw [JS]; exact hc) (hw1 _ (by rw [JS]; exact hc)) (Jse hr hc h))
  . exact h
theorem Jgm (hF : FV P M mf p m v) {f : (Nat -> Nat) -> Nat} (L : Lin p m v w f) {n wy : Nat} {S : ES} (hS : Shp n w wy S) (h : Ann p m f S.X) : ∀ k, Ann p m f (elim p m v k S).X
  | 0 => h
  | k + 1 => by
    rw [Qy]
    have hk := YI (p := p) (m := m) (v := v) hS k
    exact Jpk hF L (fun t ht => hk.xr t (by have := hk.xl; omega)) (Jgm hF L hS h k)
/-- the canonical rows are taken to 0 by just what takes the rows to 0 -/
theorem Jd3 (hF : FV P M mf p m v) (hs : shp C X) (he : Els p m X) {f : (Nat -> Nat) -> Nat} (L : Lin p m v C.toNat f) : Ann p m f (J9 p m v C X) ↔ Ann p m f X := by
  have R := hF.ring
  have hq : 0 < p ^ m := by have := R.q2; omega
  obtain ⟨g, G⟩ := Jrq hF
  have hS := Z1 (p := p) (m := m) (v := v) hs
  have red := Jid hF hs he
  have hl := Ys (p := p) (m := m) (v := v) hs
  have hpl := Jkc (p := p) (m := m) (v := v) hs
  have f0 : ∀ a : Nat -> Nat, (∀ c, c < C.toNat -> a c = 0) -> f a = 0 := fun a ha => by
    have h1 := L.ml (a := fun _ => 0) (x := 0) (fun _ => hq) hq
    rw [R.Mc hq (L.lt _), R.M0 (L.lt _)] at h1
    rw [<- h1]
    exact L.cg fun c hc => by rw [ha c hc, R.M0 hq]
  refine ⟨fun h => Jke G hF L (Jad hs) he C.toNat fun t ht => ?_, fun h t ht => ?_⟩
  . by_cases hr : t < (J2 p m v C X).length
    . have := h t (by omega)
      rwa [show row (J9 p m v C X) t = row (ec p m v C X).X t from ZR hr] at this
    . exact f0 _ fun c hc => Jdi hF hq (red.lo t (by show (J2 p m v C X).length <= t; omega) ht c hc)
  . rw [show row (J9 p m v C X) t = row (ec p m v C X).X t from ZR (by show t < (J2 p m v C X).length; omega)]
    exact Jgm hF L (Jad hs) h C.toNat t (by have := hS.xl; show t < (ec p m v C X).X.length; omega)
end
end Go.Proofs.Ytgjloioccgcceaa
set_option linter.unusedVariables false
set_option linter.unusedSimpArgs false
namespace Go.Proofs.Ytgjloioccgcceaa
section
variable {p m v : Nat} {P M : Int} {mf : List Int} {X Y : List (List Int)} {C D : Int} {w wy : Nat}
/-- matrices of elements with the same entries are equal -/
theorem Jt9 {A B : List (List Int)} (hl : A.length = B.length) (ha : Els p m A) (hb : Els p m B) (hw : ∀ t, t < A.length -> (row A t).length = w /\ (row B t).length = w) (h : ∀ t c, t < A.length -> c < w -> en p m (row A t) c = en p m (row B t) c) : A = B :=
  QO hl fun t ht => Yx (by rw [(hw t ht).1, (hw t ht).2]) fun c hc => by
    rw [(hw t ht).1] at hc
    have e := h t c ht hc
    have e1 := Jct (Jcy (Qi ha t) (t := c) (by rw [(hw t ht).1]; exact hc))
    have e2 := Jct (Jcy (Qi hb t) (t := c) (by rw [(hw t ht).2]; exact hc))
    unfold en at e
    rw [<- e1, <- e2, e]
end
end Go.Proofs.Ytgjloioccgcceaa
set_option linter.unusedVariables false
set_option linter.unusedSimpArgs false
namespace Go.Proofs.Ytgjloioccgcceaa
section
variable {p m v : Nat} {P M : Int} {mf : List Int} {X Y : List (List Int)} {C D : Int} {w wy : Nat}
/-! ### the canonical rows hang on the space of the rows alone -/
theorem Jsd {n k : Nat} {a b : List Int} (ha : Asc n a) (hb : Asc n b) (h1 : ∀ i, i < a.length -> ∃ j, j < b.length /\ vo b j = vo a i) (h2 : ∀ j, j < b.length -> ∃ i, i < a.length /\ vo a i = vo b j) : ∀ k, k < a.length -> k < b.length /\ vo a k = vo b k := by
  intro k
  induction k using Nat.strongRecOn with
  | ind k ih =>
    intro hk
    obtain ⟨j, hj, e⟩ := h1 k hk
    have hjk : k <= j := by
      rcases Nat.lt_or_ge j k with h | h
      . have h3 := (ih j h (by omega)).2
        have h4 := ha.2 j k h hk
        omega
      . exact h
    have hkb : k < b.length := by omega
    refine ⟨hkb, ?_⟩
    obtain ⟨i, hi, e2⟩ := h2 k hkb
    rcases Nat.lt_trichotomy i k with h | h | h
    . have h3 := (ih i h hi).2
      have h4 := hb.2 i k h hkb
      omega
    . rw [<- e2, h]
    . have h3 := ha.2 k i h hi
      rcases Nat.lt_or_ge k j with h5 | h5
      . have := hb.2 k j h5 hj; omega
      . rw [show k = j by omega] at e2 ⊢; omega
theorem Jsc {n : Nat} {a b : List Int} (ha : Asc n a) (hb : Asc n b) (h1 : ∀ i, i < a.length -> ∃ j, j < b.length /\ vo b j = vo a i) (h2 : ∀ j, j < b.length -> ∃ i, i < a.length /\ vo a i = vo b j) : a = b := by
  have k1 := Jsd (k := 0) ha hb h1 h2
  have k2 := Jsd (k := 0) hb ha h2 h1
  refine Yx ?_ fun i hi => (k1 i hi).2
  rcases Nat.lt_trichotomy a.length b.length with h | h | h
  . have := (k2 a.length h).1; omega
  . exact h
  . have := (k1 b.length h).1; omega
/-- what is taken to 0 by all that takes the rows to 0 is a combination of the canonical rows -/
theorem Jnn (hF : FV P M mf p m v) (hs : shp C X) (he : Els p m X) {a : Nat -> Nat} (ha : ∀ c, a c < p ^ m) (hA : ∀ f, Lin p m v C.toNat f -> Ann p m f (J9 p m v C X) -> f a = 0) {c : Nat} (hc : c < C.toNat) :
    a c = fs p m (fun i => Jy p m (dv p v) (a (vo (J2 p m v C X) i).toNat) (en p m (row (J9 p m v C X) i) c)) (J2 p m v C X).length := by
  have R := hF.ring
  have q1 : 1 < p ^ m := R.q2
  have hp : 0 < p := by have := hF.p2; omega
  have hasc := YK (p := p) (m := m) (v := v) C X
  have hcl := Ys (p := p) (m := m) (v := v) hs
  have hneg : ∀ y, y < p ^ m -> Yy p m y < p ^ m := fun y _ => Jd1 hp y
  have L := Jus (w := C.toNat) hF (c := c) (r := (J2 p m v C X).length) (pv := fun i => (vo (J2 p m v C X) i).toNat) (nR := fun i => Yy p m (en p m (row (J9 p m v C X) i) c)) hc (fun i hi => by have := hasc.1 i hi; show (vo (J2 p m v C X) i).toNat < _; omega) (fun i => hneg _ (Yp hF _ _))
  have hann := hA _ L (fun s hsl => by
    show cof _ _ _ _ _ _ _ (en p m (row (J9 p m v C X) s)) = 0
    unfold cof
    have hsr : s < (J2 p m v C X).length := by omega
    have hd : ∀ i, i < (J2 p m v C X).length -> en p m (row (J9 p m v C X) s) (vo (J2 p m v C X) i).toNat = if s = i then 1 else 0 := fun i hi => by
      have := Jby hF hs he hi hsr
      by_cases e : s = i
      . rw [if_pos e] at this ⊢; exact Jdi hF q1 this
      . rw [if_neg e] at this ⊢; exact Jdi hF (by omega) this
    have h9 := Jlx hF (f := fun i => Jy p m (dv p v) (Yy p m (en p m (row (J9 p m v C X) i) c)) (en p m (row (J9 p m v C X) s) (vo (J2 p m v C X) i).toNat)) (j := s) (R.Ml _ _) _ hsr fun i hi hne => by
      show Jy p m (dv p v) _ _ = 0
      rw [hd i hi, if_neg (fun e => hne e.symm), R.M0 (hneg _ (Yp hF _ _))]
    show JZ p m _ (fs p m (fun i => Jy p m (dv p v) (Yy p m (en p m (row (J9 p m v C X) i) c)) (en p m (row (J9 p m v C X) s) (vo (J2 p m v C X) i).toNat)) (J2 p m v C X).length) = 0
    rw [h9]
    show JZ p m _ (Jy p m (dv p v) _ _) = 0
    rw [hd s hsr, if_pos rfl, R.M1 (hneg _ (Yp hF _ _))]
    exact ZY hp (Yp hF _ _))
  unfold cof at hann
  have hG := Jdh hF (fun i => Jy p m (dv p v) (a (vo (J2 p m v C X) i).toNat) (en p m (row (J9 p m v C X) i) c)) (J2 p m v C X).length
  have hN := Jdh hF (fun i => Jy p m (dv p v) (Yy p m (en p m (row (J9 p m v C X) i) c)) (a (vo (J2 p m v C X) i).toNat)) (J2 p m v C X).length
  have hGN : JZ p m (fs p m (fun i => Jy p m (dv p v) (a (vo (J2 p m v C X) i).toNat) (en p m (row (J9 p m v C X) i) c)) (J2 p m v C X).length) (fs p m (fun i => Jy p m (dv p v) (Yy p m (en p m (row (J9 p m v C X) i) c)) (a (vo (J2 p m v C X) i).toNat)) (J2 p m v C X).length) = 0 := by
    have h1 := Jly hF (f := fun i => Jy p m (dv p v) (a (vo (J2 p m v C X) i).toNat) (en p m (row (J9 p m v C X) i) c)) (h := fun i => Jy p m (dv p v) (Yy p m (en p m (row (J9 p m v C X) i) c)) (a (vo (J2 p m v C X) i).toNat)) (x := 1) (fun i => R.Ml _ _) (fun i => R.Ml _ _) q1 (J2 p m v C X).length
    rw [R.Mc q1 hN, R.M1 hN] at h1
    rw [<- h1]
    refine Jd0 hF _ fun i hi => ?_
    show JZ p m (Jy p m (dv p v) _ _) (Jy p m (dv p v) 1 (Jy p m (dv p v) _ _)) = 0
    have ha' := ha (vo (J2 p m v C X) i).toNat
    have hb := Yp hF (row (J9 p m v C X) i) c
    rw [R.Mc q1 (R.Ml _ _), R.M1 (R.Ml _ _), R.Mc (hneg _ hb) ha', <- R.Md ha' hb (hneg _ hb), ZY hp hb, R.M0 ha']
  have hx := ha c
  generalize fs p m (fun i => Jy p m (dv p v) (a (vo (J2 p m v C X) i).toNat) (en p m (row (J9 p m v C X) i) c)) (J2 p m v C X).length = G1 at *
  generalize fs p m (fun i => Jy p m (dv p v) (Yy p m (en p m (row (J9 p m v C X) i) c)) (a (vo (J2 p m v C X) i).toNat)) (J2 p m v C X).length = N1 at *
  generalize a c = b at *
  calc b = JZ p m b (JZ p m G1 N1) := by rw [hGN, R.Az hx]
    _ = JZ p m G1 (JZ p m b N1) := by rw [<- R.Aa hx hG hN, R.Ac b G1, R.Aa hG hx hN]
    _ = G1 := by rw [hann, R.Az hG]
/-- the pivots of a space within another's -/
theorem Jq3 (hF : FV P M mf p m v) (hX : shp C X) (eX : Els p m X) (hY : shp C Y) (eY : Els p m Y) (h : ∀ f, Lin p m v C.toNat f -> Ann p m f Y -> Ann p m f X) : ∀ t, t < (J2 p m v C X).length -> ∃ j, j < (J2 p m v C Y).length /\ vo (J2 p m v C Y) j = vo (J2 p m v C X) t := by
  intro t ht
  have R := hF.ring
  have q1 : 1 < p ^ m := R.q2
  have hq : 0 < p ^ m := by omega
  have pX := YK (p := p) (m := m) (v := v) C X
  have pY := YK (p := p) (m := m) (v := v) C Y
  have lX := Ys (p := p) (m := m) (v := v) hX
  have hk := fun f (L : Lin p m v C.toNat f) (h1 : Ann p m f (J9 p m v C Y)) => (Jd3 hF hX eX L).2 (h f L ((Jd3 hF hY eY L).1 h1)) t (by omega)
  have ht' := pX.1 t ht
  have hc := Jnn hF hY eY (a := en p m (row (J9 p m v C X) t)) (fun c => Yp hF _ c) hk (c := (vo (J2 p m v C X) t).toNat) (by omega)
  have hu := Jby hF hX eX (i := t) (t := t) ht ht
  rw [if_pos rfl] at hu
  rw [Jdi hF (z := 1) q1 hu] at hc
  refine Classical.byContradiction fun hno => ?_
  rw [Jd0 hF _ fun i hi => ?_] at hc
  . omega
  show Jy p m (dv p v) (en p m (row (J9 p m v C X) t) (vo (J2 p m v C Y) i).toNat) (en p m (row (J9 p m v C Y) i) (vo (J2 p m v C X) t).toNat) = 0
  have hi' := pY.1 i hi
  rcases Int.lt_trichotomy (vo (J2 p m v C Y) i) (vo (J2 p m v C X) t) with h1 | h1 | h1
  . rw [Jdi hF (z := 0) hq (Jfg hF hX eX ht (c := (vo (J2 p m v C Y) i).toNat) (by omega)), R.Mc hq (Yp hF _ _), R.M0 (Yp hF _ _)]
  . exact absurd ⟨i, hi, h1⟩ hno
  . rw [Jdi hF (z := 0) hq (Jfg hF hY eY hi (c := (vo (J2 p m v C X) t).toNat) (by omega)), R.M0 (Yp hF _ _)]
theorem Jr4 (hF : FV P M mf p m v) (hX : shp C X) (eX : Els p m X) (hY : shp C Y) (eY : Els p m Y) (h : ∀ f, Lin p m v C.toNat f -> (Ann p m f X ↔ Ann p m f Y)) : J2 p m v C X = J2 p m v C Y /\ J9 p m v C X = J9 p m v C Y := by
  have R := hF.ring
  have q1 : 1 < p ^ m := R.q2
  have hq : 0 < p ^ m := by omega
  have pX := YK (p := p) (m := m) (v := v) C X
  have pY := YK (p := p) (m := m) (v := v) C Y
  have lX := Ys (p := p) (m := m) (v := v) hX
  have lY := Ys (p := p) (m := m) (v := v) hY
  have sX := Z2 (p := p) (m := m) (v := v) hX
  have sY := Z2 (p := p) (m := m) (v := v) hY
  have e : J2 p m v C X = J2 p m v C Y := Jsc pX pY (Jq3 hF hX eX hY eY fun f L => (h f L).2) (Jq3 hF hY eY hX eX fun f L => (h f L).1)
  refine ⟨e, Jt9 (w := C.toNat) (by rw [lX, lY, e]) (Jkb hF eX) (Jkb hF eY) (fun t ht => ⟨Qt sX ht, Qt sY (by rw [lY, <- e, <- lX]; exact ht)⟩) fun t c ht hc => ?_⟩
  have ht' : t < (J2 p m v C Y).length := by rw [<- e, <- lX]; exact ht
  have hk := fun f (L : Lin p m v C.toNat f) (h1 : Ann p m f (J9 p m v C Y)) => (Jd3 hF hX eX L).2 ((h f L).2 ((Jd3 hF hY eY L).1 h1)) t ht
  have hc' := Jnn hF hY eY (a := en p m (row (J9 p m v C X) t)) (fun c => Yp hF _ c) hk (c := c) hc
  rw [hc']
  have hd : ∀ i, i < (J2 p m v C Y).length -> en p m (row (J9 p m v C X) t) (vo (J2 p m v C Y) i).toNat = if t = i then 1 else 0 := fun i hi => by
    have := Jby hF hX eX (i := i) (t := t) (by rw [e]; exact hi) (by rw [e]; exact ht')
    rw [e] at this
    by_cases e' : t = i
    . rw [if_pos e'] at this ⊢; exact Jdi hF q1 this
    . rw [if_neg e'] at this ⊢; exact Jdi hF hq this
  rw [Jlx hF (f := fun i => Jy p m (dv p v) (en p m (row (J9 p m v C X) t) (vo (J2 p m v C Y) i).toNat) (en p m (row (J9 p m v C Y) i) c)) (j := t) (R.Ml _ _) _ ht' fun i hi hne => by
    show Jy p m (dv p v) _ _ = 0
    rw [hd i hi, if_neg (fun q => hne q.symm), R.Mc hq (Yp hF _ _), R.M0 (Yp hF _ _)]]
  show Jy p m (dv p v) _ _ = _
  rw [hd t ht', if_pos rfl, R.Mc q1 (Yp hF _ _), R.M1 (Yp hF _ _)]
end
end Go.Proofs.Ytgjloioccgcceaa
set_option linter.unusedVariables false
set_option linter.unusedSimpArgs false
namespace Go.Proofs.Ytgjloioccgcceaa
/-! ### words reduced by canonical rows -/
variable {P M : Int} {mf : List Int} {p m v : Nat} {C : Int} {X Y : List (List Int)} {w : Nat}
theorem Juq (hF : FV P M mf p m v) {l : List Int} (h : Elr p m l) (c : Nat) : El p m (vo l c) := by
  rcases Nat.lt_or_ge c l.length with hc | hc
  . exact Jcy h hc
  . rw [Jbm hc]
    have := hF.ring.q2
    exact ⟨by omega, by exact_mod_cast (by omega : 0 < p ^ m)⟩
end Go.Proofs.Ytgjloioccgcceaa
set_option linter.unusedVariables false
set_option linter.unusedSimpArgs false
namespace Go.Proofs.Ytgjloioccgcceaa
/-! ### two codes: their errors; codes generated by rows -/
section
variable {P M P' M' : Int} {mf mg : List Int} {p m v : Nat} {N C Na Nb n d : Int} {X Y a b : List (List Int)}
theorem Joa {Q : Int -> Prop} (h : Q (cck P M mf N X)) : YR [(P, M, mf, N, X)] Q := by
  refine ⟨fun z => z = 0 ∨ (z = 1 /\ cck P M mf N X = 0), fun z => (1 - z).toNat, .inl rfl, ?_⟩
  rintro z (rfl | ⟨rfl, h0⟩)
  . refine ⟨fun _ => ⟨⟨by first | decide | simp, by first | decide | simp⟩, Jeg ⟨fun _ => h, fun h0 => ⟨Jq (by first | decide | simp) (by first | decide | simp), .inr ⟨rfl, Classical.not_not.1 h0⟩, by first | decide | simp⟩⟩⟩, fun hh => absurd (by first | decide | simp) hh⟩
  . exact ⟨fun hh => absurd hh (by first | decide | simp), fun _ => by rw [h0] at h; exact h⟩
theorem w_few1 {Q : Bool -> Prop} (h1 : X.length <= 64 -> Q true) (h2 : Q false) : Jaq [(P, M, mf, N, X)] Q := by
  refine ⟨fun z => z = 0 ∨ (z = 1 /\ X.length <= 64), fun z => (1 - z).toNat, .inl rfl, ?_⟩
  rintro z (rfl | ⟨rfl, h0⟩)
  . refine ⟨fun _ => ⟨⟨by first | decide | simp, by first | decide | simp⟩, fun _ => h2, fun h0 => ⟨⟨by first | decide | simp, by first | decide | simp⟩, Jku (by omega) (fun _ _ _ => ⟨(fun hh => by cases hh), fun _ => ⟨Jq (by first | decide | simp) (by first | decide | simp), .inr ⟨rfl, ?_⟩, by first | decide | simp⟩⟩) ⟨fun _ => h2, (fun hh => by cases hh)⟩⟩⟩, fun hh => absurd (by first | decide | simp) hh⟩
    have h0' : ¬ (64 : Int) < ((X.length : Nat) : Int) := h0
    omega
  . exact ⟨fun hh => absurd hh (by first | decide | simp), fun _ => h1 h0⟩
end
end Go.Proofs.Ytgjloioccgcceaa
set_option linter.unusedVariables false
set_option linter.unusedSimpArgs false
namespace Go.Proofs.Ytgjloioccgcceaa
section
variable {P M P' M' : Int} {mf mg : List Int} {p m v : Nat} {N C Na Nb n d : Int} {X Y a b : List (List Int)}
theorem Jm3 (he : Els p m X) {t : Nat} (ht : t < X.length) : Elr p m (row X t) := he _ (by
  unfold row; rw [List.getD_eq_getElem?_getD, List.getElem?_eq_getElem ht]; exact List.getElem_mem ht)
end
end Go.Proofs.Ytgjloioccgcceaa
set_option linter.unusedVariables false
set_option linter.unusedSimpArgs false
namespace Go.Proofs.Ytgjloioccgcceaa
/-! ### interleaved codes -/
section
variable {P M P' M' : Int} {mf mg : List Int} {p m v g : Nat} {F : GFv} {N C Na Nb d : Int} {X Y a b : List (List Int)} {u y : List Int}
theorem Jnq {f : (Nat -> Nat) -> Nat} (h : ∀ t, t < X.length -> ∃ s, s < Y.length /\ row X t = row Y s) (hY : Ann p m f Y) : Ann p m f X := fun t ht => by
  obtain ⟨s, hs, e⟩ := h t ht
  rw [e]; exact hY s hs
theorem Jbv {f : Nat -> Nat} {g : Nat -> Int} : ∀ (L : List Nat) (x : List Int), (L.foldl (fun x i => x.set (f i) (g i)) x).length = x.length
  | [], x => rfl
  | i :: L, x => by rw [List.foldl_cons, Jbv L]; simp
/-- a list filled at places that differ -/
def fil (n : Nat) (g : Nat -> Nat) (w : List Int) (k : Nat) : List Int := (List.range k).foldl (fun x i => x.set (g i) (vo w i)) (List.replicate n 0)
theorem Jfa (n : Nat) (g : Nat -> Nat) (w : List Int) (k : Nat) : fil n g w (k + 1) = (fil n g w k).set (g k) (vo w k) := by
  unfold fil; rw [List.range_succ, List.foldl_append]; rfl
theorem Jun (n : Nat) (g : Nat -> Nat) (w : List Int) (k : Nat) : (fil n g w k).length = n := by
  unfold fil; rw [Jbv, List.length_replicate]
theorem Jh6 (hF : FV P M mf p m v) {n : Nat} {g : Nat -> Nat} {w : List Int} (hw : Elr p m w) : ∀ k, Elr p m (fil n g w k)
  | 0 => fun x hx => by
    have hx' : x ∈ List.replicate n (0 : Int) := hx
    have := hF.ring.q2
    rw [(List.mem_replicate.1 hx').2]; exact ⟨by decide, by omega⟩
  | k + 1 => fun x hx => by
    rw [Jfa] at hx
    rcases List.mem_or_eq_of_mem_set hx with h | h
    . exact Jh6 hF hw k x h
    . rw [h]; exact Juq hF hw k
def irw (n e : Nat) (a : List (List Int)) (t k : Nat) : List Int := fil (n * e) (fun i => i * e + k) (row a t) n
def fl (f : Nat -> Nat -> List Int) (w k : Nat) : List (List Int) := ((List.range k).map fun i => ml (f i) w).flatten
theorem Jh3 (f : Nat -> Nat -> List Int) (w k : Nat) : fl f w (k + 1) = fl f w k ++ ml (f k) w := by simp [fl, List.range_succ]
theorem Jh4 (f : Nat -> Nat -> List Int) (w : Nat) : ∀ k, (fl f w k).length = k * w
  | 0 => by simp [fl]
  | k + 1 => by rw [Jh3, List.length_append, Jh4 f w k, Jcs, Nat.succ_mul]
theorem Jcv {f : Nat -> Nat -> List Int} {w k : Nat} {r : List Int} : r ∈ fl f w k ↔ ∃ i j, i < k /\ j < w /\ r = f i j := by
  constructor
  . intro h
    obtain ⟨l, hl, hr⟩ := List.mem_flatten.1 h
    obtain ⟨i, hi, rfl⟩ := List.mem_map.1 hl
    obtain ⟨j, hj, rfl⟩ := List.mem_map.1 hr
    exact ⟨i, j, List.mem_range.1 hi, List.mem_range.1 hj, rfl⟩
  . rintro ⟨i, j, hi, hj, rfl⟩
    exact List.mem_flatten.2 ⟨_, List.mem_map.2 ⟨i, List.mem_range.2 hi, rfl⟩, List.mem_map.2 ⟨j, List.mem_range.2 hj, rfl⟩⟩
theorem Je9 {f : Nat -> Nat -> List Int} {w k c : Nat} (hc : c <= 64) (hl : k * w <= 256) (h : ∀ i j, i < k -> j < w -> (f i j).length = c) : shp (c : Int) (fl f w k) := by
  refine ⟨by omega, by omega, by rw [Jh4]; exact hl, fun r hr => ?_⟩
  obtain ⟨i, j, hi, hj, rfl⟩ := Jcv.1 hr
  rw [h i j hi hj]
theorem Jh5 {f : Nat -> Nat -> List Int} {w k : Nat} (h : ∀ i j, i < k -> j < w -> Elr p m (f i j)) : Els p m (fl f w k) := fun r hr => by
  obtain ⟨i, j, hi, hj, rfl⟩ := Jcv.1 hr
  exact h i j hi hj
theorem Jum (hF : FV P M mf p m v) {f : Nat -> Nat -> List Int} {w k c : Nat} (hc : c <= 64) (hl : k * w <= 256) (h : ∀ i j, i < k -> j < w -> (f i j).length = c) (he : ∀ i j, i < k -> j < w -> Elr p m (f i j)) : J9 p m v (c : Int) (fl (fun j i => f i j) k w) = J9 p m v (c : Int) (fl f w k) := by
  refine (Jr4 hF (Je9 hc (by rw [Nat.mul_comm]; exact hl) fun j i hj hi => h i j hi hj) (Jh5 fun j i hj hi => he i j hi hj) (Je9 hc hl h) (Jh5 he) fun f' L => ⟨Jnq fun t ht => ?_, Jnq fun t ht => ?_⟩).2
  . obtain ⟨i, j, hi, hj, e⟩ := Jcv.1 (YW ht)
    obtain ⟨s, hs, e'⟩ := YY (Jcv.2 ⟨j, i, hj, hi, rfl⟩ : f i j ∈ fl (fun j i => f i j) k w)
    exact ⟨s, hs, e.trans e'.symm⟩
  . obtain ⟨j, i, hj, hi, e⟩ := Jcv.1 (YW ht)
    obtain ⟨s, hs, e'⟩ := YY (Jcv.2 ⟨i, j, hi, hj, rfl⟩ : f i j ∈ fl f w k)
    exact ⟨s, hs, e.trans e'.symm⟩
theorem oc1_E {R : List (List Int)} {Q : QC} (h : Q (oc1 P M mf Na a d R)) : OdE P M mf Na a d R Q := by
  unfold oc1 at h
  refine ⟨fun h1 => ?_, fun h1 h2 => ?_, fun h1 h2 h3 => ?_, fun h1 h2 h3 p m v hF => ?_⟩
  . rw [if_pos h1] at h; exact h
  . rw [if_neg (fun hh => hh h1), if_pos h2] at h; exact h
  . rw [if_neg (fun hh => hh h1), if_neg h2, if_pos h3] at h; exact h
  . rw [if_neg (fun hh => hh h1), if_neg h2, if_neg h3, Jd2 hF] at h; exact h
theorem Jix {R : List (List Int)} {K : Bool -> Prop} (hR : cck P M mf Na a = 0 -> ¬ d < 1 -> ¬ (64 : Int).tdiv Na < d -> shp (Na * d) R) (h : K true) :
    let o := oc1 P M mf Na a d R
    Q3 o.1 o.2.1 o.2.2.1 o.2.2.2.1 o.2.2.2.2.1 o.2.2.2.2.2 o.1 o.2.1 o.2.2.1 o.2.2.2.1 o.2.2.2.2.1 o.2.2.2.2.2 K := by
  intro o
  have hz : ∀ e, (oz e).2.2.1.length <= 1000000 /\ (oz e).2.2.2.2.1.length <= 1000000 /\ ∀ t, t < (oz e).2.2.2.2.1.length -> (row (oz e).2.2.2.2.1 t).length <= 1000000 := fun e => ⟨by simp [oz], by simp [oz], fun t ht => absurd ht (by simp [oz])⟩
  have key : o.2.2.1.length <= 1000000 /\ o.2.2.2.2.1.length <= 1000000 /\ ∀ t, t < o.2.2.2.2.1.length -> (row o.2.2.2.2.1 t).length <= 1000000 := by
    show (oc1 P M mf Na a d R).2.2.1.length <= 1000000 /\ (oc1 P M mf Na a d R).2.2.2.2.1.length <= 1000000 /\ ∀ t, t < (oc1 P M mf Na a d R).2.2.2.2.1.length -> (row (oc1 P M mf Na a d R).2.2.2.2.1 t).length <= 1000000
    unfold oc1
    split
    . exact hz _
    . rename_i h1
      split
      . exact hz _
      . rename_i h2
        split
        . exact hz _
        . rename_i h3
          have h1 := Classical.not_not.1 h1
          obtain ⟨p, m, v, hF⟩ := Jnp h1
          have l := Ji9 (Z2 (p := p) (m := m) (v := v) (hR h1 h2 h3))
          rw [Jd2 hF]
          exact ⟨by have := hF.mlen; show mf.length <= 1000000; omega, l.1, l.2⟩
  exact Jee key.1 key.2.1 key.2.2 h
/-- a code and a number that is not too great for it -/
theorem Jhi (h : cck P M mf Na a = 0) (h1 : ¬ d < 1) (h2 : ¬ (64 : Int).tdiv Na < d) : ∃ n e : Nat, Na = n /\ d = e /\ 1 <= n /\ 1 <= e /\ n * e <= 64 /\ ∃ p m v, FV P M mf p m v /\ shp Na a /\ Els p m a /\ a.length <= n := by
  obtain ⟨ha, p, m, v, q, G⟩ := Y0 h
  obtain ⟨n, rfl⟩ := Int.eq_ofNat_of_zero_le (show 0 <= Na by omega)
  obtain ⟨e, rfl⟩ := Int.eq_ofNat_of_zero_le (show 0 <= d by omega)
  have h3 : (64 : Int).tdiv (n : Int) = ((64 / n : Nat) : Int) := rfl
  rw [h3] at h2
  have h4 : e <= 64 / n := by omega
  have h5 := (Nat.le_div_iff_mul_le (show 0 < n by omega)).1 h4
  have := G.q.len
  exact ⟨n, e, rfl, rfl, by omega, by omega, by rw [Nat.mul_comm]; exact h5, p, m, v, G.f, G.s, G.e, by omega⟩
theorem Jhy (n e : Nat) (a : List (List Int)) (t k : Nat) : (irw n e a t k).length = n * e := Jun _ _ _ _
theorem Jpw {n e k : Nat} {Q : List Int -> Prop} (hn : n * e <= 64) (he : 1 <= e) (hk : k < e) (hy : y.length = n) (h : Q (fil (n * e) (fun i => i * e + k) y n)) : Z6 y (e : Int) (k : Int) Q := by
  unfold Z6
  rw [hy]
  have hm : ((n : Int) * (e : Int)) = ((n * e : Nat) : Int) := by push_cast; rfl
  rw [hm]
  refine ⟨QA (by omega), ⟨by omega, by omega, by omega⟩, fun x z => ∃ i : Nat, z = i /\ i <= n /\ x = fil (n * e) (fun i => i * e + k) y i, fun _ z => (n - z).toNat, ⟨0, rfl, Nat.zero_le _, rfl⟩, ?_⟩
  rintro _ _ ⟨i, rfl, hi, rfl⟩
  dsimp only
  refine ⟨fun hlt => ?_, fun hge => ?_⟩
  . have hin : i < n := by omega
    have hb : (i + 1) * e <= n * e := Nat.mul_le_mul_right e hin
    have hb2 : (i + 1) * e = i * e + e := Nat.succ_mul i e
    have hn1 : n * 1 <= n * e := Nat.mul_le_mul_left n he
    have hie : ((i : Int) * (e : Int)) = ((i * e : Nat) : Int) := by push_cast; rfl
    rw [hie]
    exact ⟨⟨by omega, by omega⟩, QA (by omega), Jq (by omega) (by omega), ⟨by omega, by show ((i * e : Nat) : Int) + (k : Int) < ((n * e : Nat) : Int); omega⟩, Jq (by omega) (by omega), ⟨i + 1, by push_cast; rfl, by omega, by rw [Jfa]; rfl⟩, by omega⟩
  . obtain rfl : i = n := by omega
    exact h
theorem Jgv {Q : QC} (E : OdE P M mf Na a d (fl (irw Na.toNat d.toNat a) d.toNat a.length) Q) : YD P M mf Na a d Q := by
  refine Joa ⟨fun h1 => E.e1 h1, fun h1 => ?_⟩
  have h1 := Classical.not_not.1 h1
  have hc := Y0 h1
  obtain ⟨hN, _⟩ := hc
  refine ⟨fun h2 => E.e2 h1 h2, fun h2 => ⟨⟨by omega, ?_⟩, fun h3 => E.e3 h1 h2 h3, fun h3 => ?_⟩⟩
  . obtain ⟨n, rfl⟩ := Int.eq_ofNat_of_zero_le (show 0 <= Na by omega)
    show I64 ((64 / n : Nat) : Int)
    exact QA (by have := Nat.div_le_self 64 n; omega)
  obtain ⟨n, e, rfl, rfl, n1, e1, hne, p, m, v, hF, sa, ea, la⟩ := Jhi h1 h2 h3
  have E' := E.ok h1 h2 h3
  rw [Int.toNat_natCast, Int.toNat_natCast] at E'
  have n64 : n <= 64 := by omega
  have he : e <= 64 := by have : 1 * e <= n * e := Nat.mul_le_mul_right e n1; omega
  refine ⟨fun x z => ∃ t : Nat, z = t /\ t <= a.length /\ x = fl (irw n e a) e t, fun _ z => (a.length - z).toNat, ⟨0, rfl, Nat.zero_le _, rfl⟩, ?_⟩
  rintro _ _ ⟨t, rfl, ht, rfl⟩
  dsimp only
  have hb : t * e <= 64 * 64 := Nat.mul_le_mul (by omega) he
  refine ⟨fun hlt => ⟨⟨by omega, by omega⟩, fun x z => ∃ k : Nat, z = k /\ k <= e /\ x = fl (irw n e a) e t ++ ml (irw n e a t) k, fun _ z => (e - z).toNat, ⟨0, rfl, Nat.zero_le _, by simp [ml]⟩, ?_⟩, fun hge => ?_⟩
  . rintro _ _ ⟨k, rfl, hk, rfl⟩
    dsimp only
    refine ⟨fun hl => ?_, fun hg => ?_⟩
    . have h3 := Qt sa (t := t) (by omega)
      rw [Int.toNat_natCast] at h3
      exact Jpw hne e1 (by omega) h3 ⟨by rw [List.length_append, Jh4, Jcs]; omega, Jq (by omega) (by omega), ⟨k + 1, by push_cast; rfl, by omega, by rw [Jdy, <- List.append_assoc]; rfl⟩, by omega⟩
    . obtain rfl : k = e := by omega
      exact ⟨Jq (by omega) (by omega), ⟨t + 1, by push_cast; rfl, by omega, by rw [Jh3]⟩, by omega⟩
  . obtain rfl : t = a.length := by omega
    have hm : ((n : Int) * (e : Int)) = ((n * e : Nat) : Int) := by push_cast; rfl
    rw [hm] at E' ⊢
    have h4 : a.length * e <= n * e := Nat.mul_le_mul_right e la
    have h5 : 1 * 1 <= n * e := Nat.mul_le_mul n1 e1
    exact ⟨QA (by omega), Jc9 hF (Je9 hne (by omega) fun i j _ _ => Jhy _ _ _ _ _) (Jh5 fun i j hi hj => Jh6 hF (Jm3 ea hi) _) (by omega) (E' _ _ _ hF)⟩
theorem Jeb {Q : QC} (E : OdE P M mf Na a d (fl (irw Na.toNat d.toNat a) d.toNat a.length) Q) : Yg P M mf Na a d Q := by
  refine Jcf ⟨fun h1 => E.e1 h1, fun h1 => ?_⟩
  have h1 := Classical.not_not.1 h1
  have hc := Y0 h1
  obtain ⟨hN, _⟩ := hc
  refine ⟨fun h2 => E.e2 h1 h2, fun h2 => ⟨⟨by omega, ?_⟩, fun h3 => E.e3 h1 h2 h3, fun h3 => ?_⟩⟩
  . obtain ⟨n, rfl⟩ := Int.eq_ofNat_of_zero_le (show 0 <= Na by omega)
    show I64 ((64 / n : Nat) : Int)
    exact QA (by have := Nat.div_le_self 64 n; omega)
  obtain ⟨n, e, rfl, rfl, n1, e1, hne, p, m, v, hF, sa, ea, la⟩ := Jhi h1 h2 h3
  have E' := E.ok h1 h2 h3
  rw [Int.toNat_natCast, Int.toNat_natCast] at E'
  have n64 : n <= 64 := by omega
  have he : e <= 64 := by have : 1 * e <= n * e := Nat.mul_le_mul_right e n1; omega
  have hm : ((n : Int) * (e : Int)) = ((n * e : Nat) : Int) := by push_cast; rfl
  rw [hm] at E' ⊢
  have h4 : a.length * e <= n * e := Nat.mul_le_mul_right e la
  have h5 : 1 * 1 <= n * e := Nat.mul_le_mul n1 e1
  refine ⟨fun x z => ∃ k : Nat, z = k /\ k <= e /\ x = fl (fun k t => irw n e a t k) a.length k, fun _ z => (e - z).toNat, ⟨0, rfl, Nat.zero_le _, rfl⟩, ?_⟩
  rintro _ _ ⟨k, rfl, hk, rfl⟩
  dsimp only
  have hb : k * a.length <= 64 * 64 := Nat.mul_le_mul (by omega) (by omega)
  refine ⟨fun hlt => ⟨fun x z => ∃ t : Nat, z = t /\ t <= a.length /\ x = fl (fun k t => irw n e a t k) a.length k ++ ml (fun t => irw n e a t k) t, fun _ z => (a.length - z).toNat, ⟨0, rfl, Nat.zero_le _, by simp [ml]⟩, ?_⟩, fun hge => ?_⟩
  . rintro _ _ ⟨t, rfl, ht, rfl⟩
    dsimp only
    refine ⟨fun hl => ?_, fun hg => ?_⟩
    . have h3 := Qt sa (t := t) (by omega)
      rw [Int.toNat_natCast] at h3
      refine ⟨QA (by omega), ⟨by omega, by omega, by omega⟩, fun x z => ∃ i : Nat, z = i /\ i <= n /\ x = fil (n * e) (fun i => i * e + k) (row a t) i, fun _ z => (n - z).toNat, ⟨0, rfl, Nat.zero_le _, rfl⟩, ?_⟩
      rintro _ _ ⟨i, rfl, hi, rfl⟩
      dsimp only
      refine ⟨fun hl2 => ?_, fun hg2 => ?_⟩
      . have hin : i < n := by omega
        have hb : (i + 1) * e <= n * e := Nat.mul_le_mul_right e hin
        have hb2 : (i + 1) * e = i * e + e := Nat.succ_mul i e
        have hie : ((i : Int) * (e : Int)) = ((i * e : Nat) : Int) := by push_cast; rfl
        rw [hie]
        exact ⟨QA (by omega), Jq (by omega) (by omega), ⟨by omega, by omega⟩, ⟨by omega, by show (i : Int) < (((row a t).length : Nat) : Int); omega⟩, ⟨by omega, by show ((i * e : Nat) : Int) + (k : Int) < ((n * e : Nat) : Int); omega⟩, Jq (by omega) (by omega), ⟨i + 1, by push_cast; rfl, by omega, by rw [Jfa]; rfl⟩, by omega⟩
      . obtain rfl : i = n := by omega
        exact ⟨by rw [List.length_append, Jh4, Jcs]; omega, Jq (by omega) (by omega), ⟨t + 1, by push_cast; rfl, by omega, by rw [Jdy, <- List.append_assoc]; rfl⟩, by omega⟩
    . obtain rfl : t = a.length := by omega
      exact ⟨Jq (by omega) (by omega), ⟨k + 1, by push_cast; rfl, by omega, by rw [Jh3]⟩, by omega⟩
  . obtain rfl : k = e := by omega
    have hl : ∀ i j, i < a.length -> j < k -> (irw n k a i j).length = n * k := fun i j _ _ => Jhy _ _ _ _ _
    have hel : ∀ i j, i < a.length -> j < k -> Elr p m (irw n k a i j) := fun i j hi hj => Jh6 hF (Jm3 ea hi) _
    refine ⟨QA (by omega), Jir hF (Je9 hne (by rw [Nat.mul_comm]; omega) fun j i hj hi => hl i j hi hj) (Jh5 fun j i hj hi => hel i j hi hj) ?_⟩
    rw [Jum hF hne (by omega) hl hel]
    exact E' _ _ _ hF
theorem irw_ok (h1 : cck P M mf Na a = 0) (h2 : ¬ d < 1) (h3 : ¬ (64 : Int).tdiv Na < d) : shp (Na * d) (fl (irw Na.toNat d.toNat a) d.toNat a.length) := by
  obtain ⟨n, e, rfl, rfl, n1, e1, hne, p, m, v, hF, sa, ea, la⟩ := Jhi h1 h2 h3
  rw [Int.toNat_natCast, Int.toNat_natCast, show ((n : Int) * (e : Int)) = ((n * e : Nat) : Int) by push_cast; rfl]
  have h4 : a.length * e <= n * e := Nat.mul_le_mul_right e la
  exact Je9 hne (by omega) fun i j _ _ => Jhy _ _ _ _ _
theorem ZA (P M : Int) (mf : List Int) (Na : Int) (a : List (List Int)) (d : Int) : YS P M mf Na a d (fun b => b = true) := by
  refine w_few1 (fun _ => ⟨(fun hh => by cases hh), fun _ => ?_⟩) ⟨fun _ => rfl, (fun hh => by cases hh)⟩
  refine Jgv (oc1_E ?_)
  refine Jeb (oc1_E ?_)
  exact Jix irw_ok rfl
end
end Go.Proofs.Ytgjloioccgcceaa
