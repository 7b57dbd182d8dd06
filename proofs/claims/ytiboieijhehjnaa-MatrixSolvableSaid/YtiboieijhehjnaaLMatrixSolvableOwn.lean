/- What only this law leans on. -/
import Derived.Test.YtiboieijhehjnaaMatrixKernelG9
set_option linter.unusedSimpArgs false
set_option linter.unusedVariables false
namespace Go.Proofs.Ytiboieijhehjnaa
open Go.ChangeShapes Go.WideShapes Go.ChangeAt Go.RowKit
section
variable {H : Type} {enc : TypeId × Value -> H} {P : Program} {W : World} {base : Nat} {spare : Nat -> Bool} {held : Bool}
theorem Jse {t e : TypeId} {A : Option Addr} {m c : Nat} {d : DataW H} {p : List MemPlace} (ht : P.underlying t = some (.slice e)) (he : P.underlying e = some (.int .i64)) (hc : P.cellsOf e = 1) (h : DataW.Trod enc P W base spare held t (.slice A m c) d p) : ∃ xs : List Int, Rd W.heap.size W 1 A m c (is xs) := by
  obtain ⟨fuel, hf⟩ := h
  obtain ⟨A', m', c', xs, hv, hR⟩ := Jec (y := (d, p)) ht he hc hf
  cases hv
  exact ⟨xs, hR⟩
end
end Go.Proofs.Ytiboieijhehjnaa
set_option linter.unusedVariables false
namespace Go.Proofs.Ytiboieijhehjnaa
open Go.RowKit
theorem Try.nm38 : (Try.f38.name == "runtime.NumGoroutine") = false := by kernel_rfl
end Go.Proofs.Ytiboieijhehjnaa
namespace Go.Proofs.Ytiboieijhehjnaa
open Go.RowKit
abbrev XF38 := Try.func38
abbrev XF9 := Try.func9
abbrev XN38 := Try.nm38
end Go.Proofs.Ytiboieijhehjnaa
set_option linter.unusedSimpArgs false
set_option linter.unusedVariables false
set_option maxRecDepth 4000
set_option maxHeartbeats 4000000
namespace Go.Proofs.Ytiboieijhehjnaa
open Go.RowKit
def Y8 (Pf : Int) (Mf : Int) (mf : List Int) (y : List Int) (n : Int) (Q : Int -> Prop) : Prop :=
  (((y.length : Int) ≠ n) -> (Q (3 : Int))) /\ (¬ ((y.length : Int) ≠ n) -> (Zk Pf Mf mf y (fun r15 => Q r15)))
theorem Jl9 {w : World} {Q : Int -> Prop} {Pf : Int} {Mf : Int} {mf : List Int} {y : List Int} {n : Int} {Bf : Nat} {Af : Option Addr} {nf kf : Nat} (hf : Rd Bf w 1 Af nf kf (is mf)) {By : Nat} {Ay : Option Addr} {ny ky : Nat} (hy : Rd By w 1 Ay ny ky (is y)) (hv : Y8 Pf Mf mf y n Q) :
    Calls Try.prog 38 #[.agg #[.int .i64 Pf, .int .i64 Mf, .slice Af nf kf], .slice Ay ny ky, .int .i64 n] w fun e w' => ∃ v Qr, e = .returned v /\ w.grownBy w' none /\ Rows w.heap.size none w' Qr /\ News w.heap.size Qr /\ ∃ (r0 : Int), v = .int .i64 r0 /\ Qr = [] /\ Q r0 := by
  have hnf := hf.ilen
  subst hnf
  have hny := hy.ilen
  subst hny
  refine Jp <| Jo (vs := [.agg #[.int .i64 Pf, .int .i64 Mf, .slice Af mf.length kf], .slice Ay y.length ky, .int .i64 n]) [6] XF38 rfl rfl rfl rfl ?_
  have hS := Js w
  unfold Y8 at hv
  refine Jg 2 <| JF (z := 3) (cs := [.int .i64 Pf, .int .i64 Mf, .slice Af mf.length kf]) hS rfl rfl rfl rfl ?_
  intro g11 w12 hS
  refine Jc 2 <| Jg 4 <| WL.len Jq rfl rfl <| Jc 3 <| Jm rfl (fun c13 => ?_) (fun c13 => ?_)
  .have hv := hv.1 (of_decide_eq_true c13)
   refine Jg 4 <| W.ret <| ⟨_, rfl, Fin.nil ?_⟩
   exact ⟨_, hS.ext, (hS.pick [] rfl).rows, Ji (hS.pick [] rfl).rows rfl, ⟨(3 : Int), rfl, rfl, hv⟩⟩
  have hv := hv.2 (of_decide_eq_false c13)
  refine Jn <| Jg 2 <| Jk (cs := [.int .i64 Pf, .int .i64 Mf, .slice Af mf.length kf]) JT JY rfl rfl (Jb (hS.own (i := 0) rfl)) rfl <| Je rfl rfl <| SL.call hS (Jet (hS.ro hf) (hS.ro hy) hv) XF64 rfl XN64 rfl rfl ?_
  rintro _ _ w14 ⟨r15, rfl, rfl, hv⟩ hGw14 hS
  have hS := hS.n0
  refine Jc 2 <| W.ret <| ⟨_, rfl, Fin.nil ?_⟩
  exact ⟨_, hS.ext, (hS.pick [] rfl).rows, Ji (hS.pick [] rfl).rows rfl, ⟨r15, rfl, rfl, hv⟩⟩
end Go.Proofs.Ytiboieijhehjnaa
set_option linter.unusedSimpArgs false
set_option linter.unusedVariables false
set_option maxRecDepth 4000
set_option maxHeartbeats 4000000
namespace Go.Proofs.Ytiboieijhehjnaa
open Go.RowKit
def Jbo (Pf : Int) (Mf : Int) (mf : List Int) (Cm : Int) (m : List (List Int)) (x : List Int) (Q : Bool -> Prop) : Prop :=
  QP  (fun r16 => (((!r16) = true) -> (QP  (fun r19 => Q r19))) /\ ((!r16) = false -> (Jcs Cm m (200 : Int) (fun r21 => (((!r21) = true) -> (QP  (fun r24 => Q r24))) /\ ((!r21) = false -> ((((300 : Int) < (x.length : Int)) -> (QP  (fun r27 => Q r27))) /\ (¬ ((300 : Int) < (x.length : Int)) -> (ZP Pf Mf mf Cm m (fun r29 => ((r29 ≠ (0 : Int)) -> Q true) /\ (¬ (r29 ≠ (0 : Int)) -> (Y8 Pf Mf mf x Cm (fun r32 => ((r32 ≠ (0 : Int)) -> Q true) /\ (¬ (r32 ≠ (0 : Int)) -> (∃ (I49 : List Int -> Int -> Prop) (μ50 : List Int -> Int -> Nat), I49 ([] : List Int) (0 : Int) /\ ∀ (x44 : List Int) (z48 : Int), (I49 x44 z48 -> (((z48 < (m.length : Int)) -> ((0 <= z48 /\ z48 < (m.length : Nat)) /\ (Jct Pf Mf mf (gl m z48) x (fun r55 => (((x44.length : Nat) + (1 : Nat) : Int) * 8 <= 140737488355328) /\ ((I64 (z48 + (1 : Int))) /\ (I49 (x44 ++ ([r55] : List Int)) (z48 + (1 : Int)) /\ μ50 (x44 ++ ([r55] : List Int)) (z48 + (1 : Int)) < μ50 x44 z48)))))) /\ (¬ (z48 < (m.length : Int)) -> (Jdv Pf Mf mf Cm m x44 (fun q => match q with | (x65, r66) => Yp Pf Mf mf Cm m (fun q => match q with | (c71, x72, x73, r74) => ((r66 ≠ (0 : Int)) -> Q false) /\ (¬ (r66 ≠ (0 : Int)) -> (((r74 ≠ (0 : Int)) -> Q false) /\ (¬ (r74 ≠ (0 : Int)) -> ((((x65.length : Int) ≠ Cm) -> Q false) /\ (¬ ((x65.length : Int) ≠ Cm) -> (∃ (I91 : Int -> Prop) (μ92 : Int -> Nat), I91 (0 : Int) /\ ∀ (z90 : Int), (I91 z90 -> (((z90 < (m.length : Int)) -> ((0 <= z90 /\ z90 < (m.length : Nat)) /\ (∃ (r100 : Int), Jct Pf Mf mf (gl m z90) x65 (fun q => q = r100) /\ ((0 <= z90 /\ z90 < (x44.length : Nat)) /\ (((r100 ≠ (gi x44 z90)) -> Q false) /\ (¬ (r100 ≠ (gi x44 z90)) -> ((I64 (z90 + (1 : Int))) /\ (I91 (z90 + (1 : Int)) /\ μ92 (z90 + (1 : Int)) < μ92 z90)))))))) /\ (¬ (z90 < (m.length : Int)) -> (∃ (I115 : Int -> Prop) (μ116 : Int -> Nat), I115 (0 : Int) /\ ∀ (z114 : Int), (I115 z114 -> (((z114 < (x65.length : Int)) -> ((0 <= z114 /\ z114 < (x65.length : Nat)) /\ (∃ (I126 : Bool -> Int -> Prop) (μ127 : Bool -> Int -> Nat), I126 (decide ((gi x65 z114) = (0 : Int))) (0 : Int) /\ ∀ (b124 : Bool) (z125 : Int), (I126 b124 z125 -> (((z125 < (x73.length : Int)) -> (∃ J131 : Bool -> Prop, ((0 <= z125 /\ z125 < (x73.length : Nat)) /\ (((b124 = true) -> J131 true) /\ (b124 = false -> (J131 (decide ((gi x73 z125) = z114)))))) /\ ∀ (b130 : Bool), (J131 b130 -> ((I64 (z125 + (1 : Int))) /\ (I126 b130 (z125 + (1 : Int)) /\ μ127 b130 (z125 + (1 : Int)) < μ127 b124 z125))))) /\ (¬ (z125 < (x73.length : Int)) -> ((((!b124) = true) -> Q false) /\ ((!b124) = false -> ((I64 (z114 + (1 : Int))) /\ (I115 (z114 + (1 : Int)) /\ μ116 (z114 + (1 : Int)) < μ116 z114)))))))))) /\ (¬ (z114 < (x65.length : Int)) -> Q true)))))))))))))))))))))))))))))))))
theorem Ji1 {w : World} {Q : Bool -> Prop} {Pf : Int} {Mf : Int} {mf : List Int} {Cm : Int} {m : List (List Int)} {x : List Int} {Bf : Nat} {Af : Option Addr} {nf kf : Nat} (hf : Rd Bf w 1 Af nf kf (is mf)) {Am : Option Addr} {nm km : Nat} (hm : Rl w Am nm km m) {Bx : Nat} {Ax : Option Addr} {nx kx : Nat} (hx : Rd Bx w 1 Ax nx kx (is x)) (hv : Jbo Pf Mf mf Cm m x Q) :
    Calls Try.prog 9 #[.agg #[.int .i64 Pf, .int .i64 Mf, .slice Af nf kf], .agg #[.int .i64 Cm, .slice Am nm km], .slice Ax nx kx] w fun e w' => ∃ v Qr, e = .returned v /\ w.grownBy w' none /\ Rows w.heap.size none w' Qr /\ News w.heap.size Qr /\ ∃ (r0 : Bool), v = .bool r0 /\ Qr = [] /\ Q r0 := by
  have hnf := hf.ilen
  subst hnf
  have hnm := hm.len
  subst hnm
  obtain ⟨hsm, hHm⟩ := hm.heads
  have hnx := hx.ilen
  subst hnx
  refine Jp <| Jo (vs := [.agg #[.int .i64 Pf, .int .i64 Mf, .slice Af mf.length kf], .agg #[.int .i64 Cm, .slice Am m.length km], .slice Ax x.length kx]) [6] XF9 rfl rfl rfl rfl ?_
  have hS := Js w
  unfold Jbo at hv
  refine Jg 2 <| JF (z := 3) (cs := [.int .i64 Pf, .int .i64 Mf, .slice Af mf.length kf]) hS rfl rfl rfl rfl ?_
  intro g11 w12 hS
  refine JF (z := 2) (cs := [.int .i64 Cm, .slice Am m.length km]) hS rfl rfl rfl rfl ?_
  intro g13 w14 hS
  refine Jc 2 <| Jg 3 <| SL.call hS (QQ  hv) Jel rfl Je5 rfl rfl ?_
  rintro _ _ w15 ⟨r16, rfl, rfl, hv⟩ hGw15 hS
  have hS := hS.n0
  refine Zh rfl rfl <| Je rfl rfl ?_
  rcases g17 : (!r16) with _ | _
  .have hv := hv.2 g17
   refine WL.take rfl <| Jk (cs := [.int .i64 Cm, .slice Am m.length km]) Jv JN rfl rfl (Jb (hS.own (i := 0) rfl)) rfl <| WL.take rfl <| SL.call hS (Jfg (RlH.rl (RlH.ext hHm hS.ext)) hv) XF16 rfl XN16 rfl rfl ?_
   rintro _ _ w20 ⟨r21, rfl, rfl, hv⟩ hGw20 hS
   have hS := hS.n0
   refine Jc 3 <| Je rfl rfl ?_
   rcases g22 : (!r21) with _ | _
   .have hv := hv.2 g22
    refine Jc 3 <| WL.len Jq rfl rfl <| Jc 4 <| Jm rfl (fun c25 => ?_) (fun c25 => ?_)
    .have hv := hv.1 (of_decide_eq_true c25)
     refine Jg 2 <| SL.call hS (QQ  hv) Jel rfl Je5 rfl rfl ?_
     rintro _ _ w26 ⟨r27, rfl, rfl, hv⟩ hGw26 hS
     have hS := hS.n0
     refine Jc 2 <| W.ret <| ⟨_, rfl, Fin.nil ?_⟩
     exact ⟨_, hS.ext, (hS.pick [] rfl).rows, Ji (hS.pick [] rfl).rows rfl, ⟨r27, rfl, rfl, hv⟩⟩
    have hv := hv.2 (of_decide_eq_false c25)
    refine Jn <| Jg 3 <| Jk (cs := [.int .i64 Pf, .int .i64 Mf, .slice Af mf.length kf]) JT JY rfl rfl (Jb (hS.own (i := 1) rfl)) rfl <| Jk (cs := [.int .i64 Cm, .slice Am m.length km]) Jv JN rfl rfl (Jb (hS.own (i := 0) rfl)) rfl <| SL.call hS (Jgh (hS.ro hf) (RlH.rl (RlH.ext hHm hS.ext)) hv) XF23 rfl XN23 rfl rfl ?_
    rintro _ _ w28 ⟨r29, rfl, rfl, hv⟩ hGw28 hS
    have hS := hS.n0
    refine QY rfl rfl rfl <| Je rfl rfl ?_
    by_cases g30 : r29 ≠ (0 : Int)
    .have hv := hv.1 g30
     rw [decide_eq_true g30]
     refine Jc 8 <| JV rfl <| Jg 4 <| W.ret <| ⟨_, rfl, Fin.nil ?_⟩
     exact ⟨_, hS.ext, (hS.pick [] rfl).rows, Ji (hS.pick [] rfl).rows rfl, ⟨true, rfl, rfl, hv⟩⟩
    have hv := hv.2 g30
    rw [decide_eq_false g30]
    refine WL.take rfl <| Jk (cs := [.int .i64 Pf, .int .i64 Mf, .slice Af mf.length kf]) JT JY rfl rfl (Jb (hS.own (i := 1) rfl)) rfl <| Jc 3 <| Jh (off := 0) J1 rfl rfl <| WL.take rfl <| Jd XU3 rfl rfl (Jb (hS.own (i := 0) rfl) 0 _ rfl) rfl <| WL.take rfl <| SL.call hS (Jl9 (hS.ro hf) (hS.ro hx) hv) XF38 rfl XN38 rfl rfl ?_
    rintro _ _ w31 ⟨r32, rfl, rfl, hv⟩ hGw31 hS
    have hS := hS.n0
    refine Jc 4 <| Jm rfl (fun c33 => ?_) (fun c33 => ?_)
    .have hv := hv.1 (of_decide_eq_true c33)
     refine Jg 4 <| W.ret <| ⟨_, rfl, Fin.nil ?_⟩
     exact ⟨_, hS.ext, (hS.pick [] rfl).rows, Ji (hS.pick [] rfl).rows rfl, ⟨true, rfl, rfl, hv⟩⟩
    have hv := hv.2 (of_decide_eq_false c33)
    refine Jn <| Jg 7 <| Jh (off := 1) JI rfl rfl <| Jd Jt rfl rfl (Jb (hS.own (i := 0) rfl) 1 _ rfl) rfl <| WL.len Jt rfl rfl <| Jc 2 <| W.block ?_
    obtain ⟨I49, μ50, hv, hk142⟩ := hv
    have hS := hS.nil (e := 3) (z := 1)
    have hm0 : 0 = ([] : List Int).length := (hS.rd (i := 0) rfl).ilen.symm
    have hS := hS.relen (i := 0) rfl hm0
    change St _ _ _ _ [.row 3 1 none ([] : List Int).length 0 (is ([] : List Int)), .row 27 2 (some ⟨g13, 0, none⟩) 1 1 [.int .i64 Cm, .slice Am m.length km], .row 24 3 (some ⟨g11, 0, none⟩) 1 1 [.int .i64 Pf, .int .i64 Mf, .slice Af mf.length kf]] at hS
    refine JE (σ := List Int × Int × Option Addr × Nat) (fun q w1 => match q with | (x44, z48, A45, k46) => I49 x44 z48 /\ St TT w none w1 [.row 3 1 A45 x44.length k46 (is x44), .row 27 2 (some ⟨g13, 0, none⟩) 1 1 [.int .i64 Cm, .slice Am m.length km], .row 24 3 (some ⟨g11, 0, none⟩) 1 1 [.int .i64 Pf, .int .i64 Mf, .slice Af mf.length kf]]) (fun q => match q with | (x44, z48, A45, k46) => [(2, .slice Ax x.length kx), (3, .pointer (some ⟨g11, 0, none⟩)), (4, .pointer (some ⟨g13, 0, none⟩)), (6, .bool false), (7, .slice A45 x44.length k46), (48, .slice Am m.length km), (49, .int .i64 (m.length : Int)), (50, .int .i64 z48)]) (fun q => match q with | (x44, z48, A45, k46) => μ50 x44 z48) (([] : List Int), (0 : Int), none, 0) ⟨hv, hS⟩ ⟨rfl, rfl, rfl, rfl, (sm (by first | rfl | assumption | omega)), rfl, rfl, rfl, trivial⟩ ?_
    rintro ⟨x44, z48, A45, k46⟩ w51 ⟨hv, hS⟩
    have hv := hk142 x44 z48 hv
    refine Jg 5 <| Jm rfl (fun c52 => ?_) (fun c52 => ?_)
    .have hv := hv.1 (of_decide_eq_true c52)
     refine Jn <| JB <| W.block <| Jg 2 ?_
     obtain ⟨o53, hv⟩ := hv
     refine Qf Jt Jy hHm rfl rfl o53 rfl <| Jd Jq rfl rfl (hS.cell (RlH.cell hHm o53)) rfl <| Jc 2 <| Jg 2 <| Jk (cs := [.int .i64 Pf, .int .i64 Mf, .slice Af mf.length kf]) JT JY rfl rfl (Jb (hS.own (i := 2) rfl)) rfl <| Jc 2 <| SL.call hS (Jfh (hS.ro hf) (hS.ro (Qw hHm o53)) (hS.ro hx) hv) XF35 rfl XN35 rfl rfl ?_
     rintro _ _ w54 ⟨r55, rfl, rfl, hv⟩ hGw54 hS
     have hS := hS.n0
     refine JQ (vs := is ([r55] : List Int)) hS Jq XE3 rfl rfl rfl rfl (J8 _) rfl ?_
     intro A56 w57 hS
     obtain ⟨o59, hv⟩ := hv
     refine SL.append (cs := is x44) (cs' := is ([r55] : List Int)) 1 ((x44 ++ ([r55] : List Int)).length) (is (x44 ++ ([r55] : List Int))) hS rfl Jq XE3 (hS.rd (i := 0) rfl) (J8 _) rfl rfl (apk o59).1 (apk o59).2 (Jba (hS.rd (i := 1) rfl) (hS.rd (i := 0) rfl)) (QD _ _) rfl ?_
     intro A60 k61 w62 hS
     refine Jc 2 <| JG ?_
     obtain ⟨o63, hv⟩ := hv
     refine WL.add (r := (z48 + (1 : Int))) rfl rfl (wr o63) rfl <| Jc 2 ?_
     have hS := hS.pick [1, 2, 3] rfl
     exact ⟨(x44 ++ ([r55] : List Int), (z48 + (1 : Int)), A60, k61), ⟨rfl, rfl, rfl, rfl, rfl, rfl, rfl, rfl, trivial⟩, hv.2, rfl, hv.1, hS⟩
    have hv := hv.2 (of_decide_eq_false c52)
    refine JA <| Jg 2 <| Jk (cs := [.int .i64 Pf, .int .i64 Mf, .slice Af mf.length kf]) JT JY rfl rfl (Jb (hS.own (i := 2) rfl)) rfl <| Jk (cs := [.int .i64 Cm, .slice Am m.length km]) Jv JN rfl rfl (Jb (hS.own (i := 1) rfl)) rfl <| Je rfl rfl <| SL.call hS (Jkl (hS.ro hf) (RlH.rl (RlH.ext hHm hS.ext)) (hS.rd (i := 0) rfl) hv) XF36 rfl XN36 rfl rfl ?_
    rintro _ _ w64 ⟨x65, r66, A67, k68, rfl, rfl, hv⟩ hGw64 hS
    have hS := hS.n1
    refine Jc 6 <| Jg 2 <| Jk (cs := [.int .i64 Pf, .int .i64 Mf, .slice Af mf.length kf]) JT JY rfl rfl (Jb (hS.own (i := 3) rfl)) rfl <| Jk (cs := [.int .i64 Cm, .slice Am m.length km]) Jv JN rfl rfl (Jb (hS.own (i := 2) rfl)) rfl <| SL.call hS (Jab (hS.ro hf) (RlH.rl (RlH.ext hHm hS.ext)) hv) XF17 rfl XN17 rfl rfl ?_
    rintro _ _ w70 ⟨c71, x72, x73, r74, A75, k76, hs77, A79, k80, rfl, rfl, hv⟩ hGw70 hS
    have hS := hS.n2
    refine Jc 4 <| SL.alloc (cs := [.int .i64 0, .slice none 0 0]) hS Jv rfl rfl ?_
    intro g82 w83 hS
    refine Jw (cs := [.int .i64 c71, .slice A75 x72.length k76]) 0 hS rfl Jv rfl rfl rfl rfl rfl ?_
    intro w84 hS
    refine Jc 3 <| Jg 5 <| Je rfl rfl ?_
    by_cases g85 : r66 ≠ (0 : Int)
    .have hv := hv.1 g85
     rw [decide_eq_true g85]
     refine Jc 11 <| JV rfl <| Jg 4 <| W.ret <| ⟨_, rfl, Fin.nil ?_⟩
     exact ⟨_, hS.ext, (hS.pick [] rfl).rows, Ji (hS.pick [] rfl).rows rfl, ⟨false, rfl, rfl, hv⟩⟩
    have hv := hv.2 g85
    rw [decide_eq_false g85]
    refine Jc 5 <| Je rfl rfl ?_
    by_cases g86 : r74 ≠ (0 : Int)
    .have hv := hv.1 g86
     rw [decide_eq_true g86]
     refine Jc 7 <| JV rfl <| Jg 4 <| W.ret <| ⟨_, rfl, Fin.nil ?_⟩
     exact ⟨_, hS.ext, (hS.pick [] rfl).rows, Ji (hS.pick [] rfl).rows rfl, ⟨false, rfl, rfl, hv⟩⟩
    have hv := hv.2 g86
    rw [decide_eq_false g86]
    refine Jc 3 <| WL.len Jq rfl rfl <| WL.take rfl <| Jh (off := 0) J1 rfl rfl <| WL.take rfl <| Jd XU3 rfl rfl (Jb (hS.own (i := 5) rfl) 0 _ rfl) rfl <| Jc 4 <| Jm rfl (fun c87 => ?_) (fun c87 => ?_)
    .have hv := hv.1 (of_decide_eq_true c87)
     refine Jg 4 <| W.ret <| ⟨_, rfl, Fin.nil ?_⟩
     exact ⟨_, hS.ext, (hS.pick [] rfl).rows, Ji (hS.pick [] rfl).rows rfl, ⟨false, rfl, rfl, hv⟩⟩
    have hv := hv.2 (of_decide_eq_false c87)
    refine Jn <| Jg 3 <| Jh (off := 1) JI rfl rfl <| Jd Jt rfl rfl (Jb (hS.own (i := 5) rfl) 1 _ rfl) rfl <| WL.len Jt rfl rfl <| Jc 2 <| W.block ?_
    obtain ⟨I91, μ92, hv, hk141⟩ := hv
    refine JE (σ := Int) (fun z90 w1 => I91 z90 /\ St TT w none w1 [.row 27 2 (some ⟨g82, 0, none⟩) 1 1 [.int .i64 c71, .slice A75 x72.length k76], mx 22 3 A75 x72.length k76 hs77 x72, .row 3 1 A79 x73.length k80 (is x73), .row 3 1 A67 x65.length k68 (is x65), .row 3 1 A45 x44.length k46 (is x44), .row 27 2 (some ⟨g13, 0, none⟩) 1 1 [.int .i64 Cm, .slice Am m.length km], .row 24 3 (some ⟨g11, 0, none⟩) 1 1 [.int .i64 Pf, .int .i64 Mf, .slice Af mf.length kf]]) (fun z90 => [(3, .pointer (some ⟨g11, 0, none⟩)), (6, .bool false), (7, .slice A45 x44.length k46), (10, .slice A67 x65.length k68), (13, .slice A79 x73.length k80), (90, .slice Am m.length km), (91, .int .i64 (m.length : Int)), (92, .int .i64 z90)]) (fun z90 => μ92 z90) (0 : Int) ⟨hv, hS⟩ ⟨rfl, rfl, rfl, rfl, rfl, rfl, rfl, rfl, trivial⟩ ?_
    rintro z90 w93 ⟨hv, hS⟩
    have hv := hk141 z90 hv
    refine Jg 5 <| Jm rfl (fun c94 => ?_) (fun c94 => ?_)
    .have hv := hv.1 (of_decide_eq_true c94)
     refine Jn <| JB <| W.block <| Jg 3 ?_
     obtain ⟨o95, hv⟩ := hv
     refine Qf Jt Jy hHm rfl rfl o95 rfl <| Jd Jq rfl rfl (hS.cell (RlH.cell hHm o95)) rfl <| Jc 3 <| JB ?_
     obtain ⟨r100, o102, hv⟩ := hv
     obtain ⟨o106, hv⟩ := hv
     refine JU 9 [⟨[], [3], false⟩, ⟨[], [16], true⟩, ⟨[], [10], true⟩, ⟨[0, 1, 2], [], false⟩, ⟨[], [7], true⟩, ⟨[], [15], true⟩, ⟨[4, 5], [], true⟩, ⟨[6], [], false⟩, ⟨[3, 7], [], true⟩] [[(3, .pointer (some ⟨g11, 0, none⟩))], [(16, .slice ((hsm z90.toNat).1) ((gl m z90).length) ((hsm z90.toNat).2))], [(10, .slice A67 x65.length k68)], [], [(7, .slice A45 x44.length k46)], [(15, .int .i64 z90)], [], [], []] [(97, .agg #[.int .i64 Pf, .int .i64 Mf, .slice Af mf.length kf]), (98, .slice ((hsm z90.toNat).1) ((gl m z90).length) ((hsm z90.toNat).2)), (99, .slice A67 x65.length k68), (100, .int .i64 r100), (101, .slice A45 x44.length k46), (102, .int .i64 z90), (103, .pointer (some ((JM A45).add z90.toNat))), (104, .int .i64 (gi x44 z90)), (105, .bool (decide (r100 ≠ (gi x44 z90))))] Try.mixed (by kernel_rfl) rfl rfl ?_ ?_
     . refine ⟨⟨rfl, ⟨rfl, trivial⟩, fun _ hE _ => have hS := hS.grow (hE rfl); Jk (cs := [.int .i64 Pf, .int .i64 Mf, .slice Af mf.length kf]) JT JY rfl rfl (Jb (hS.own (i := 6) rfl)) rfl <| Ja ⟨rfl, Jj _⟩⟩, ⟨rfl, ⟨rfl, trivial⟩, fun _ _ _ => Je rfl rfl <| Ja ⟨rfl, rfl⟩⟩, ⟨rfl, ⟨rfl, trivial⟩, fun _ _ _ => Je rfl rfl <| Ja ⟨rfl, rfl⟩⟩, ⟨rfl, trivial, ?_⟩, ⟨rfl, ⟨rfl, trivial⟩, fun _ _ _ => Je rfl rfl <| Ja ⟨rfl, rfl⟩⟩, ⟨rfl, ⟨rfl, trivial⟩, fun _ _ _ => Je rfl rfl <| Ja ⟨rfl, rfl⟩⟩, ⟨rfl, trivial, fun _ _ _ => Jl Jq XE3 (hS.rd (i := 4) rfl) rfl rfl o106 rfl <| Ja ⟨rfl, rfl⟩⟩, ⟨rfl, trivial, fun _ hE _ => have hS := hS.grow (hE rfl); Jd XU3 rfl rfl (JH (hS.rd (i := 4) rfl) o106) rfl <| Ja ⟨rfl, Jj _⟩⟩, ⟨rfl, trivial, fun _ _ _ => QY rfl rfl rfl <| Ja ⟨rfl, rfl⟩⟩, trivial⟩
       intro w99 hE RR
       have hS := hS.grow (hE rfl)
       refine WL.call XF35 rfl XN35 rfl rfl (JP (Jfh (hS.ro hf) (hS.ro (Qw hHm o95)) (hS.rd (i := 3) rfl) o102)) ?_
       rintro _ w101 ⟨_, hGw101, hRww101, hNww101, r100q, rfl, rfl, he⟩
       subst he
       exact Ja ⟨rfl, hGw101⟩
     intro w109 hT
     have hS := hS.grow hT
     refine Jr (by decide +kernel) <| Jm rfl (fun c110 => ?_) (fun c110 => ?_)
     .have hv := hv.1 (of_decide_eq_true c110)
      refine Jg 4 <| W.ret <| ⟨_, rfl, Fin.nil ?_⟩
      exact ⟨_, hS.ext, (hS.pick [] rfl).rows, Ji (hS.pick [] rfl).rows rfl, ⟨false, rfl, rfl, hv⟩⟩
     have hv := hv.2 (of_decide_eq_false c110)
     refine Jn <| JG ?_
     obtain ⟨o111, hv⟩ := hv
     refine WL.add (r := (z90 + (1 : Int))) rfl rfl (wr o111) rfl <| Jc 2 ?_
     exact ⟨(z90 + (1 : Int)), ⟨rfl, rfl, rfl, rfl, rfl, rfl, rfl, rfl, trivial⟩, hv.2, rfl, hv.1, hS⟩
    have hv := hv.2 (of_decide_eq_false c94)
    refine JA <| Jg 4 <| WL.len Jq rfl rfl <| Jc 2 <| W.block ?_
    obtain ⟨I115, μ116, hv, hk140⟩ := hv
    refine JE (σ := Int) (fun z114 w1 => I115 z114 /\ St TT w none w1 [.row 27 2 (some ⟨g82, 0, none⟩) 1 1 [.int .i64 c71, .slice A75 x72.length k76], mx 22 3 A75 x72.length k76 hs77 x72, .row 3 1 A79 x73.length k80 (is x73), .row 3 1 A67 x65.length k68 (is x65), .row 3 1 A45 x44.length k46 (is x44), .row 27 2 (some ⟨g13, 0, none⟩) 1 1 [.int .i64 Cm, .slice Am m.length km], .row 24 3 (some ⟨g11, 0, none⟩) 1 1 [.int .i64 Pf, .int .i64 Mf, .slice Af mf.length kf]]) (fun z114 => [(6, .bool false), (13, .slice A79 x73.length k80), (107, .slice A67 x65.length k68), (108, .int .i64 (x65.length : Int)), (109, .int .i64 z114)]) (fun z114 => μ116 z114) (0 : Int) ⟨hv, hS⟩ ⟨rfl, rfl, rfl, rfl, rfl, trivial⟩ ?_
    rintro z114 w117 ⟨hv, hS⟩
    have hv := hk140 z114 hv
    refine Jg 5 <| Jm rfl (fun c118 => ?_) (fun c118 => ?_)
    .have hv := hv.1 (of_decide_eq_true c118)
     refine Jn <| JB <| W.block <| Jg 3 ?_
     obtain ⟨o119, hv⟩ := hv
     refine Jl Jq XE3 (hS.rd (i := 3) rfl) rfl rfl o119 rfl <| Jd XU3 rfl rfl (JH (hS.rd (i := 3) rfl) o119) rfl <| Jc 3 <| Jg 10 <| WL.len Jq rfl rfl <| Jc 2 <| W.block ?_
     obtain ⟨I126, μ127, hv, hk139⟩ := hv
     refine JE (σ := Bool × Int) (fun q w1 => match q with | (b124, z125) => I126 b124 z125 /\ St TT w none w1 [.row 27 2 (some ⟨g82, 0, none⟩) 1 1 [.int .i64 c71, .slice A75 x72.length k76], mx 22 3 A75 x72.length k76 hs77 x72, .row 3 1 A79 x73.length k80 (is x73), .row 3 1 A67 x65.length k68 (is x65), .row 3 1 A45 x44.length k46 (is x44), .row 27 2 (some ⟨g13, 0, none⟩) 1 1 [.int .i64 Cm, .slice Am m.length km], .row 24 3 (some ⟨g11, 0, none⟩) 1 1 [.int .i64 Pf, .int .i64 Mf, .slice Af mf.length kf]]) (fun q => match q with | (b124, z125) => [(6, .bool false), (13, .slice A79 x73.length k80), (17, .int .i64 z114), (18, .int .i64 (gi x65 z114)), (19, .bool b124), (107, .slice A67 x65.length k68), (108, .int .i64 (x65.length : Int)), (109, .int .i64 z114), (110, .bool (decide (z114 < (x65.length : Int)))), (116, .slice A79 x73.length k80), (117, .int .i64 (x73.length : Int)), (118, .int .i64 z125)]) (fun q => match q with | (b124, z125) => μ127 b124 z125) ((decide ((gi x65 z114) = (0 : Int))), (0 : Int)) ⟨hv, hS⟩ ⟨rfl, rfl, rfl, rfl, rfl, rfl, rfl, rfl, rfl, rfl, rfl, rfl, trivial⟩ ?_
     rintro ⟨b124, z125⟩ w128 ⟨hv, hS⟩
     have hv := hk139 b124 z125 hv
     refine Jg 5 <| Jm rfl (fun c129 => ?_) (fun c129 => ?_)
     .have hv := hv.1 (of_decide_eq_true c129)
      refine Jn <| JB ?_
      obtain ⟨J131, hv, hk136⟩ := hv
      refine Qx (σ := Bool) (fun b130 w1 => J131 b130 /\ St TT w none w1 [.row 27 2 (some ⟨g82, 0, none⟩) 1 1 [.int .i64 c71, .slice A75 x72.length k76], mx 22 3 A75 x72.length k76 hs77 x72, .row 3 1 A79 x73.length k80 (is x73), .row 3 1 A67 x65.length k68 (is x65), .row 3 1 A45 x44.length k46 (is x44), .row 27 2 (some ⟨g13, 0, none⟩) 1 1 [.int .i64 Cm, .slice Am m.length km], .row 24 3 (some ⟨g11, 0, none⟩) 1 1 [.int .i64 Pf, .int .i64 Mf, .slice Af mf.length kf]]) (fun b130 => [(6, .bool false), (13, .slice A79 x73.length k80), (17, .int .i64 z114), (18, .int .i64 (gi x65 z114)), (19, .bool b130), (21, .int .i64 (gi x73 z125)), (107, .slice A67 x65.length k68), (108, .int .i64 (x65.length : Int)), (109, .int .i64 z114), (110, .bool (decide (z114 < (x65.length : Int)))), (116, .slice A79 x73.length k80), (117, .int .i64 (x73.length : Int)), (118, .int .i64 z125), (119, .bool (decide (z125 < (x73.length : Int))))]) ?_ ?_
      .refine W.block ?_
       refine Jg 2 ?_
       obtain ⟨o132, hv⟩ := hv
       refine Jl Jq XE3 (hS.rd (i := 2) rfl) rfl rfl o132 rfl <| Jd XU3 rfl rfl (JH (hS.rd (i := 2) rfl) o132) rfl <| Jc 2 <| Jg 2 <| Je rfl rfl ?_
       cases g133 : b124
       .have hv := hv.2 g133
        refine Jc 9 ?_
        exact ⟨(decide ((gi x73 z125) = z114)), ⟨rfl, rfl, rfl, rfl, rfl, rfl, rfl, rfl, rfl, rfl, rfl, rfl, rfl, rfl, trivial⟩, rfl, hv, hS⟩
       have hv := hv.1 g133
       refine Jc 6 ?_
       exact ⟨true, ⟨rfl, rfl, rfl, rfl, rfl, rfl, rfl, rfl, rfl, rfl, rfl, rfl, rfl, rfl, trivial⟩, rfl, hv, hS⟩
      rintro b130 w134 ⟨hv, hS⟩
      have hv := hk136 b130 hv
      refine JG ?_
      obtain ⟨o135, hv⟩ := hv
      refine WL.add (r := (z125 + (1 : Int))) rfl rfl (wr o135) rfl <| Jc 2 ?_
      exact ⟨(b130, (z125 + (1 : Int))), ⟨rfl, rfl, rfl, rfl, rfl, rfl, rfl, rfl, rfl, rfl, rfl, rfl, trivial⟩, hv.2, rfl, hv.1, hS⟩
     have hv := hv.2 (of_decide_eq_false c129)
     refine JA <| Jg 5 <| Jm rfl (fun c137 => ?_) (fun c137 => ?_)
     .have hv := hv.1 (c137)
      refine Jg 4 <| W.ret <| ⟨_, rfl, Fin.nil ?_⟩
      exact ⟨_, hS.ext, (hS.pick [] rfl).rows, Ji (hS.pick [] rfl).rows rfl, ⟨false, rfl, rfl, hv⟩⟩
     have hv := hv.2 (c137)
     refine Jn <| JG ?_
     obtain ⟨o138, hv⟩ := hv
     refine WL.add (r := (z114 + (1 : Int))) rfl rfl (wr o138) rfl <| Jc 2 ?_
     exact ⟨(z114 + (1 : Int)), ⟨rfl, rfl, rfl, rfl, rfl, trivial⟩, hv.2, rfl, hv.1, hS⟩
    have hv := hv.2 (of_decide_eq_false c118)
    refine JA <| Jg 4 <| W.ret <| ⟨_, rfl, Fin.nil ?_⟩
    exact ⟨_, hS.ext, (hS.pick [] rfl).rows, Ji (hS.pick [] rfl).rows rfl, ⟨true, rfl, rfl, hv⟩⟩
   have hv := hv.1 g22
   refine Jc 5 <| JV rfl <| Jg 2 <| SL.call hS (QQ  hv) Jel rfl Je5 rfl rfl ?_
   rintro _ _ w23 ⟨r24, rfl, rfl, hv⟩ hGw23 hS
   have hS := hS.n0
   refine Jc 2 <| W.ret <| ⟨_, rfl, Fin.nil ?_⟩
   exact ⟨_, hS.ext, (hS.pick [] rfl).rows, Ji (hS.pick [] rfl).rows rfl, ⟨r24, rfl, rfl, hv⟩⟩
  have hv := hv.1 g17
  refine Jc 10 <| JV rfl <| Jg 2 <| SL.call hS (QQ  hv) Jel rfl Je5 rfl rfl ?_
  rintro _ _ w18 ⟨r19, rfl, rfl, hv⟩ hGw18 hS
  have hS := hS.n0
  refine Jc 2 <| W.ret <| ⟨_, rfl, Fin.nil ?_⟩
  exact ⟨_, hS.ext, (hS.pick [] rfl).rows, Ji (hS.pick [] rfl).rows rfl, ⟨r19, rfl, rfl, hv⟩⟩
end Go.Proofs.Ytiboieijhehjnaa
set_option linter.unusedVariables false
set_option linter.unusedSimpArgs false
namespace Go.Proofs.Ytiboieijhehjnaa
section
variable {p m v n w wy : Nat}
/-- rows and pivots don't hang on what stands beside -/
theorem Jmu {S U : ES} (hX : S.X = U.X) (hp : S.pv = U.pv) (c : Nat) : (QI p m v S c).X = (QI p m v U c).X /\ (QI p m v S c).pv = (QI p m v U c).pv := by
  unfold QI
  rw [hX, hp]
  split
  . refine ⟨?_, ?_⟩
    . rw [ZK, ZK, hX]
    . show S.pv ++ _ = U.pv ++ _; rw [hp]
  . exact ⟨hX, hp⟩
theorem Jeh {S U : ES} (hX : S.X = U.X) (hp : S.pv = U.pv) : ∀ k, (elim p m v k S).X = (elim p m v k U).X /\ (elim p m v k S).pv = (elim p m v k U).pv
  | 0 => ⟨hX, hp⟩
  | k + 1 => by rw [QE, QE]; exact Jmu (Jeh hX hp k).1 (Jeh hX hp k).2 k
end
section
variable {F : GFv} {p m v g : Nat} {P M : Int} {mf : List Int} {X Y : List (List Int)}
end
end Go.Proofs.Ytiboieijhehjnaa
set_option linter.unusedVariables false
set_option linter.unusedSimpArgs false
namespace Go.Proofs.Ytiboieijhehjnaa
section
variable {F : GFv} {p m v g : Nat} {P M : Int} {mf : List Int} {X Y : List (List Int)} {C : Int}
theorem Jfd (C : Nat) (pv : List Int) (Z : List (List Int)) : ∀ k, (slv C pv Z k).length = C
  | 0 => by simp [slv]
  | k + 1 => by
    rw [Ja1]
    split
    . rw [List.length_set]; exact Jfd C pv Z k
    . exact Jfd C pv Z k
end
end Go.Proofs.Ytiboieijhehjnaa
set_option linter.unusedVariables false
set_option linter.unusedSimpArgs false
namespace Go.Proofs.Ytiboieijhehjnaa
section
variable {F : GFv} {p m v g : Nat} {P M : Int} {mf : List Int} {X : List (List Int)} {C : Int} {set y : List Int}
/-! ### combinations of rows, by the reference -/
theorem Jo0 {x : List Int} {n : Nat} {Q : Int -> Prop} (hF : FV P M mf p m v) (hn : n <= 1000000) (h : Q (vce p m x n)) : Y8 P M mf x (n : Int) Q := by
  refine ⟨fun hne => ?_, fun he => ?_⟩
  . have hne' : x.length ≠ n := by omega
    unfold vce at h; rw [if_pos hne'] at h; exact h
  . have he' : x.length = n := by have := Classical.not_not.1 he; omega
    unfold vce at h; rw [if_neg (fun hh => hh he')] at h
    refine Jce hF (by omega) (fun h1 => ?_) (fun h1 => ?_)
    . rw [if_neg (fun hh => hh h1)] at h; exact h
    . rw [if_pos h1] at h; exact h
end
end Go.Proofs.Ytiboieijhehjnaa
set_option linter.unusedVariables false
set_option linter.unusedSimpArgs false
namespace Go.Proofs.Ytiboieijhehjnaa
section
variable {p m v : Nat} {P M : Int} {mf : List Int} {X Y : List (List Int)} {C : Int} {w wy : Nat}
theorem Jsq (hF : FV P M mf p m v) (a b : List Int) (c : Nat) : e2 p m w a b c < p ^ m := by
  unfold e2; split <;> exact Qm hF _ _
def An2 (p m w : Nat) (f : (Nat -> Nat) -> Nat) (X Y : List (List Int)) : Prop := ∀ t, t < X.length -> f (e2 p m w (row X t) (row Y t)) = 0
theorem Jkn {f : (Nat -> Nat) -> Nat} (L : Lin p m v (w + wy) f) (hF : FV P M mf p m v) {a o b r : List Int} {x : Int} (ha : a.length = w) (hb : b.length = wy) : f (e2 p m w (adx p m v a x o) (adx p m v b x r)) = JX p m (f (e2 p m w a b)) (Ju p m (dv p v) (inE (p ^ m) x) (f (e2 p m w o r))) := by
  rw [<- L.ad (Jsq hF a b) (Jsq hF o r) (J6 (by have := hF.ring.q2; omega) x)]
  refine L.cg fun c hc => ?_
  unfold e2
  split
  . exact Jg1 hF (by omega)
  . exact Jg1 hF (by omega)
theorem Ju0 {f : (Nat -> Nat) -> Nat} (L : Lin p m v (w + wy) f) (hF : FV P M mf p m v) {a b : List Int} {x : Int} (ha : a.length = w) (hb : b.length = wy) : f (e2 p m w (sc p m v x a) (sc p m v x b)) = Ju p m (dv p v) (inE (p ^ m) x) (f (e2 p m w a b)) := by
  rw [<- L.ml (Jsq hF a b) (J6 (by have := hF.ring.q2; omega) x)]
  refine L.cg fun c hc => ?_
  unfold e2
  split
  . exact Jso hF (by omega)
  . exact Jso hF (by omega)
/-- one step, forth and back -/
theorem Jtc {g : Nat} (K : Gn (p ^ m) (Ju p m (dv p v)) g) (hF : FV P M mf p m v) {f : (Nat -> Nat) -> Nat} (L : Lin p m v (w + wy) f) {S : ES} {c n : Nat} (he : Els p m S.X) (hS : Shp n w wy S) : An2 p m w f (QI p m v S c).X (QI p m v S c).Y ↔ An2 p m w f S.X S.Y := by
  have R := hF.ring
  have hq : 0 < p ^ m := by have := R.q2; omega
  have q1 : 1 < p ^ m := R.q2
  unfold QI
  split
  case isFalse => exact Iff.rfl
  case isTrue h1 =>
    obtain ⟨hc, hr⟩ := h1
    have hxl := hS.xl
    have hyl := hS.yl
    have hne := (Jac S.X c S.pv.length (by omega)).2.2 hr
    have hcl : c < (row S.X (nz S.X c S.pv.length)).length := by
      rcases Nat.lt_or_ge c (row S.X (nz S.X c S.pv.length)).length with h | h
      . exact h
      . exact absurd (Jc0 h) hne
    have hel : El p m (vo (row S.X (nz S.X c S.pv.length)) c) := Qa he _ _ (Jaz hcl)
    obtain ⟨h4, h5⟩ := Jsa K hF hne hel
    generalize nz S.X c S.pv.length = r at *
    generalize S.pv.length = cur at *
    have hi := J6 (q := p ^ m) hq (Iv p m v (vo (row S.X r) c))
    have hx : ∀ t, t < S.X.length -> ∃ z : Int, row (es1 p m v c r cur S).X t = (if t = cur then sc p m v (Iv p m v (vo (row S.X r) c)) (row S.X r) else adx p m v (if t = r then row S.X cur else row S.X t) z (sc p m v (Iv p m v (vo (row S.X r) c)) (row S.X r))) /\ row (es1 p m v c r cur S).Y t = (if t = cur then sc p m v (Iv p m v (vo (row S.X r) c)) (row S.Y r) else adx p m v (if t = r then row S.Y cur else row S.Y t) z (sc p m v (Iv p m v (vo (row S.X r) c)) (row S.Y r))) := fun t ht => by
      refine ⟨Ng p m (vo (row (scq p m v (swq S.X r cur) cur (vo (row (swq S.X r cur) cur) c)) t) c), ?_, ?_⟩
      . rw [ZK, YJ (by rw [Qu, JR]; exact ht), Z6 (by rw [JR]; exact hc), Z6 (by rw [JR]; exact hc), Yg hr hc, Yg hr hc, if_pos rfl, if_pos rfl]
        split <;> rfl
      . rw [Jks, YJ (by rw [Qu, JR]; omega), Z6 (X := swq S.Y r cur) (by rw [JR]; omega), Z6 (X := swq S.Y r cur) (by rw [JR]; omega), Yg (X := S.Y) (by omega) (by omega), Yg (X := S.Y) (by omega) (by omega), Yg hr hc, if_pos rfl, if_pos rfl, if_pos rfl]
        split <;> rfl
    have hn : (es1 p m v c r cur S).X.length = S.X.length := by rw [ZK, Y4, Qu, JR]
    have hcur : f (e2 p m w (row (es1 p m v c r cur S).X cur) (row (es1 p m v c r cur S).Y cur)) = Ju p m (dv p v) (inE (p ^ m) (Iv p m v (vo (row S.X r) c))) (f (e2 p m w (row S.X r) (row S.Y r))) := by
      obtain ⟨z, e1, e3⟩ := hx cur hc
      rw [e1, e3, if_pos rfl, if_pos rfl, Ju0 L hF (hS.xr r (by omega)) (hS.yr r (by omega))]
    have hoth : ∀ t, t < S.X.length -> t ≠ cur -> ∃ z : Nat, z < p ^ m /\ f (e2 p m w (row (es1 p m v c r cur S).X t) (row (es1 p m v c r cur S).Y t)) = JX p m (f (e2 p m w (row S.X (if t = r then cur else t)) (row S.Y (if t = r then cur else t)))) (Ju p m (dv p v) z (f (e2 p m w (row (es1 p m v c r cur S).X cur) (row (es1 p m v c r cur S).Y cur)))) := fun t ht hne' => by
      obtain ⟨z, e1, e3⟩ := hx t ht
      obtain ⟨z', e4, e5⟩ := hx cur hc
      rw [if_pos rfl] at e4 e5
      rw [if_neg hne'] at e1 e3
      refine ⟨inE (p ^ m) z, J6 hq z, ?_⟩
      rw [e1, e3, e4, e5]
      by_cases e : t = r
      . rw [if_pos e, if_pos e, if_pos e]; exact Jkn L hF (hS.xr cur (by omega)) (hS.yr cur (by omega))
      . rw [if_neg e, if_neg e, if_neg e]; exact Jkn L hF (hS.xr t (by omega)) (hS.yr t (by omega))
    refine ⟨fun h t ht => ?_, fun h t ht => ?_⟩
    . have h6 := h cur (by rw [hn]; exact hc)
      have h7 : f (e2 p m w (row S.X r) (row S.Y r)) = 0 := by
        rw [hcur] at h6
        have h8 := R.Ma h4 hi (L.lt (e2 p m w (row S.X r) (row S.Y r)))
        rw [h5, h6, R.M0 h4, R.Mc q1 (L.lt _), R.M1 (L.lt _)] at h8
        exact h8
      have key : ∀ s, s < S.X.length -> s ≠ cur -> f (e2 p m w (row S.X (if s = r then cur else s)) (row S.Y (if s = r then cur else s))) = 0 := fun s hs hsc => by
        obtain ⟨z, hz, e⟩ := hoth s hs hsc
        have h9 := h s (by rw [hn]; exact hs)
        rw [e, h6, R.M0 hz, R.Az (L.lt _)] at h9
        exact h9
      by_cases e : t = r
      . rw [e]; exact h7
      . by_cases ec : t = cur
        . have := key r hr (fun h => e (ec.trans h.symm))
          rw [if_pos rfl] at this
          rw [ec]; exact this
        . have := key t ht ec
          rw [if_neg e] at this; exact this
    . rw [hn] at ht
      have h6 : f (e2 p m w (row (es1 p m v c r cur S).X cur) (row (es1 p m v c r cur S).Y cur)) = 0 := by rw [hcur, h r hr, R.M0 hi]
      by_cases ec : t = cur
      . rw [ec]; exact h6
      . obtain ⟨z, hz, e⟩ := hoth t ht ec
        rw [e, h6, R.M0 hz, h _ (by split <;> omega), R.Az hq]
theorem Jk9 {g : Nat} (K : Gn (p ^ m) (Ju p m (dv p v)) g) (hF : FV P M mf p m v) {f : (Nat -> Nat) -> Nat} (L : Lin p m v (w + wy) f) {n : Nat} {S : ES} (hS : Shp n w wy S) (he : Els p m S.X) : ∀ k, An2 p m w f (elim p m v k S).X (elim p m v k S).Y ↔ An2 p m w f S.X S.Y
  | 0 => Iff.rfl
  | k + 1 => by
    rw [QE]
    exact (Jtc K hF L (ZL (by have := hF.p2; omega) he k) (QS hS k)).trans (Jk9 K hF L hS he k)
end
end Go.Proofs.Ytiboieijhehjnaa
set_option linter.unusedVariables false
set_option linter.unusedSimpArgs false
namespace Go.Proofs.Ytiboieijhehjnaa
section
variable {p m v : Nat} {P M : Int} {mf : List Int} {X Y : List (List Int)} {C : Int} {w wy : Nat}
/-! ### what stands beside keeps elements -/
theorem Jsm (hp : 0 < p) {c r cur : Nat} {S : ES} (h : Els p m S.Y) (hr : r < S.Y.length) (hc : cur < S.Y.length) : Els p m (es1 p m v c r cur S).Y := by
  rw [Jks]
  have h1 : Els p m (swq S.Y r cur) := Zf fun t ht => by
    rw [JR] at ht
    unfold swq
    split
    . exact Qa h t
    . rw [Zs hr hc]
      split
      . exact Qa h _
      . split <;> exact Qa h _
  have h2 : ∀ e, Els p m (scq p m v (swq S.Y r cur) cur e) := fun e => Zf fun t ht => by
    unfold scq; rw [Qp]
    split
    . exact Jl2 hp
    . exact Qa h1 t
  refine Zf fun t ht => ?_
  rw [Y4] at ht
  rw [YJ ht]
  split
  . exact Qa (h2 _) t
  . exact Jjm hp (Qa (h2 _) t)
theorem Jh7 (hp : 0 < p) {n : Nat} {S : ES} (hS : Shp n w wy S) (h : Els p m S.Y) : ∀ k, Els p m (elim p m v k S).Y
  | 0 => h
  | k + 1 => by
    have h1 := QS (p := p) (m := m) (v := v) hS k
    have h2 := Jh7 hp hS h k
    rw [QE]
    unfold QI
    split
    . rename_i hc
      have hx := h1.xl; have hy := h1.yl
      exact Jsm hp h2 (by omega) (by omega)
    . exact h2
/-! ### systems of equations -/
theorem Juv (hF : FV P M mf p m v) {A z : Nat} (hA : A < p ^ m) (hz : z < p ^ m) : JX p m A (Ju p m (dv p v) (Q8 p m 1) z) = 0 ↔ A = z := by
  have R := hF.ring
  have hp : 0 < p := by have := hF.p2; omega
  have q1 : 1 < p ^ m := R.q2
  have hn := Y3 (m := m) hp 1
  have h0 : JX p m (Ju p m (dv p v) (Q8 p m 1) z) z = 0 := by
    have : JX p m (Ju p m (dv p v) z (Q8 p m 1)) (Ju p m (dv p v) z 1) = 0 := by rw [<- R.Md hz hn q1, R.Ac, Ze hp q1, R.M0 hz]
    rwa [R.M1 hz, R.Mc hz hn] at this
  constructor
  . intro h
    have e : JX p m (JX p m A (Ju p m (dv p v) (Q8 p m 1) z)) z = JX p m 0 z := by rw [h]
    rw [R.Aa hA (R.Ml _ _) hz, h0, R.Az hA, R.Ac, R.Az hz] at e
    exact e
  . rintro rfl; rw [R.Ac]; exact h0
theorem u1_lt (hF : FV P M mf p m v) {u : Nat -> Nat} (hu : ∀ c, u c < p ^ m) (c : Nat) : u1 p m w u c < p ^ m := by
  unfold u1; split
  . exact hu c
  . exact Y3 (by have := hF.p2; omega) _
theorem kill (hF : FV P M mf p m v) {u : Nat -> Nat} (hu : ∀ c, u c < p ^ m) (a r : List Int) : dt p m v (w + 1) (u1 p m w u) (e2 p m w a r) = 0 ↔ dt p m v w u (en p m a) = inE (p ^ m) (vo r 0) := by
  have e1 : dt p m v w (u1 p m w u) (e2 p m w a r) = dt p m v w u (en p m a) := Yb _ fun c hc => by unfold u1 e2; rw [if_pos hc, if_pos hc]
  have e2' : e2 p m w a r w = inE (p ^ m) (vo r 0) := by unfold e2; rw [if_neg (by omega), Nat.sub_self]; rfl
  have e3 : u1 p m w u w = Q8 p m 1 := if_neg (by omega)
  show JX p m (dt p m v w (u1 p m w u) (e2 p m w a r)) (Ju p m (dv p v) (u1 p m w u w) (e2 p m w a r w)) = 0 ↔ _
  rw [e1, e2', e3]
  exact Juv hF (YD hF _ _) (J6 (by have := hF.ring.q2; omega) _)
theorem Jsp (hF : FV P M mf p m v) (hs : shp C X) (he : Els p m X) {b : List Int} (hb : b.length = X.length) {u : Nat -> Nat} (hu : ∀ c, u c < p ^ m) :
    (∀ t, t < X.length -> dt p m v C.toNat u (en p m (row X t)) = inE (p ^ m) (vo b t)) ↔ (∀ t, t < X.length -> dt p m v C.toNat u (en p m (row (eb p m v C X b).X t)) = inE (p ^ m) (vo (row (eb p m v C X b).Y t) 0)) := by
  obtain ⟨g, G⟩ := Jgx hF
  have hS := Jmv hs hb
  have hS2 := QS (p := p) (m := m) (v := v) hS C.toNat
  have h := Jk9 G hF (Jbg (w := C.toNat + 1) hF fun c => u1_lt (w := C.toNat) hF hu c) hS he C.toNat
  have l1 : ∀ t, t < X.length -> (dt p m v (C.toNat + 1) (u1 p m C.toNat u) (e2 p m C.toNat (row X t) (row (rgt b) t)) = 0 ↔ dt p m v C.toNat u (en p m (row X t)) = inE (p ^ m) (vo b t)) := fun t ht => by
    have := kill (w := C.toNat) hF hu (row X t) (row (rgt b) t)
    rwa [show vo (row (rgt b) t) 0 = vo b t by rw [Jip (by omega)]; rfl] at this
  have hxl := hS2.xl
  constructor
  . intro hx t ht
    exact (kill (w := C.toNat) hF hu _ _).1 (h.2 (fun t ht => (l1 t ht).2 (hx t ht)) t (by omega))
  . intro hx t ht
    exact (l1 t ht).1 (h.1 (fun t ht => (kill (w := C.toNat) hF hu _ _).2 (hx t (by omega))) t ht)
theorem Jc3 {n d : Nat} {pv : List Int} {Z : List (List Int)} : ∀ k, (∀ i, i < k -> i < pv.length -> (vo pv i).toNat ≠ d) -> vo (slv n pv Z k) d = 0
  | 0, _ => Z3 n d
  | k + 1, h => by
    rw [Ja1]
    split
    . rename_i hk
      rw [J7, if_neg (fun e => h k (by omega) hk e.1)]
      exact Jc3 k fun i hi => h i (by omega)
    . exact Jc3 k fun i hi => h i (by omega)
theorem Jlz {n : Nat} {pv : List Int} {Z : List (List Int)} (hp : Asc n pv) : ∀ k i, i < k -> i < pv.length -> vo (slv n pv Z k) (vo pv i).toNat = vo (row Z i) 0
  | 0, i, h, _ => absurd h (Nat.not_lt_zero _)
  | k + 1, i, h, hi => by
    rw [Ja1]
    have hpi := hp.1 i hi
    split
    . rename_i hk
      have hpk := hp.1 k hk
      rw [J7]
      by_cases e : k = i
      . subst e; rw [if_pos ⟨rfl, by rw [Jfd]; omega⟩]
      . have := hp.2 i k (by omega) hk
        rw [if_neg (fun q => by have := q.1; omega)]; exact Jlz hp k i (by omega) hi
    . rename_i hk
      exact Jlz hp k i (by omega) hi
/-- The system of the products of a word has the solution that is read off, and no equation is left over. -/
theorem Jps (hF : FV P M mf p m v) (hs : shp C X) (he : Els p m X) {b : List Int} (hb : b.length = X.length) (hbe : Elr p m b) {u : Nat -> Nat} (hu : ∀ c, u c < p ^ m) (hx : ∀ t, t < X.length -> dt p m v C.toNat u (en p m (row X t)) = inE (p ^ m) (vo b t)) :
    (∀ i, (eb p m v C X b).pv.length <= i -> i < b.length -> vo (row (eb p m v C X b).Y i) 0 = 0) /\
    (∀ t, t < X.length -> dt p m v C.toNat (en p m (slv C.toNat (eb p m v C X b).pv (eb p m v C X b).Y b.length)) (en p m (row X t)) = inE (p ^ m) (vo b t)) := by
  have R := hF.ring
  have hp : 0 < p := by have := hF.p2; omega
  have hq : 0 < p ^ m := by have := R.q2; omega
  obtain ⟨g, G⟩ := Jgx hF
  have hS := Jmv hs hb
  have hS2 : Shp X.length C.toNat 1 (eb p m v C X b) := QS (p := p) (m := m) (v := v) hS C.toNat
  have hR : Red C.toNat (eb p m v C X b) := Jgc G hF hS he rfl C.toNat
  have hasc : Asc C.toNat (eb p m v C X b).pv := Jbf (p := p) (m := m) (v := v) (S := ⟨X, rgt b, [], 1⟩) rfl C.toNat
  have hY0 : Els p m (rgt b) := fun r hr => by
    obtain ⟨y, hy, rfl⟩ := List.mem_map.1 hr
    intro x hxx
    rw [List.mem_singleton.1 hxx]; exact hbe y hy
  have hYe : Els p m (eb p m v C X b).Y := Jh7 (v := v) hp hS hY0 C.toNat
  have hE := (Jsp hF hs he hb hu).1 hx
  have key : ∀ (i : Nat), (eb p m v C X b).pv.length <= i -> i < b.length -> vo (row (eb p m v C X b).Y i) 0 = 0 /\ ∀ u', (∀ c, u' c < p ^ m) -> dt p m v C.toNat u' (en p m (row (eb p m v C X b).X i)) = 0 := fun i h1 h2 => by
    have hz : ∀ u', (∀ c, u' c < p ^ m) -> dt p m v C.toNat u' (en p m (row (eb p m v C X b).X i)) = 0 := fun u' hu' => Y0 hF _ fun c hc => by
      show Ju p m (dv p v) (u' c) (inE (p ^ m) (vo (row (eb p m v C X b).X i) c)) = 0
      rw [hR.lo i h1 (by rw [hS2.xl]; omega) c hc, show inE (p ^ m) 0 = 0 from Ql (x := 0) hq, R.M0 (hu' c)]
    have h3 := hE i (by omega)
    rw [hz u hu] at h3
    refine ⟨?_, hz⟩
    have hyr := hS2.yr i (by omega)
    have hel : El p m (vo (row (eb p m v C X b).Y i) 0) := Jbe (Qa hYe i) (by omega)
    have := Jcn hel
    rw [<- h3] at this
    exact this.symm
  refine ⟨fun i h1 h2 => (key i h1 h2).1, (Jsp hF hs he hb fun c => Qm hF _ c).2 fun t ht => ?_⟩
  rcases Nat.lt_or_ge t (eb p m v C X b).pv.length with h1 | h1
  . have hpt := hasc.1 t h1
    have h2 := Jed hF (f := fun c => Ju p m (dv p v) (en p m (slv C.toNat (eb p m v C X b).pv (eb p m v C X b).Y b.length) c) (en p m (row (eb p m v C X b).X t) c)) (j := (vo (eb p m v C X b).pv t).toNat) (R.Ml _ _) C.toNat (by
        have : vo (eb p m v C X b).pv t < ((C.toNat : Nat) : Int) := hpt.2
        have : 0 <= vo (eb p m v C X b).pv t := hpt.1
        omega) fun c hc hne => by
      show Ju p m (dv p v) (en p m _ c) (en p m _ c) = 0
      by_cases hex : ∃ i, i < (eb p m v C X b).pv.length /\ (vo (eb p m v C X b).pv i).toNat = c
      . obtain ⟨i, hi, hic⟩ := hex
        have h3 := hR.one i hi t (by rw [hS2.xl]; exact ht)
        have hti : t ≠ i := fun e => hne (by rw [e]; exact hic.symm)
        rw [if_neg hti] at h3
        have h4 : en p m (row (eb p m v C X b).X t) c = 0 := by
          rw [<- hic]; exact YV hF (z := 0) hq h3
        rw [h4, R.M0 (Qm hF _ _)]
      . have h3 : vo (slv C.toNat (eb p m v C X b).pv (eb p m v C X b).Y b.length) c = 0 := Jc3 _ fun i _ hi e => hex ⟨i, hi, e⟩
        have h4 : en p m (slv C.toNat (eb p m v C X b).pv (eb p m v C X b).Y b.length) c = 0 := YV hF (z := 0) hq h3
        rw [h4, R.Mc hq (Qm hF _ _), R.M0 (Qm hF _ _)]
    show fs p m _ C.toNat = _
    rw [h2]
    have h3 := hR.one t h1 t (by rw [hS2.xl]; exact ht)
    rw [if_pos rfl] at h3
    have h4 : en p m (row (eb p m v C X b).X t) (vo (eb p m v C X b).pv t).toNat = 1 := YV hF (z := 1) R.q2 h3
    have h5 : en p m (slv C.toNat (eb p m v C X b).pv (eb p m v C X b).Y b.length) (vo (eb p m v C X b).pv t).toNat = inE (p ^ m) (vo (row (eb p m v C X b).Y t) 0) := by
      unfold en; rw [Jlz hasc b.length t (by omega) h1]
    show Ju p m (dv p v) _ _ = _
    rw [h4, h5, R.M1 (J6 hq _)]
  . obtain ⟨k1, k2⟩ := key t h1 (by omega)
    rw [k2 _ (fun c => Qm hF _ c), k1]
    exact (Ql (x := 0) hq).symm
theorem eb_pv (C : Int) (b : List Int) : (eb p m v C X b).pv = JL p m v C X := (Jeh (S := ⟨X, rgt b, [], 1⟩) (U := ⟨X, List.replicate X.length [], [], 1⟩) rfl rfl C.toNat).2
end
end Go.Proofs.Ytiboieijhehjnaa
set_option linter.unusedVariables false
set_option linter.unusedSimpArgs false
namespace Go.Proofs.Ytiboieijhehjnaa
def Jc6 (p m v w : Nat) (X : List (List Int)) (x : List Int) (k : Nat) : List Int := (List.range k).map fun t => ((dt p m v w (en p m (row X t)) (en p m x) : Nat) : Int)
theorem Jl7 (p m v w : Nat) (X : List (List Int)) (x : List Int) (k : Nat) : Jc6 p m v w X x (k + 1) = Jc6 p m v w X x k ++ [((dt p m v w (en p m (row X k)) (en p m x) : Nat) : Int)] := by
  unfold Jc6; rw [List.range_succ, List.map_append]; rfl
theorem Jo8 (p m v w : Nat) (X : List (List Int)) (x : List Int) (k : Nat) : (Jc6 p m v w X x k).length = k := by simp [Jc6]
theorem Jcm (P M : Int) (mf : List Int) (C : Int) (X : List (List Int)) (x : List Int) : Jbo P M mf C X x (fun b => b = true) := by
  refine YW ⟨fun h => absurd h (by decide), fun _ => Jig ⟨by omega, by omega⟩ (fun h1 h2 h3 => ⟨fun h => absurd h (by decide), fun _ => ⟨fun _ => YW rfl, fun hx => ?_⟩⟩) ⟨fun _ => YW rfl, fun h => absurd h (by decide)⟩⟩
  refine Jhq ⟨fun _ => rfl, fun h0 => ?_⟩
  have h0 : mck P M mf C X = 0 := Classical.not_not.1 h0
  obtain ⟨⟨p, m, v, hF⟩, hs, he⟩ := Ja9 h0
  have he := (QR hF).1 he
  have R := hF.ring
  have hq : 0 < p ^ m := by have := R.q2; omega
  obtain ⟨hX, hC, hC'⟩ := QW hs
  have ec : Y8 P M mf x C = Y8 P M mf x ((C.toNat : Nat) : Int) := by rw [hC']
  rw [ec]
  refine Jo0 hF (by omega) ⟨fun _ => rfl, fun hv => ?_⟩
  obtain ⟨hxl, hxe⟩ := Jf0 (Classical.not_not.1 hv)
  refine ⟨fun b z => ∃ k : Nat, z = k /\ k <= X.length /\ b = Jc6 p m v C.toNat X x k, fun _ z => (X.length - z).toNat, ⟨0, rfl, Nat.zero_le _, rfl⟩, ?_⟩
  rintro _ _ ⟨k, rfl, hk, rfl⟩
  have hkl := Jo8 p m v C.toNat X x k
  refine ⟨fun hlt => ⟨⟨by omega, by omega⟩, Jln hF (w := C.toNat) (Q6 hs (by omega)) hxl (by omega) ⟨by omega, Jz (by omega) (by omega), ⟨k + 1, by push_cast; rfl, by omega, (Jl7 ..).symm⟩, by dsimp only; omega⟩⟩, fun hge => ?_⟩
  have hk2 : k = X.length := by omega
  have hvo : ∀ t, t < X.length -> vo (Jc6 p m v C.toNat X x k) t = ((dt p m v C.toNat (en p m (row X t)) (en p m x) : Nat) : Int) := fun t ht => Jfy (by omega)
  have hbe : Elr p m (Jc6 p m v C.toNat X x k) := fun y hy => by
    obtain ⟨t, _, rfl⟩ := List.mem_map.1 hy
    exact Jco (YD hF _ _)
  generalize hb : Jc6 p m v C.toNat X x k = b at *
  have hbl : b.length = X.length := by omega
  have hsol := Jps hF hs he hbl hbe (u := en p m x) (fun c => Qm hF _ c) fun t ht => by
    rw [hvo t ht]
    have e : dt p m v C.toNat (en p m x) (en p m (row X t)) = dt p m v C.toNat (en p m (row X t)) (en p m x) := Yb _ fun c _ => R.Mc (Qm hF _ _) (Qm hF _ _)
    rw [e]
    exact (Ql (YD hF _ _)).symm
  obtain ⟨hz, hy⟩ := hsol
  refine Jnk (fun h => absurd h0 h) fun p' m' v' hF' _ _ _ => ?_
  obtain ⟨rfl, rfl, rfl⟩ := hF.uniq3 hF'
  have hvb : vce p m b X.length = 0 := Jlr hbl hbe
  refine ⟨fun h => absurd hvb h, fun _ => ⟨fun ⟨i, i1, i2, i3⟩ => absurd (hz i i1 i2) i3, fun _ => ?_⟩⟩
  refine Jay (fun h => absurd h0 h) fun p' m' v' hF' _ _ _ => ?_
  obtain ⟨rfl, rfl, rfl⟩ := hF.uniq3 hF'
  have hpv : (eb p m v C X b).pv = JL p m v C X := eb_pv C b
  have hyl : (slv C.toNat (eb p m v C X b).pv (eb p m v C X b).Y b.length).length = C.toNat := Jfd ..
  have hpn : ∀ d, vo (slv C.toNat (eb p m v C X b).pv (eb p m v C X b).Y b.length) d ≠ 0 -> ∃ i, i < (JL p m v C X).length /\ (vo (JL p m v C X) i).toNat = d := fun d hd => by
    by_cases hex : ∃ i, i < (JL p m v C X).length /\ (vo (JL p m v C X) i).toNat = d
    . exact hex
    . exact absurd (Jc3 (n := C.toNat) (pv := (eb p m v C X b).pv) (Z := (eb p m v C X b).Y) b.length fun i _ hi e => hex ⟨i, by rw [<- hpv]; exact hi, by rw [<- hpv]; exact e⟩) hd
  have hasc := Q2 (p := p) (m := m) (v := v) C X
  have hcl := QT (p := p) (m := m) (v := v) hs
  generalize slv C.toNat (eb p m v C X b).pv (eb p m v C X b).Y b.length = y at *
  generalize JL p m v C X = pv at *
  refine ⟨fun h => absurd rfl h, fun _ => ⟨fun h => absurd rfl h, fun _ => ⟨fun h => absurd (by omega) h, fun _ => ?_⟩⟩⟩
  refine ⟨fun z => ∃ t : Nat, z = t /\ t <= X.length, fun z => (X.length - z).toNat, ⟨0, rfl, Nat.zero_le _⟩, ?_⟩
  rintro _ ⟨t, rfl, ht⟩
  refine ⟨fun hlt => ⟨⟨by omega, by omega⟩, _, Jln hF (w := C.toNat) (Q6 hs (by omega)) hyl (by omega) rfl, ⟨by omega, by omega⟩, fun hne => ?_, fun _ => ⟨Jz (by omega) (by omega), ⟨t + 1, by push_cast; rfl, by omega⟩, by dsimp only; omega⟩⟩, fun hge => ?_⟩
  . have ht' : t < X.length := by omega
    refine absurd ?_ hne
    show ((dt p m v C.toNat (en p m (row X t)) (en p m y) : Nat) : Int) = vo b t
    have e : dt p m v C.toNat (en p m (row X t)) (en p m y) = dt p m v C.toNat (en p m y) (en p m (row X t)) := Yb _ fun c _ => R.Mc (Qm hF _ _) (Qm hF _ _)
    rw [e, hy t ht', hvo t ht']
    exact congrArg (fun n : Nat => (n : Int)) (Ql (YD hF _ _))
  . refine ⟨fun z => ∃ d : Nat, z = d /\ d <= y.length, fun z => (y.length - z).toNat, ⟨0, rfl, Nat.zero_le _⟩, ?_⟩
    rintro _ ⟨d, rfl, hd⟩
    dsimp only
    refine ⟨fun hlt => ⟨⟨by omega, by omega⟩, ?_⟩, fun _ => rfl⟩
    refine ⟨fun bb z => ∃ i : Nat, z = i /\ i <= pv.length /\ (bb = true ↔ vo y d = 0 ∨ ∃ j, j < i /\ vo pv j = (d : Int)), fun _ z => (pv.length - z).toNat, ⟨0, rfl, Nat.zero_le _, by rw [decide_eq_true_iff]; exact ⟨fun h => .inl h, fun h => h.elim id fun ⟨j, hj, _⟩ => absurd hj (Nat.not_lt_zero _)⟩⟩, ?_⟩
    rintro bb _ ⟨i, rfl, hi, hbb⟩
    dsimp only
    refine ⟨fun hlt2 => ⟨fun b2 => (b2 = true ↔ vo y d = 0 ∨ ∃ j, j < i + 1 /\ vo pv j = (d : Int)), ⟨⟨by omega, by omega⟩, fun h1 => ?_, fun h1 => ?_⟩, fun b2 hb2 => ⟨Jz (by omega) (by omega), ⟨i + 1, by push_cast; rfl, by omega, hb2⟩, by omega⟩⟩, fun hge2 => ?_⟩
    . refine ⟨fun _ => (hbb.1 h1).elim .inl fun ⟨j, hj, e⟩ => .inr ⟨j, by omega, e⟩, fun _ => rfl⟩
    . dsimp only
      rw [decide_eq_true_iff]
      have hnb : ¬ (vo y d = 0 ∨ ∃ j, j < i /\ vo pv j = (d : Int)) := fun h => by have := hbb.2 h; rw [h1] at this; cases this
      refine ⟨fun e => .inr ⟨i, by omega, e⟩, fun h => ?_⟩
      rcases h with h | ⟨j, hj, e⟩
      . exact absurd (.inl h) hnb
      . rcases Nat.lt_or_ge j i with h5 | h5
        . exact absurd (.inr ⟨j, h5, e⟩) hnb
        . obtain rfl : j = i := by omega
          exact e
    . have hT : bb = true := hbb.2 (by
        by_cases h : vo y d = 0
        . exact .inl h
        . obtain ⟨j, hj, e⟩ := hpn d h
          have := hasc.1 j hj
          exact .inr ⟨j, by omega, by omega⟩)
      rw [hT]
      exact ⟨fun h => absurd h (by decide), fun _ => ⟨Jz (by omega) (by omega), ⟨d + 1, by push_cast; rfl, by omega⟩, by omega⟩⟩
end Go.Proofs.Ytiboieijhehjnaa
