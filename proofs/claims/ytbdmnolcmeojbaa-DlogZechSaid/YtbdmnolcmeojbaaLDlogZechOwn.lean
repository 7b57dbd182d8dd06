/- What only this law leans on. -/
import Derived.Test.YtbdmnolcmeojbaaDlogTablesG5
set_option linter.unusedVariables false
namespace Go.Proofs.Ytbdmnolcmeojbaa
open Go.RowKit
theorem Try.nm14 : (Try.f14.name == "runtime.NumGoroutine") = false := by kernel_rfl
theorem Try.nm15 : (Try.f15.name == "runtime.NumGoroutine") = false := by kernel_rfl
theorem Try.nm16 : (Try.f16.name == "runtime.NumGoroutine") = false := by kernel_rfl
theorem Try.nm17 : (Try.f17.name == "runtime.NumGoroutine") = false := by kernel_rfl
end Go.Proofs.Ytbdmnolcmeojbaa
namespace Go.Proofs.Ytbdmnolcmeojbaa
open Go.RowKit
abbrev XF14 := Try.func14
abbrev XF15 := Try.func15
abbrev XF16 := Try.func16
abbrev XF17 := Try.func17
abbrev XF5 := Try.func5
abbrev XN14 := Try.nm14
abbrev XN15 := Try.nm15
abbrev XN16 := Try.nm16
abbrev XN17 := Try.nm17
end Go.Proofs.Ytbdmnolcmeojbaa
set_option linter.unusedSimpArgs false
set_option linter.unusedVariables false
set_option maxRecDepth 4000
set_option maxHeartbeats 4000000
namespace Go.Proofs.Ytbdmnolcmeojbaa
open Go.RowKit
def ZL (Pf : Int) (Mf : Int) (mf : List Int) (x : Int) (y : Int) (Q : Int -> Prop) : Prop :=
  Qs Pf Mf mf x (fun x14 => Qs Pf Mf mf y (fun x19 => ∃ (I29 : List Int -> Int -> Prop) (μ30 : List Int -> Int -> Nat), I29 x14 (0 : Int) /\ ∀ (x27 : List Int) (z28 : Int), (I29 x27 z28 -> (((z28 < (x14.length : Int)) -> ((0 <= z28 /\ z28 < (x14.length : Nat)) /\ ((0 <= z28 /\ z28 < (x19.length : Nat)) /\ ((I64 ((gi x27 z28) + (gi x19 z28))) /\ ((Pf ≠ 0) /\ ((0 <= z28 /\ z28 < (x14.length : Nat)) /\ ((I64 (z28 + 1)) /\ (I29 (si x27 z28 (((gi x27 z28) + (gi x19 z28)).tmod Pf)) (z28 + 1) /\ μ30 (si x27 z28 (((gi x27 z28) + (gi x19 z28)).tmod Pf)) (z28 + 1) < μ30 x27 z28)))))))) /\ (¬ (z28 < (x14.length : Int)) -> (QU Pf Mf mf x27 (fun r56 => Q r56)))))))
theorem Jgu {w : World} {Q : Int -> Prop} {Pf : Int} {Mf : Int} {mf : List Int} {x : Int} {y : Int} {Bf : Nat} {Af : Option Addr} {nf kf : Nat} (hf : Rd Bf w 1 Af nf kf (is mf)) (hv : ZL Pf Mf mf x y Q) :
    Calls Try.prog 17 #[.agg #[.int .i64 Pf, .int .i64 Mf, .slice Af nf kf], .int .i64 x, .int .i64 y] w <| Rt w fun v Qr => ∃ (r0 : Int), v = .int .i64 r0 /\ Qr = [] /\ Q r0 := by
  have hnf := hf.ilen
  subst hnf
  refine Jh <| Jf (vs := [.agg #[nI Pf, nI Mf, nS Af mf kf], nI x, nI y]) [6] XF17 rfl rfl rfl rfl ?_
  have hS := Jm w
  unfold ZL at hv
  refine Jd 2 <| JC (z := 3) (cs := [nI Pf, nI Mf, nS Af mf kf]) hS rfl rfl rfl rfl ?_
  intro g11 w12 hS
  refine Jc 2 <| Jd 2 <| JF 0 JJ JM hS rfl ⟨rfl, rfl⟩ rfl <| Jl rfl rfl <| SL.call hS (Q0 (hS.ro hf) hv) XF25 rfl XN25 rfl rfl ?_
  rintro _ _ w13 ⟨x14, A15, k16, rfl, rfl, hv⟩ hGw13 hS
  have hS := hS.n1
  refine Jc 2 <| Jd 2 <| JF 1 JJ JM hS rfl ⟨rfl, rfl⟩ rfl <| Jl rfl rfl <| SL.call hS (Q0 (hS.ro hf) hv) XF25 rfl XN25 rfl rfl ?_
  rintro _ _ w18 ⟨x19, A20, k21, rfl, rfl, hv⟩ hGw18 hS
  have hS := hS.n1
  refine Jc 2 <| Jd 5 <| W.block ?_
  obtain ⟨I29, μ30, hv, hk57⟩ := hv
  refine Jy (σ := List Int × Int) (fun q w1 => match q with | (x27, z28) => I29 x27 z28 /\ St TT w none w1 [nR 3 A20 x19 k21, .row 3 1 A15 x14.length k16 (is x27), .row 24 3 (nA g11) 1 1 [nI Pf, nI Mf, nS Af mf kf]]) (fun (x27, z28) => [(3, nP g11), (6, nI 0), (7, nS A15 x14 k16), (8, nS A20 x19 k21), (9, nI z28)]) (fun (x27, z28) => μ30 x27 z28) (x14, (0 : Int)) ⟨hv, hS⟩ ⟨rfl, rfl, rfl, rfl, rfl, trivial⟩ ?_
  rintro ⟨x27, z28⟩ w31 ⟨hv, hS⟩
  have hv := hk57 x27 z28 hv
  refine Jd 5 <| WL.len Jn rfl rfl <| Jc 2 <| Jg rfl (fun c32 => ?_) (fun c32 => ?_)
  .have hv := hv.1 (oT c32)
   refine Jj <| Js <| W.block ?_
   obtain ⟨o38, hv⟩ := hv
   obtain ⟨o43, hv⟩ := hv
   obtain ⟨o46, hv⟩ := hv
   obtain ⟨o50, hv⟩ := hv
   refine Ju 14 [⟨[], [7], true⟩, ⟨[], [9], true⟩, ⟨[], [7], true⟩, ⟨[], [9], true⟩, ⟨[2, 3], [], true⟩, ⟨[4], [], false⟩, ⟨[], [8], true⟩, ⟨[], [9], true⟩, ⟨[6, 7], [], true⟩, ⟨[8], [], false⟩, ⟨[5, 9], [], true⟩, ⟨[], [3], true⟩, ⟨[11], [], false⟩, ⟨[10, 12], [], true⟩] [(22, nS A15 x14 k16), (23, nI z28), (24, nS A15 x14 k16), (25, nI z28), (26, .pointer (some ((JO A15).add z28.toNat))), (27, nI (gi x27 z28)), (28, nS A20 x19 k21), (29, nI z28), (30, .pointer (some ((JO A20).add z28.toNat))), (31, nI (gi x19 z28)), (32, nI ((gi x27 z28) + (gi x19 z28))), (33, nP g11), (34, nI Pf), (35, nI (((gi x27 z28) + (gi x19 z28)).tmod Pf))] Try.mixed (by kernel_rfl) rfl rfl ?_ ?_
   . refine ⟨oD, oD, oD, oD, fun _ _ _ => Ji Jn XE3 (hS.rd (i := 1) rfl) rfl rfl o38 rfl <| Ja ⟨rfl, rfl⟩, og hS fun _ _ hS => Jk XU3 rfl rfl (JG (hS.rd (i := 1) rfl) o38) rfl <| Ja ⟨rfl, Je _⟩, oD, oD, fun _ _ _ => Ji Jn XE3 (hS.rd (i := 0) rfl) rfl rfl o43 rfl <| Ja ⟨rfl, rfl⟩, og hS fun _ _ hS => Jk XU3 rfl rfl (JG (hS.rd (i := 0) rfl) o43) rfl <| Ja ⟨rfl, Je _⟩, fun _ _ _ => WL.add (r := ((gi x27 z28) + (gi x19 z28))) rfl rfl (wr o46) rfl <| Ja ⟨rfl, rfl⟩, fun _ _ _ => Jb (off := 0) JK rfl rfl <| Ja ⟨rfl, rfl⟩, og hS fun _ _ hS => SL.lv 2 0 XU3 hS rfl rfl rfl ⟨rfl, rfl⟩ <| Ja ⟨rfl, Je _⟩, fun _ _ _ => J3 (r := (((gi x27 z28) + (gi x19 z28)).tmod Pf)) rfl rfl o50 rfl rfl <| Ja ⟨rfl, rfl⟩, trivial⟩
   intro w51 hT
   have hS := hS.grow hT
   refine Jr 14 rfl ?_
   obtain ⟨o52, hv⟩ := hv
   refine Ji Jn XE3 (hS.rd (i := 1) rfl) rfl rfl o52 rfl <| Ja <| Jr 15 rfl <| Jp (cs' := is (si x27 z28 (((gi x27 z28) + (gi x19 z28)).tmod Pf))) 1 z28.toNat hS rfl XE3 rfl rfl rfl (JN (hS.rd (i := 1) rfl) o52) (JA _ _ _) ?_
   intro w53 hS
   refine Ja <| JQ <| Jd 2 ?_
   obtain ⟨o54, hv⟩ := hv
   refine WL.add (r := (z28 + 1)) rfl rfl (wr o54) rfl <| Jc 2 ?_
   exact ⟨(si x27 z28 (((gi x27 z28) + (gi x19 z28)).tmod Pf), (z28 + 1)), sp rfl, hv.2, rfl, hv.1, hS⟩
  have hv := hv.2 (oF c32)
  refine Jt <| Jd 2 <| JF 2 JJ JM hS rfl ⟨rfl, rfl⟩ rfl <| Jl rfl rfl <| SL.call hS (Jbx (hS.ro hf) (hS.rd (i := 1) rfl) hv) XF26 rfl XN26 rfl rfl ?_
  rintro _ _ w55 ⟨r56, rfl, rfl, hv⟩ hGw55 hS
  have hS := hS.n0
  refine Jc 2 <| W.ret <| ⟨_, rfl, Fin.nil ?_⟩
  exact (hS.pick [] rfl).fin rfl ⟨r56, rfl, rfl, hv⟩
end Go.Proofs.Ytbdmnolcmeojbaa
set_option linter.unusedSimpArgs false
set_option linter.unusedVariables false
set_option maxRecDepth 4000
set_option maxHeartbeats 4000000
namespace Go.Proofs.Ytbdmnolcmeojbaa
open Go.RowKit
def Zj (bj : Int) (je : List Int) (jl : List Int) (jz : List Int) (x : Int) (Q : Int × Int -> Prop) : Prop :=
  ∃ (r18 : Int), Qf bj je jl jz x (fun q => q = r18) /\ ((0 <= r18 /\ r18 < (jz.length : Nat)) /\ ((((gi jz r18) = (-1 : Int)) -> (Q ((0 : Int), (7 : Int)))) /\ (¬ ((gi jz r18) = (-1 : Int)) -> (Q ((gi jz r18), (0 : Int))))))
theorem Jdv {w : World} {Q : Int × Int -> Prop} {bj : Int} {je : List Int} {jl : List Int} {jz : List Int} {x : Int} {Bje : Nat} {Aje : Option Addr} {nje kje : Nat} (hje : Rd Bje w 1 Aje nje kje (is je)) {Bjl : Nat} {Ajl : Option Addr} {njl kjl : Nat} (hjl : Rd Bjl w 1 Ajl njl kjl (is jl)) {Bjz : Nat} {Ajz : Option Addr} {njz kjz : Nat} (hjz : Rd Bjz w 1 Ajz njz kjz (is jz)) {aj : Addr} {Bj : Nat} (hcj : Rd Bj w 4 (some aj) 1 1 [.int .i64 bj, .slice Aje nje kje, .slice Ajl njl kjl, .slice Ajz njz kjz]) (hv : Zj bj je jl jz x Q) :
    Calls Try.prog 14 #[.pointer (some aj), .int .i64 x] w <| Rt w fun v Qr => ∃ (r0 : Int) (r1 : Int), v = .tuple #[.int .i64 r0, .int .i64 r1] /\ Qr = [] /\ Q (r0, r1) := by
  have hnje := hje.ilen
  subst hnje
  have hnjl := hjl.ilen
  subst hnjl
  have hnjz := hjz.ilen
  subst hnjz
  refine Jh <| Jf (vs := [.pointer (some aj), nI x]) [4, 5] XF14 rfl rfl rfl rfl ?_
  have hS := Jm w
  unfold Zj at hv
  refine Jd 6 ?_
  obtain ⟨r18, o20, hv⟩ := hv
  obtain ⟨o22, hv⟩ := hv
  refine Ju 10 [⟨[], [0], true⟩, ⟨[0], [], true⟩, ⟨[1], [], true⟩, ⟨[2], [], false⟩, ⟨[], [0], true⟩, ⟨[], [1], true⟩, ⟨[4, 5], [], false⟩, ⟨[3, 6], [], true⟩, ⟨[7], [], false⟩, ⟨[8], [], true⟩] [(7, .pointer (some aj)), (8, .pointer (some aj)), (9, .pointer (some (aj.add 3))), (10, nS Ajz jz kjz), (11, .pointer (some aj)), (12, nI x), (13, nI r18), (14, .pointer (some ((JO Ajz).add r18.toNat))), (15, nI (gi jz r18)), (6, nI (gi jz r18))] Try.mixed (by kernel_rfl) rfl rfl ?_ ?_
  . refine ⟨oD, oD, fun _ _ _ => Jb (off := 3) Jkr rfl rfl <| Ja ⟨rfl, rfl⟩, og hS fun _ _ hS => Jk Jn rfl rfl (Rd.at_ (hS.ro hcj) (j := 3) rfl) rfl <| Ja ⟨rfl, Je _⟩, oD, oD, ?_, fun _ _ _ => Ji Jn XE3 (hS.ro hjz) rfl rfl o22 rfl <| Ja ⟨rfl, rfl⟩, og hS fun _ _ hS => Jk XU3 rfl rfl (JG (hS.ro hjz) o22) rfl <| Ja ⟨rfl, Je _⟩, oD, trivial⟩
    intro w17 hE RR
    have hS := hS.grow (hE rfl)
    refine WL.call XF24 rfl XN24 rfl rfl (JB (Y8 (hS.ro hje) (hS.ro hjl) (hS.ro hjz) (hS.ro hcj) o20)) ?_
    rintro _ w19 ⟨_, hGw19, hRww19, hNww19, r18q, rfl, rfl, he⟩
    subst he
    exact Ja ⟨rfl, hGw19⟩
  intro w25 hT
  have hS := hS.grow hT
  refine JQ <| Jd 6 <| Jg rfl (fun c26 => ?_) (fun c26 => ?_)
  .have hv := hv.1 (oT c26)
   refine Jd 5 <| W.ret <| ⟨_, rfl, Fin.nil ?_⟩
   exact (hS.pick [] rfl).fin rfl ⟨(0 : Int), (7 : Int), rfl, rfl, hv⟩
  have hv := hv.2 (oF c26)
  refine Jj <| Jd 6 <| W.ret <| ⟨_, rfl, Fin.nil ?_⟩
  exact (hS.pick [] rfl).fin rfl ⟨(gi jz r18), (0 : Int), rfl, rfl, hv⟩
def Jbb (bj : Int) (je : List Int) (jl : List Int) (jz : List Int) (x : Int) (y : Int) (Q : Int -> Prop) : Prop :=
  Qq bj je jl jz x (fun (r12, r13) => ((r13 ≠ 0) -> (Jba bj je jl jz y (1 : Int) (fun r16 => Q r16))) /\ (¬ (r13 ≠ 0) -> (Qq bj je jl jz y (fun (r18, r19) => ((r19 ≠ 0) -> Q x) /\ (¬ (r19 ≠ 0) -> ((I64 (r18 - r12)) /\ (Zj bj je jl jz (r18 - r12) (fun (r23, r24) => ((r24 ≠ 0) -> (Q 0)) /\ (¬ (r24 ≠ 0) -> ((I64 (r12 + r23)) /\ (Q8 bj je jl jz (r12 + r23) (fun r28 => Q r28))))))))))))
theorem Jlh {w : World} {Q : Int -> Prop} {bj : Int} {je : List Int} {jl : List Int} {jz : List Int} {x : Int} {y : Int} {Bje : Nat} {Aje : Option Addr} {nje kje : Nat} (hje : Rd Bje w 1 Aje nje kje (is je)) {Bjl : Nat} {Ajl : Option Addr} {njl kjl : Nat} (hjl : Rd Bjl w 1 Ajl njl kjl (is jl)) {Bjz : Nat} {Ajz : Option Addr} {njz kjz : Nat} (hjz : Rd Bjz w 1 Ajz njz kjz (is jz)) {aj : Addr} {Bj : Nat} (hcj : Rd Bj w 4 (some aj) 1 1 [.int .i64 bj, .slice Aje nje kje, .slice Ajl njl kjl, .slice Ajz njz kjz]) (hv : Jbb bj je jl jz x y Q) :
    Calls Try.prog 16 #[.pointer (some aj), .int .i64 x, .int .i64 y] w <| Rt w fun v Qr => ∃ (r0 : Int), v = .int .i64 r0 /\ Qr = [] /\ Q r0 := by
  have hnje := hje.ilen
  subst hnje
  have hnjl := hjl.ilen
  subst hnjl
  have hnjz := hjz.ilen
  subst hnjz
  refine Jh <| Jf (vs := [.pointer (some aj), nI x, nI y]) [6] XF16 rfl rfl rfl rfl ?_
  have hS := Jm w
  unfold Jbb at hv
  refine Jd 8 <| SL.call hS (QL (hS.ro hje) (hS.ro hjl) (hS.ro hjz) (hS.ro hcj) hv) XF7 rfl XN7 rfl rfl ?_
  rintro _ _ w11 ⟨r12, r13, rfl, rfl, hv⟩ hGw11 hS
  have hS := hS.n0
  refine Jc 6 <| Jd 6 <| Jg rfl (fun c14 => ?_) (fun c14 => ?_)
  .have hv := hv.1 (oT c14)
   refine Jd 4 <| SL.call hS (Jgt (hS.ro hje) (hS.ro hjl) (hS.ro hjz) (hS.ro hcj) hv) XF11 rfl XN11 rfl rfl ?_
   rintro _ _ w15 ⟨r16, rfl, rfl, hv⟩ hGw15 hS
   have hS := hS.n0
   refine Jc 2 <| W.ret <| ⟨_, rfl, Fin.nil ?_⟩
   exact (hS.pick [] rfl).fin rfl ⟨r16, rfl, rfl, hv⟩
  have hv := hv.2 (oF c14)
  refine Jj <| Jd 4 <| SL.call hS (QL (hS.ro hje) (hS.ro hjl) (hS.ro hjz) (hS.ro hcj) hv) XF7 rfl XN7 rfl rfl ?_
  rintro _ _ w17 ⟨r18, r19, rfl, rfl, hv⟩ hGw17 hS
  have hS := hS.n0
  refine Jc 6 <| Jd 6 <| Jg rfl (fun c20 => ?_) (fun c20 => ?_)
  .have hv := hv.1 (oT c20)
   refine Jd 5 <| W.ret <| ⟨_, rfl, Fin.nil ?_⟩
   exact (hS.pick [] rfl).fin rfl ⟨x, rfl, rfl, hv⟩
  have hv := hv.2 (oF c20)
  refine Jj <| Jd 5 ?_
  obtain ⟨o21, hv⟩ := hv
  refine WL.sub (r := (r18 - r12)) rfl rfl (wr o21) rfl <| SL.call hS (Jdv (hS.ro hje) (hS.ro hjl) (hS.ro hjz) (hS.ro hcj) hv) XF14 rfl XN14 rfl rfl ?_
  rintro _ _ w22 ⟨r23, r24, rfl, rfl, hv⟩ hGw22 hS
  have hS := hS.n0
  refine Jc 6 <| Jd 6 <| Jg rfl (fun c25 => ?_) (fun c25 => ?_)
  .have hv := hv.1 (oT c25)
   refine Jd 4 <| W.ret <| ⟨_, rfl, Fin.nil ?_⟩
   exact (hS.pick [] rfl).fin rfl ⟨(0 : Int), rfl, rfl, hv⟩
  have hv := hv.2 (oF c25)
  refine Jj <| Jd 5 ?_
  obtain ⟨o26, hv⟩ := hv
  refine WL.add (r := (r12 + r23)) rfl rfl (wr o26) rfl <| SL.call hS (Y9 (hS.ro hje) (hS.ro hjl) (hS.ro hjz) (hS.ro hcj) hv) XF9 rfl XN9 rfl rfl ?_
  rintro _ _ w27 ⟨r28, rfl, rfl, hv⟩ hGw27 hS
  have hS := hS.n0
  refine Jc 2 <| W.ret <| ⟨_, rfl, Fin.nil ?_⟩
  exact (hS.pick [] rfl).fin rfl ⟨r28, rfl, rfl, hv⟩
end Go.Proofs.Ytbdmnolcmeojbaa
set_option linter.unusedSimpArgs false
set_option linter.unusedVariables false
set_option maxRecDepth 4000
set_option maxHeartbeats 4000000
namespace Go.Proofs.Ytbdmnolcmeojbaa
open Go.RowKit
def Z7 (Pf : Int) (Mf : Int) (mf : List Int) (x : Int) (y : Int) (Q : Int × Int -> Prop) : Prop :=
  YW Pf Mf mf x y (fun (r14, r15) => ∃ (r21 : Int), ZL Pf Mf mf (1 : Int) r14 (fun q => q = r21) /\ (∃ (r25 : Int) (r26 : Int), Ym Pf Mf mf x r21 (fun q => q = (r25, r26)) /\ (Q (r25, r26))))
theorem Jjr {w : World} {Q : Int × Int -> Prop} {Pf : Int} {Mf : Int} {mf : List Int} {x : Int} {y : Int} {Bf : Nat} {Af : Option Addr} {nf kf : Nat} (hf : Rd Bf w 1 Af nf kf (is mf)) (hv : Z7 Pf Mf mf x y Q) :
    Calls Try.prog 15 #[.agg #[.int .i64 Pf, .int .i64 Mf, .slice Af nf kf], .int .i64 x, .int .i64 y] w <| Rt w fun v Qr => ∃ (r0 : Int) (r1 : Int), v = .tuple #[.int .i64 r0, .int .i64 r1] /\ Qr = [] /\ Q (r0, r1) := by
  have hnf := hf.ilen
  subst hnf
  refine Jh <| Jf (vs := [.agg #[nI Pf, nI Mf, nS Af mf kf], nI x, nI y]) [6, 7] XF15 rfl rfl rfl rfl ?_
  have hS := Jm w
  unfold Z7 at hv
  refine Jd 2 <| JC (z := 3) (cs := [nI Pf, nI Mf, nS Af mf kf]) hS rfl rfl rfl rfl ?_
  intro g11 w12 hS
  refine Jc 3 <| Jd 2 <| JF 0 JJ JM hS rfl ⟨rfl, rfl⟩ rfl <| Jc 2 <| SL.call hS (Jcq (hS.ro hf) hv) XF10 rfl XN10 rfl rfl ?_
  rintro _ _ w13 ⟨r14, r15, rfl, rfl, hv⟩ hGw13 hS
  have hS := hS.n0
  refine Jc 6 <| Js ?_
  obtain ⟨r21, o23, hv⟩ := hv
  obtain ⟨r25, r26, o28, hv⟩ := hv
  refine Ju 10 [⟨[], [3], false⟩, ⟨[], [1], true⟩, ⟨[], [3], false⟩, ⟨[], [8], true⟩, ⟨[2, 3], [], false⟩, ⟨[0, 1, 4], [], false⟩, ⟨[5], [], true⟩, ⟨[5], [], true⟩, ⟨[6], [], true⟩, ⟨[7], [], true⟩] [(17, .agg #[nI Pf, nI Mf, nS Af mf kf]), (18, nI x), (19, .agg #[nI Pf, nI Mf, nS Af mf kf]), (20, nI r14), (21, nI r21), (22, .tuple #[nI r25, nI r26]), (23, nI r25), (24, nI r26), (6, nI r25), (7, nI r26)] Try.mixed (by kernel_rfl) rfl rfl ?_ ?_
  . refine ⟨og hS fun _ _ hS => JF 0 JJ JM hS rfl ⟨rfl, rfl⟩ rfl <| Ja ⟨rfl, Je _⟩, oD, og hS fun _ _ hS => JF 0 JJ JM hS rfl ⟨rfl, rfl⟩ rfl <| Ja ⟨rfl, Je _⟩, oD, ?_, ?_, oD, oD, oD, oD, trivial⟩
    . intro w20 hE RR
      have hS := hS.grow (hE rfl)
      refine WL.call XF17 rfl XN17 rfl rfl (JB (Jgu (hS.ro hf) o23)) ?_
      rintro _ w22 ⟨_, hGw22, hRww22, hNww22, r21q, rfl, rfl, he⟩
      subst he
      exact Ja ⟨rfl, hGw22⟩
    intro w24 hE RR
    have hS := hS.grow (hE rfl)
    refine WL.call XF8 rfl XN8 rfl rfl (JB (Jbw (hS.ro hf) o28)) ?_
    rintro _ w27 ⟨_, hGw27, hRww27, hNww27, r25q, r26q, rfl, rfl, he⟩
    cases he
    exact Ja ⟨rfl, hGw27⟩
  intro w33 hT
  have hS := hS.grow hT
  refine JQ <| W.ret <| ⟨_, rfl, Fin.nil ?_⟩
  exact (hS.pick [] rfl).fin rfl ⟨r25, r26, rfl, rfl, hv⟩
end Go.Proofs.Ytbdmnolcmeojbaa
set_option linter.unusedSimpArgs false
set_option linter.unusedVariables false
set_option maxRecDepth 4000
set_option maxHeartbeats 4000000
namespace Go.Proofs.Ytbdmnolcmeojbaa
open Go.RowKit
def Y1 (Pd : Int) (Md : Int) (md : List Int) (bd : Int) (xd : Int) (yd : Int) (Q : Bool -> Prop) : Prop :=
  YA Pd Md md bd (fun q => match q with | (none, r15) => Q r15 | (some (b18, x19, x20, x21), _) => Zj b18 x19 x20 x21 xd (fun (r35, r36) => Z7 Pd Md md bd xd (fun (r38, r39) => ((r35 ≠ r38) -> Q false) /\ (¬ (r35 ≠ r38) -> (((r36 ≠ r39) -> Q false) /\ (¬ (r36 ≠ r39) -> (∃ (r48 : Int), Jbb b18 x19 x20 x21 xd yd (fun q => q = r48) /\ (∃ (r58 : Int), ZL Pd Md md xd yd (fun q => q = r58) /\ (Q (decide (r48 = r58)))))))))))
theorem Jd2 {w : World} {Q : Bool -> Prop} {Pd : Int} {Md : Int} {md : List Int} {bd : Int} {xd : Int} {yd : Int} {Bd : Nat} {Ad : Option Addr} {nd kd : Nat} (hd : Rd Bd w 1 Ad nd kd (is md)) (hv : Y1 Pd Md md bd xd yd Q) :
    Calls Try.prog 5 #[.agg #[.int .i64 Pd, .int .i64 Md, .slice Ad nd kd, .int .i64 bd, .int .i64 xd, .int .i64 yd]] w <| Rt w fun v Qr => ∃ (r0 : Bool), v = .bool r0 /\ Qr = [] /\ Q r0 := by
  have hnd := hd.ilen
  subst hnd
  refine Jh <| Jf (vs := [.agg #[nI Pd, nI Md, nS Ad md kd, nI bd, nI xd, nI yd]]) [2] XF5 rfl rfl rfl rfl ?_
  have hS := Jm w
  unfold Y1 at hv
  refine Jd 2 <| JC (z := 6) (cs := [nI Pd, nI Md, nS Ad md kd, nI bd, nI xd, nI yd]) hS rfl rfl rfl rfl ?_
  intro g11 w12 hS
  refine Jc 2 <| Jd 2 <| Jb (off := 0) QR rfl rfl <| J0 (cs := [nI Pd, nI Md, nS Ad md kd]) JJ JM rfl rfl (Yd (hS.rd (i := 0) rfl) 0 rfl) rfl <| Jb (off := 3) YU rfl rfl <| SL.lv 0 3 XU3 hS rfl rfl rfl ⟨rfl, rfl⟩ <| SL.call hS (Jan (hS.ro hd) hv) XF6 rfl XN6 rfl rfl ?_
  rintro _ _ w14 ⟨o, r15, hv, hK⟩ hGw14 hS
  cases o with
  | none =>
   obtain ⟨rfl, rfl⟩ := hK
   have hS := hS.n0
   refine Jc 8 <| Jd 5 <| JI rfl <| Jd 5 <| W.ret <| ⟨_, rfl, Fin.nil ?_⟩
   exact (hS.pick [] rfl).fin rfl ⟨r15, rfl, rfl, hv⟩
  | some t_ =>
   obtain ⟨b18, x19, x20, x21⟩ := t_
   obtain ⟨g17, A22, A23, A24, k25, k26, k27, m28, m29, m30, rfl, rfl⟩ := hK
   have hS := hS.n4
   refine Jc 8 <| Jd 5 <| J9 rfl <| Jj <| Jd 3 <| Jb (off := 4) QQ rfl rfl <| SL.lv 4 4 XU3 hS rfl rfl rfl ⟨rfl, rfl⟩ <| SL.call hS (Jdv (hS.rd (i := 1) rfl) (hS.rd (i := 2) rfl) (hS.rd (i := 3) rfl) (hS.rd (i := 0) rfl) hv) XF14 rfl XN14 rfl rfl ?_
   rintro _ _ w34 ⟨r35, r36, rfl, rfl, hv⟩ hGw34 hS
   have hS := hS.n0
   refine Jc 6 <| Jd 2 <| Jb (off := 0) QR rfl rfl <| J0 (cs := [nI Pd, nI Md, nS Ad md kd]) JJ JM rfl rfl (Yd (hS.rd (i := 4) rfl) 0 rfl) rfl <| Jb (off := 3) YU rfl rfl <| SL.lv 4 3 XU3 hS rfl rfl rfl ⟨rfl, rfl⟩ <| Jb (off := 4) QQ rfl rfl <| SL.lv 4 4 XU3 hS rfl rfl rfl ⟨rfl, rfl⟩ <| SL.call hS (Jjr (hS.ro hd) hv) XF15 rfl XN15 rfl rfl ?_
   rintro _ _ w37 ⟨r38, r39, rfl, rfl, hv⟩ hGw37 hS
   have hS := hS.n0
   refine Jc 6 <| Jd 6 <| Jl rfl rfl ?_
   by_cases g40 : r35 ≠ r38
   .have hv := hv.1 g40
    rw [decide_eq_true g40]
    refine Jc 5 <| JI rfl <| Jd 4 <| W.ret <| ⟨_, rfl, Fin.nil ?_⟩
    exact (hS.pick [] rfl).fin rfl ⟨false, rfl, rfl, hv⟩
   have hv := hv.2 g40
   rw [decide_eq_false g40]
   refine Jc 8 <| Jg rfl (fun c41 => ?_) (fun c41 => ?_)
   .have hv := hv.1 (oT c41)
    refine Jd 4 <| W.ret <| ⟨_, rfl, Fin.nil ?_⟩
    exact (hS.pick [] rfl).fin rfl ⟨false, rfl, rfl, hv⟩
   have hv := hv.2 (oF c41)
   refine Jj <| Js ?_
   obtain ⟨r48, o50, hv⟩ := hv
   obtain ⟨r58, o60, hv⟩ := hv
   refine Ju 15 [⟨[], [3], true⟩, ⟨[], [1], true⟩, ⟨[1], [], false⟩, ⟨[], [1], true⟩, ⟨[3], [], false⟩, ⟨[0, 2, 4], [], false⟩, ⟨[], [1], true⟩, ⟨[6], [], false⟩, ⟨[], [1], true⟩, ⟨[8], [], false⟩, ⟨[], [1], true⟩, ⟨[10], [], false⟩, ⟨[7, 9, 11], [], false⟩, ⟨[5, 12], [], true⟩, ⟨[13], [], true⟩] [(46, nP g17), (47, .pointer (some ((⟨g11, 0, none⟩ : Addr).add 4))), (48, nI xd), (49, .pointer (some ((⟨g11, 0, none⟩ : Addr).add 5))), (50, nI yd), (51, nI r48), (52, nP g11), (53, .agg #[nI Pd, nI Md, nS Ad md kd]), (54, .pointer (some ((⟨g11, 0, none⟩ : Addr).add 4))), (55, nI xd), (56, .pointer (some ((⟨g11, 0, none⟩ : Addr).add 5))), (57, nI yd), (58, nI r58), (59, .bool (decide (r48 = r58))), (2, .bool (decide (r48 = r58)))] Try.mixed (by kernel_rfl) rfl rfl ?_ ?_
   . refine ⟨oD, fun _ _ _ => Jb (off := 4) QQ rfl rfl <| Ja ⟨rfl, rfl⟩, og hS fun _ _ hS => SL.lv 4 4 XU3 hS rfl rfl rfl ⟨rfl, rfl⟩ <| Ja ⟨rfl, Je _⟩, fun _ _ _ => Jb (off := 5) Q7 rfl rfl <| Ja ⟨rfl, rfl⟩, og hS fun _ _ hS => SL.lv 4 5 XU3 hS rfl rfl rfl ⟨rfl, rfl⟩ <| Ja ⟨rfl, Je _⟩, ?_, fun _ _ _ => Jb (off := 0) QR rfl rfl <| Ja ⟨rfl, rfl⟩, og hS fun _ _ hS => J0 (cs := [nI Pd, nI Md, nS Ad md kd]) JJ JM rfl rfl (Yd (hS.rd (i := 4) rfl) 0 rfl) rfl <| Ja ⟨rfl, Je _⟩, fun _ _ _ => Jb (off := 4) QQ rfl rfl <| Ja ⟨rfl, rfl⟩, og hS fun _ _ hS => SL.lv 4 4 XU3 hS rfl rfl rfl ⟨rfl, rfl⟩ <| Ja ⟨rfl, Je _⟩, fun _ _ _ => Jb (off := 5) Q7 rfl rfl <| Ja ⟨rfl, rfl⟩, og hS fun _ _ hS => SL.lv 4 5 XU3 hS rfl rfl rfl ⟨rfl, rfl⟩ <| Ja ⟨rfl, Je _⟩, ?_, oD, oD, trivial⟩
     . intro w47 hE RR
       have hS := hS.grow (hE rfl)
       refine WL.call XF16 rfl XN16 rfl rfl (JB (Jlh (hS.rd (i := 1) rfl) (hS.rd (i := 2) rfl) (hS.rd (i := 3) rfl) (hS.rd (i := 0) rfl) o50)) ?_
       rintro _ w49 ⟨_, hGw49, hRww49, hNww49, r48q, rfl, rfl, he⟩
       subst he
       exact Ja ⟨rfl, hGw49⟩
     intro w57 hE RR
     have hS := hS.grow (hE rfl)
     refine WL.call XF17 rfl XN17 rfl rfl (JB (Jgu (hS.ro hd) o60)) ?_
     rintro _ w59 ⟨_, hGw59, hRww59, hNww59, r58q, rfl, rfl, he⟩
     subst he
     exact Ja ⟨rfl, hGw59⟩
   intro w63 hT
   have hS := hS.grow hT
   refine JQ <| W.ret <| ⟨_, rfl, Fin.nil ?_⟩
   exact (hS.pick [] rfl).fin rfl ⟨(decide (r48 = r58)), rfl, rfl, hv⟩
end Go.Proofs.Ytbdmnolcmeojbaa
set_option linter.unusedVariables false
set_option linter.unusedSimpArgs false
namespace Go.Proofs.Ytbdmnolcmeojbaa
section
variable {P M : Int} {mf : List Int} {p m v : Nat}
theorem Ji4 (F : FV P M mf p m v) {x y : Int} {Q : Int -> Prop} (h : Q ((JT p m (inE (p ^ m) x) (inE (p ^ m) y) : Nat) : Int)) : ZL P M mf x y Q := by
  have hp := F.p2
  have hp2 := F.p256
  have hm8 := F.m8
  have hx := JS F.ring.pos x
  have hy := JS F.ring.pos y
  refine Yp F (Yp F ?_)
  generalize inE (p ^ m) x = a at *
  generalize inE (p ^ m) y = b at *
  have hla := JD p m a
  have hlb := JD p m b
  rw [hla]
  refine ⟨fun l z => ∃ k : Nat, z = k /\ k <= m /\ l.length = m /\ ∀ i, i < m -> vo l i = if i < k then (Jz (dv p a) (dv p b)) i % (p : Int) else dv p a i, fun l z => (m - z).toNat, ⟨0, rfl, Nat.zero_le _, hla, fun i hi => by rw [if_neg (by omega), Qj hi]⟩, ?_⟩
  rintro l _ ⟨k, rfl, hk, hl, hv⟩
  dsimp only
  rw [JE, JE, Qo]
  refine ⟨fun hlt => ?_, fun hge => Ji3 F hl (fun i hi => by rw [hv i hi, if_pos (by omega)]) h⟩
  rw [hv k (by omega), if_neg (by omega), Qj (by omega)]
  have c1 := Jb2 (p := p) (by omega) a k
  have c2 := Jb2 (p := p) (by omega) b k
  refine ⟨⟨by omega, by omega⟩, ⟨by omega, by omega⟩, Jo (by omega) (by omega), by rw [F.eP]; omega, ⟨by omega, by omega⟩, Jo (by omega) (by omega), ⟨k + 1, by push_cast; rfl, by omega, by rw [List.length_set, hl], fun i hi => ?_⟩, by omega⟩
  rw [JW]
  by_cases hki : k = i
  . subst hki
    rw [if_pos ⟨rfl, by omega⟩, if_pos (by omega), F.eP, Int.tmod_eq_emod_of_nonneg (by omega)]; rfl
  . rw [if_neg (fun h => hki h.1), hv i hi]
    by_cases hik : i < k
    . rw [if_pos hik, if_pos (by omega)]
    . rw [if_neg hik, if_neg (by omega)]
end
section
variable {P M : Int} {mf : List Int} {p m v : Nat}
end
end Go.Proofs.Ytbdmnolcmeojbaa
set_option linter.unusedVariables false
set_option linter.unusedSimpArgs false
namespace Go.Proofs.Ytbdmnolcmeojbaa
/-! ### tables of logarithms -/
section
variable {F : GFv} {p m v g : Nat} {P M : Int} {mf : List Int}
end
section
variable {q : Nat} {A Mu : Nat -> Nat -> Nat} {b : Nat} {E L Z : List Int} {bt : Int}
theorem Jgd {x : Int} {Q : Int × Int -> Prop} (hT : Tab q A Mu b E L Z) (hq : 2 <= q) (h256 : q <= 256) (h7 : A 1 (pw Mu b (x % ((q - 1 : Nat) : Int)).toNat) = 0 -> Q (0, 7)) (h : A 1 (pw Mu b (x % ((q - 1 : Nat) : Int)).toNat) ≠ 0 -> Q ((Gn.lg q Mu b (A 1 (pw Mu b (x % ((q - 1 : Nat) : Int)).toNat)) : Int), 0)) : Zj bt E L Z x Q := by
  have hz := hT.zl
  have hm1 := Int.emod_nonneg x (show ((q - 1 : Nat) : Int) ≠ 0 by omega)
  have hm2 := Int.emod_lt_of_pos x (show (0 : Int) < ((q - 1 : Nat) : Int) by omega)
  refine ⟨_, ZM hT hq h256 rfl, ⟨hm1, by omega⟩, ?_⟩
  have := hT.zv (x % ((q - 1 : Nat) : Int)).toNat (by omega)
  rw [Int.toNat_of_nonneg hm1] at this
  rw [this]
  by_cases c : A 1 (pw Mu b (x % ((q - 1 : Nat) : Int)).toNat) = 0
  . have e : LG q Mu b (A 1 (pw Mu b (x % ((q - 1 : Nat) : Int)).toNat)) = -1 := by unfold LG; rw [if_pos c]
    rw [e]; exact ⟨fun _ => h7 c, fun d => absurd rfl d⟩
  . rw [Jk5 (Nat.pos_of_ne_zero c)]
    exact ⟨fun d => by omega, fun _ => h c⟩
variable (R : CR q A Mu) (G : Gn q Mu b)
include R G
end
end Go.Proofs.Ytbdmnolcmeojbaa
set_option linter.unusedVariables false
set_option linter.unusedSimpArgs false
namespace Go.Proofs.Ytbdmnolcmeojbaa
/-! ### tables of logarithms: sums, products, the laws -/
section
variable {q : Nat} {A Mu : Nat -> Nat -> Nat} {b : Nat} {E L Z : List Int} {bt : Int}
theorem pw_int (R : CR q A Mu) (G : Gn q Mu b) {i j : Nat} (e : (i : Int) % ((q - 1 : Nat) : Int) = (j : Int) % ((q - 1 : Nat) : Int)) : pw Mu b i = pw Mu b j := by
  rw [<- Y7 R G i, e, Y7 R G j]
theorem w_tAdd {x y : Int} {Q : Int -> Prop} (R : CR q A Mu) (G : Gn q Mu b) (hT : Tab q A Mu b E L Z) (h256 : q <= 256) (h : Q ((A (inE q x) (inE q y) : Nat) : Int)) : Jbb bt E L Z x y Q := by
  have hq := R.q2
  refine QD hT (fun hx => ⟨fun _ => Jiu R G hT h256 ?_, fun c => absurd (by decide) c⟩) fun x' ex hx0 hxq => ⟨fun c => absurd rfl c, fun _ => QD hT (fun hy => ⟨fun _ => ?_, fun c => absurd (by decide) c⟩) fun y' ey hy0 hyq => ⟨fun c => absurd rfl c, fun _ => ?_⟩⟩
  . rw [Q4 hx, R.zA (JS R.pos y)] at h
    rw [show inE q 1 = 1 from JZ (x := 1) R.one_lt, R.M1 (JS R.pos y)]; exact h
  . subst ex
    rw [Q4 hy, JZ hxq, R.Az hxq] at h; exact h
  . subst ex; subst ey
    rw [JZ hxq, JZ hyq] at h
    obtain ⟨h1, e1⟩ := G.lg_spec R hx0 hxq
    obtain ⟨h2, e2⟩ := G.lg_spec R hy0 hyq
    generalize hm : Gn.lg q Mu b x' = mm at *
    generalize hn : Gn.lg q Mu b y' = nn at *
    have hm1 := Int.emod_nonneg ((nn : Int) - mm) (show ((q - 1 : Nat) : Int) ≠ 0 by omega)
    have hm2 := Int.emod_lt_of_pos ((nn : Int) - mm) (show (0 : Int) < ((q - 1 : Nat) : Int) by omega)
    have hu : Mu x' (pw Mu b (((nn : Int) - mm) % ((q - 1 : Nat) : Int)).toNat) = y' := by
      rw [<- e1, <- R.pw_add G.lt, <- e2]
      refine pw_int R G ?_
      have h3 := Int.emod_add_mul_ediv ((nn : Int) - mm) ((q - 1 : Nat) : Int)
      have h4 : (nn : Int) = ((mm + (((nn : Int) - mm) % ((q - 1 : Nat) : Int)).toNat : Nat) : Int) + ((q - 1 : Nat) : Int) * (((nn : Int) - mm) / ((q - 1 : Nat) : Int)) := by
        rw [Int.natCast_add, Int.toNat_of_nonneg hm1]; omega
      conv => rhs; rw [h4, Int.add_mul_emod_self_left]
    generalize hw : pw Mu b (((nn : Int) - mm) % ((q - 1 : Nat) : Int)).toNat = w at *
    have hwq : w < q := by rw [<- hw]; exact R.pw_lt b _
    have hd : A x' y' = Mu x' (A 1 w) := by rw [R.Md hxq R.one_lt hwq, R.M1 hxq, hu]
    refine ⟨Jo (by omega) (by omega), Jgd hT hq h256 (fun hz => ⟨fun _ => ?_, fun c => absurd (by decide) c⟩) fun hz => ⟨fun c => absurd rfl c, fun _ => ?_⟩⟩
    . rw [hw] at hz
      rw [hd, hz, R.M0 hxq] at h; exact h
    . rw [hw] at hz
      rw [hw]
      have hs := G.lg_spec R (Nat.pos_of_ne_zero hz) (R.Al 1 w)
      refine ⟨Jo (by omega) (by omega), Jaa hT hq h256 ?_⟩
      rw [<- Int.natCast_add, Y7 R G, R.pw_add G.lt, e1, hs.2, <- hd]; exact h
end
section
variable {F : GFv} {p m v g : Nat} {P M : Int} {mf : List Int}
theorem Jge {b n : Int} {Q : Int × Int -> Prop} (hF : FV P M mf p m v) (hn : I64 n) (hP : PR p m v b) (h7 : JT p m 1 (pw (Jq p m (dv p v)) (inE (p ^ m) b) (n % ((p ^ m - 1 : Nat) : Int)).toNat) = 0 -> Q (0, 7))
    (h : JT p m 1 (pw (Jq p m (dv p v)) (inE (p ^ m) b) (n % ((p ^ m - 1 : Nat) : Int)).toNat) ≠ 0 -> Q ((Gn.lg (p ^ m) (Jq p m (dv p v)) (inE (p ^ m) b) (JT p m 1 (pw (Jq p m (dv p v)) (inE (p ^ m) b) (n % ((p ^ m - 1 : Nat) : Int)).toNat)) : Int), 0)) : Z7 P M mf b n Q := by
  have R := hF.ring
  have hq2 := R.q2
  have eN : ((p ^ m : Nat) : Int) - 1 = ((p ^ m - 1 : Nat) : Int) := by omega
  refine Je3 hF (fun c => absurd c hP.1) (fun _ => ?_) hn
  rw [eN]
  generalize hu : pw (Jq p m (dv p v)) (inE (p ^ m) b) (n % ((p ^ m - 1 : Nat) : Int)).toNat = u at *
  have huq : u < p ^ m := by rw [<- hu]; exact R.pw_lt _ _
  refine ⟨((JT p m 1 u : Nat) : Int), Ji4 hF ?_, ?_⟩
  . rw [show inE (p ^ m) 1 = 1 from JZ (x := 1) R.one_lt, JZ huq]
  . have hs : inE (p ^ m) ((JT p m 1 u : Nat) : Int) = JT p m 1 u := JZ (R.Al 1 u)
    by_cases c : JT p m 1 u = 0
    . exact ⟨0, 7, Y3 hF hP (fun _ => rfl) (fun d => absurd (hs.trans c) d), h7 c⟩
    . exact ⟨_, 0, Y3 hF hP (fun d => absurd (hs.symm.trans d) c) (fun _ => by rw [hs]), h c⟩
end
end Go.Proofs.Ytbdmnolcmeojbaa
set_option linter.unusedVariables false
set_option linter.unusedSimpArgs false
namespace Go.Proofs.Ytbdmnolcmeojbaa
theorem Jcu (P M : Int) (mf : List Int) (b x y : Int) (hx : I64 x) : Y1 P M mf b x y (fun b => b = true) := by
  refine Jb9 rfl fun F p m v g E L Z K hF hP hT => ?_
  have R := hF.ring
  have hq := hF.q
  have hq2 := R.q2
  have G := hP.gn R
  have ne : ∀ {A B : Prop} {a : Int}, B -> (a ≠ a -> A) /\ (¬ (a ≠ a) -> B) := fun h => ⟨fun c => absurd rfl c, fun _ => h⟩
  have last : ∃ (r48 : Int), Jbb b E L Z x y (fun q => q = r48) /\ (∃ (r58 : Int), ZL P M mf x y (fun q => q = r58) /\ decide (r48 = r58) = true) := ⟨_, w_tAdd R G hT hq rfl, _, Ji4 hF rfl, decide_eq_true rfl⟩
  refine Jgd hT hq2 hq (fun hz => Jge hF hx hP (fun _ => ne (ne last)) fun c => absurd hz c) fun hz => Jge hF hx hP (fun c => absurd c hz) fun _ => ne (ne last)
end Go.Proofs.Ytbdmnolcmeojbaa
