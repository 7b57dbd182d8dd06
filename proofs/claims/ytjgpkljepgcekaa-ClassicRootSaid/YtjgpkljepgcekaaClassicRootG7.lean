/- Contracts of functions of the program, and what they lean on: D33, D37, Dt, Fa, Fb, Fg, Fp, Fk, Fc, V1, V2. -/
import Derived.Test.YtjgpkljepgcekaaClassicRootG6
set_option linter.unusedSimpArgs false
set_option linter.unusedVariables false
set_option maxRecDepth 4000
set_option maxHeartbeats 4000000
namespace Go.Proofs.Ytjgpkljepgcekaa
open Go.RowKit
def Jba (n : Int) (Q : Int -> Prop) : Prop :=
  ∃ (I14 : Int -> Prop) (μ15 : Int -> Nat), I14 0 /\ ∀ (z13 : Int), (I14 z13 -> (((z13 < 3) -> ((0 <= z13 /\ z13 < (3 : Nat)) /\ (((gi ([(2 : Int), (3 : Int), (5 : Int)] : LI) z13) ≠ 0) /\ ((((n.tmod (gi ([(2 : Int), (3 : Int), (5 : Int)] : LI) z13)) = 0) -> (Q (gi ([(2 : Int), (3 : Int), (5 : Int)] : LI) z13))) /\ (¬ ((n.tmod (gi ([(2 : Int), (3 : Int), (5 : Int)] : LI) z13)) = 0) -> ((I64 (z13 + 1)) /\ (I14 (z13 + 1) /\ μ15 (z13 + 1) < μ15 z13))))))) /\ (¬ (z13 < 3) -> (∃ J23 : Int -> Prop, (∃ (I27 : Int -> Prop) (μ28 : Int -> Nat), I27 0 /\ ∀ (z26 : Int), (I27 z26 -> ((I64 (z26 * z26)) /\ ((((z26 * z26) <= n) -> (∃ (I35 : Int -> Prop) (μ36 : Int -> Nat), I35 0 /\ ∀ (z34 : Int), (I35 z34 -> (((z34 < 8) -> ((0 <= z34 /\ z34 < (8 : Nat)) /\ ((I64 (z26 + (gi ([(7 : Int), (11 : Int), (13 : Int), (17 : Int), (19 : Int), (23 : Int), (29 : Int), (31 : Int)] : LI) z34))) /\ (((z26 + (gi ([(7 : Int), (11 : Int), (13 : Int), (17 : Int), (19 : Int), (23 : Int), (29 : Int), (31 : Int)] : LI) z34)) ≠ 0) /\ ((((n.tmod (z26 + (gi ([(7 : Int), (11 : Int), (13 : Int), (17 : Int), (19 : Int), (23 : Int), (29 : Int), (31 : Int)] : LI) z34))) = 0) -> ((I64 (z26 + (gi ([(7 : Int), (11 : Int), (13 : Int), (17 : Int), (19 : Int), (23 : Int), (29 : Int), (31 : Int)] : LI) z34))) /\ (J23 (z26 + (gi ([(7 : Int), (11 : Int), (13 : Int), (17 : Int), (19 : Int), (23 : Int), (29 : Int), (31 : Int)] : LI) z34))))) /\ (¬ ((n.tmod (z26 + (gi ([(7 : Int), (11 : Int), (13 : Int), (17 : Int), (19 : Int), (23 : Int), (29 : Int), (31 : Int)] : LI) z34))) = 0) -> ((I64 (z34 + 1)) /\ (I35 (z34 + 1) /\ μ36 (z34 + 1) < μ36 z34)))))))) /\ (¬ (z34 < 8) -> ((I64 (z26 + 30)) /\ (I27 (z26 + 30) /\ μ28 (z26 + 30) < μ28 z26))))))) /\ (¬ ((z26 * z26) <= n) -> J23 n))))) /\ ∀ (z22 : Int), (J23 z22 -> Q z22)))))
theorem Jnp {w : World} {Q : Int -> Prop} {n : Int}  (hv : Jba n Q) :
   Calls Try.prog 99 #[.int .i64 n] w <| Rt w fun v Qr => ∃ (r0 : Int), v = .int .i64 r0 /\ Qr = [] /\ Q r0 := by
 refine Jk <| Jh (vs := [nI n]) [2] XF99 rfl rfl rfl rfl ?_; have hS := Jp w; unfold Jba at hv; refine Jc 4 <| Jua <| Jc 3 <| Je2 (vs := [nI 2, nI 3, nI 5]) (cells := #[nI 2, nI 3, nI 5]) rfl (by kernel_rfl) rfl <| Jb 2 <| W.block ?_; obtain ⟨I14, μ15, hv, hk50⟩ := hv; refine Jv (σ := Int) (fun z13 w1 => I14 z13 /\ St TT w none w1 []) (fun z13 => [(0, nI n), (2, nI 0), (9, .agg #[nI 2, nI 3, nI 5]), (10, nI z13)]) (fun z13 => μ15 z13) (0 : Int) ⟨hv, hS⟩ ⟨rfl, rfl, rfl, rfl, trivial⟩ ?_; rintro z13 w16 ⟨hv, hS⟩; have hv := hk50 z13 hv; refine Jc 5 <| Jg rfl (fun c17 => ?_) (fun c17 => ?_)
 .have hv := hv.1 (oT c17); refine Ji <| Jr <| W.block <| Jc 2 ?_; obtain ⟨o18, hv⟩ := hv; refine Jd5 (l := ([(2 : Int), (3 : Int), (5 : Int)] : LI)) Try.arr132 rfl rfl rfl o18 rfl <| Jb 2 <| Jc 4 ?_; obtain ⟨o19, hv⟩ := hv; refine J4 (r := (n.tmod (gi ([(2 : Int), (3 : Int), (5 : Int)] : LI) z13))) rfl rfl o19 rfl rfl <| Jb 2 <| Jg rfl (fun c20 => ?_) (fun c20 => ?_)
  .have hv := hv.1 (oT c20); refine Jc 5 <| W.ret <| ⟨_, rfl, Fin.nil ?_⟩
   exact (hS.pick [] rfl).fin rfl ⟨(gi ([(2 : Int), (3 : Int), (5 : Int)] : LI) z13), rfl, rfl, hv⟩
  have hv := hv.2 (oF c20); refine Ji <| Js ?_; obtain ⟨o21, hv⟩ := hv; refine WL.add (r := (z13 + 1)) rfl rfl (wr o21) rfl <| Jb 2 ?_; exact ⟨(z13 + 1), sp rfl, hv.2, rfl, hv.1, hS⟩
 have hv := hv.2 (oF c17); refine Jt <| Jc 6 <| Jud <| Jc 5 ?_; obtain ⟨J23, hv, hk49⟩ := hv; refine J5 (σ := Int) (fun z22 w1 => J23 z22 /\ St TT w none w1 []) (fun z22 => [(2, nI 0), (5, nI z22)]) ?_ ?_
 .refine W.block ?_; obtain ⟨I27, μ28, hv, hk47⟩ := hv; refine Jv (σ := Int) (fun z26 w1 => I27 z26 /\ St TT w none w1 []) (fun z26 => [(0, nI n), (2, nI 0), (5, nI n), (6, nI z26)]) (fun z26 => μ28 z26) (0 : Int) ⟨hv, hS⟩ ⟨rfl, rfl, rfl, rfl, trivial⟩ ?_; rintro z26 w29 ⟨hv, hS⟩; have hv := hk47 z26 hv; refine Jc 5 ?_; obtain ⟨o30, hv⟩ := hv; refine WL.mul (r := (z26 * z26)) rfl rfl (wr o30) rfl <| Jb 3 <| Jg rfl (fun c31 => ?_) (fun c31 => ?_)
  .have hv := hv.1 (oT c31); refine Ji <| Jr <| W.block <| Jc 2 <| Je2 (vs := [nI 7, nI 11, nI 13, nI 17, nI 19, nI 23, nI 29, nI 31]) (cells := #[nI 7, nI 11, nI 13, nI 17, nI 19, nI 23, nI 29, nI 31]) rfl (by kernel_rfl) rfl <| Jb 2 <| W.block ?_; obtain ⟨I35, μ36, hv, hk46⟩ := hv; refine Jv (σ := Int) (fun z34 w1 => I35 z34 /\ St TT w none w1 []) (fun z34 => [(0, nI n), (2, nI 0), (5, nI n), (6, nI z26), (24, .bool (decide ((z26 * z26) <= n))), (27, .agg #[nI 7, nI 11, nI 13, nI 17, nI 19, nI 23, nI 29, nI 31]), (28, nI z34)]) (fun z34 => μ36 z34) (0 : Int) ⟨hv, hS⟩ ⟨rfl, rfl, rfl, rfl, rfl, rfl, rfl, trivial⟩ ?_; rintro z34 w37 ⟨hv, hS⟩; have hv := hk46 z34 hv; refine Jc 5 <| Jg rfl (fun c38 => ?_) (fun c38 => ?_)
   .have hv := hv.1 (oT c38); refine Ji <| Jr <| W.block <| Jc 2 ?_; obtain ⟨o39, hv⟩ := hv; refine Jd5 (l := ([(7 : Int), (11 : Int), (13 : Int), (17 : Int), (19 : Int), (23 : Int), (29 : Int), (31 : Int)] : LI)) Try.arr133 rfl rfl rfl o39 rfl <| Jb 2 <| Jc 5 ?_; obtain ⟨o40, hv⟩ := hv; refine WL.add (r := (z26 + (gi ([(7 : Int), (11 : Int), (13 : Int), (17 : Int), (19 : Int), (23 : Int), (29 : Int), (31 : Int)] : LI) z34))) rfl rfl (wr o40) rfl ?_; obtain ⟨o41, hv⟩ := hv; refine J4 (r := (n.tmod (z26 + (gi ([(7 : Int), (11 : Int), (13 : Int), (17 : Int), (19 : Int), (23 : Int), (29 : Int), (31 : Int)] : LI) z34)))) rfl rfl o41 rfl rfl <| Jb 2 <| Jg rfl (fun c42 => ?_) (fun c42 => ?_)
    .have hv := hv.1 (oT c42); refine Jc 4 ?_; obtain ⟨o43, hv⟩ := hv; refine WL.add (r := (z26 + (gi ([(7 : Int), (11 : Int), (13 : Int), (17 : Int), (19 : Int), (23 : Int), (29 : Int), (31 : Int)] : LI) z34))) rfl rfl (wr o43) rfl <| Jb 2 <| Jt ?_; exact ⟨(z26 + (gi ([(7 : Int), (11 : Int), (13 : Int), (17 : Int), (19 : Int), (23 : Int), (29 : Int), (31 : Int)] : LI) z34)), ⟨rfl, rfl, trivial⟩, rfl, hv, hS⟩
    have hv := hv.2 (oF c42); refine Ji <| Js ?_; obtain ⟨o44, hv⟩ := hv; refine WL.add (r := (z34 + 1)) rfl rfl (wr o44) rfl <| Jb 2 ?_; exact ⟨(z34 + 1), sp rfl, hv.2, rfl, hv.1, hS⟩
   have hv := hv.2 (oF c38); refine Jt <| Jc 2 ?_; obtain ⟨o45, hv⟩ := hv; refine WL.add (r := (z26 + 30)) rfl rfl (wr o45) rfl <| Jb 2 ?_; exact ⟨(z26 + 30), sp rfl, hv.2, rfl, hv.1, hS⟩
  have hv := hv.2 (oF c31); refine Jt ?_; exact ⟨n, ⟨rfl, rfl, trivial⟩, rfl, hv, hS⟩
 rintro z22 w48 ⟨hv, hS⟩; have hv := hk49 z22 hv; refine Jc 5 <| W.ret <| ⟨_, rfl, Fin.nil ?_⟩
 exact (hS.pick [] rfl).fin rfl ⟨z22, rfl, rfl, hv⟩
def Jc1 (n : Int) (Q : Bool -> Prop) : Prop :=
  (((2 : Int) <= n) -> (((n <= 2147483647) -> (Jba n (fun r14 => Q (decide (r14 = n))))) /\ (¬ (n <= 2147483647) -> Q false))) /\ (¬ ((2 : Int) <= n) -> Q false)
theorem Jqd {w : World} {Q : Bool -> Prop} {n : Int}  (hv : Jc1 n Q) :
   Calls Try.prog 67 #[.int .i64 n] w <| Rt w fun v Qr => ∃ (r0 : Bool), v = .bool r0 /\ Qr = [] /\ Q r0 := by
 refine Jk <| Jh (vs := [nI n]) [2] XF67 rfl rfl rfl rfl ?_; have hS := Jp w; unfold Jc1 at hv; refine Jc 8 <| Jl rfl rfl ?_; by_cases g11 : (2 : Int) <= n
 .have hv := hv.1 g11; rw [decide_eq_true g11]; refine Jb 5 <| Jl rfl rfl ?_; by_cases g12 : n <= 2147483647
  .have hv := hv.1 g12; rw [decide_eq_true g12]; refine Jb 3 <| SL.call hS (Jnp  hv) XF99 rfl XN99 rfl rfl ?_; rintro _ _ w13 ⟨r14, rfl, rfl, hv⟩ hGw13 hS; have hS := hS.n0; refine Jb 7 <| W.ret <| ⟨_, rfl, Fin.nil ?_⟩
   exact (hS.pick [] rfl).fin rfl ⟨(decide (r14 = n)), rfl, rfl, hv⟩
  have hv := hv.2 g12; rw [decide_eq_false g12]; refine Jb 7 <| W.ret <| ⟨_, rfl, Fin.nil ?_⟩
  exact (hS.pick [] rfl).fin rfl ⟨false, rfl, rfl, hv⟩
 have hv := hv.2 g11; rw [decide_eq_false g11]; refine Jb 11 <| W.ret <| ⟨_, rfl, Fin.nil ?_⟩
 exact (hS.pick [] rfl).fin rfl ⟨false, rfl, rfl, hv⟩
def Yk (Pf : Int) (Mf : Int) (mf : LI) (y : LI) (Q : Int × Int × LI × Int × LL × Int -> Prop) : Prop :=
  (0 <= (y.length : Int) /\ (y.length : Int) * 24 <= 281474976710656 /\ (y.length : Int) <= 281474976710656) /\ (∃ (I31 : LL -> Int -> Prop) (μ32 : LL -> Int -> Nat), I31 (List.replicate (y.length : Int).toNat ([] : LI)) (0 : Int) /\ ∀ (x28 : LL) (z30 : Int), (I31 x28 z30 -> (((z30 < (((y.length : Int).toNat : Nat) : Int)) -> ((0 <= z30 /\ z30 <= (y.length : Nat)) /\ ((0 <= z30 /\ z30 <= (y.length : Nat)) /\ (∃ (x54 : LI), Ji5 ([y.drop z30.toNat, y.take z30.toNat] : LL) (fun q => q = x54) /\ ((0 <= z30 /\ z30 < ((y.length : Int).toNat : Nat)) /\ ((I64 (z30 + 1)) /\ (I31 (sll x28 z30 x54) (z30 + 1) /\ μ32 (sll x28 z30 x54) (z30 + 1) < μ32 x28 z30))))))) /\ (¬ (z30 < (((y.length : Int).toNat : Nat) : Int)) -> (Jgz Pf Mf mf (y.length : Int) x28 (fun (r68, r69, x70, c71, x72, r73) => Q (r68, r69, x70, c71, x72, r73)))))))
theorem Jdk {w : World} {Q : Int × Int × LI × Int × LL × Int -> Prop} {Pf : Int} {Mf : Int} {mf : LI} {y : LI} {Bf : Nat} {Af : Option Addr} {nf kf : Nat} (hf : Rd Bf w 1 Af nf kf (is mf)) {By : Nat} {Ay : Option Addr} {ny ky : Nat} (hy : Rd By w 1 Ay ny ky (is y)) (hv : Yk Pf Mf mf y Q) :
   Calls Try.prog 68 #[.agg #[.int .i64 Pf, .int .i64 Mf, .slice Af nf kf], .slice Ay ny ky] w <| Rt w fun v Qr => ∃ (p0 : Int) (m0 : Int) (f0 : LI) (c0 : Int) (r0 : LL) (r1 : Int) (A0f : Option Addr) (k0f : Nat) (A0 : Option Addr) (k0 : Nat) (hs0 : Hs), v = .tuple #[.agg #[.int .i64 p0, .int .i64 m0, .slice A0f f0.length k0f, .int .i64 c0, .slice A0 r0.length k0], .int .i64 r1] /\ Qr = [.row 3 1 A0f f0.length k0f (is f0), mx 22 3 A0 r0.length k0 hs0 r0] /\ Q (p0, m0, f0, c0, r0, r1) := by
 have hnf := hf.ilen; subst hnf; have hny := hy.ilen; subst hny; refine Jk <| Qq (vs := [.agg #[nI Pf, nI Mf, nS Af mf kf], nS Ay y ky]) [.cell 4 33, .tmp 5] XF68 rfl rfl rfl rfl ?_; have hS := Jp w; unfold Yk at hv; refine Jc 2 <| JF (z := 3) (cs := [nI Pf, nI Mf, nS Af mf kf]) hS rfl rfl rfl rfl ?_; intro g11 w12 hS; refine SL.alloc (cs := [nI 0, nI 0, .slice none 0 0, nI 0, .slice none 0 0]) hS QO rfl rfl ?_; intro g13 w14 hS; refine Jb 2 <| Jc 3 <| WL.len Jo rfl rfl <| Jl rfl rfl <| WL.len Jo rfl rfl ?_; obtain ⟨o17, hv⟩ := hv; refine Qm (J := (y.length : Int)) hS Jw Ju rfl rfl o17 (Jf5 _) rfl ?_; intro A15 w16 hS; have hS := Ji6 (eI := 3) hS; refine Qg (cells := #[nI (y.length : Int), .slice A15 ((y.length : Int).toNat) ((y.length : Int).toNat)]) Jop rfl rfl rfl <| SL.alloc (cs := [nI 0, .slice none 0 0]) hS Qd rfl rfl ?_; intro g19 w20 hS; refine JE (cs := [nI (y.length : Int), .slice A15 ((y.length : Int).toNat) ((y.length : Int).toNat)]) 0 hS rfl Qd rfl rfl rfl rfl rfl ?_; intro w21 hS; refine Ja <| Jc 3 <| Je (off := 1) QV rfl rfl <| Jm 0 1 Jw hS rfl rfl rfl ⟨rfl, rfl⟩ <| WL.len Jw rfl rfl <| Jb 2 <| W.block ?_; obtain ⟨I31, μ32, hv, hk82⟩ := hv; refine Jv (σ := LL × Int × Hs) (fun q w1 => match q with | (x28, z30, hs29) => I31 x28 z30 /\ St TT w none w1 [.row 70 2 (nA g19) 1 1 [nI (y.length : Int), .slice A15 ((y.length : Int).toNat) ((y.length : Int).toNat)], mx 22 3 A15 ((y.length : Int).toNat) ((y.length : Int).toNat) hs29 x28, .row 33 5 (nA g13) 1 1 [nI 0, nI 0, .slice none 0 0, nI 0, .slice none 0 0], .row 24 3 (nA g11) 1 1 [nI Pf, nI Mf, nS Af mf kf]]) (fun (x28, z30, hs29) => [(1, nS Ay y ky), (2, nP g11), (4, nP g13), (5, nI 0), (6, nP g19), (16, nI (((y.length : Int).toNat : Nat) : Int)), (17, nI z30)]) (fun (x28, z30, hs29) => μ32 x28 z30) (List.replicate (y.length : Int).toNat ([] : LI), (0 : Int), (fun _ => (none, 0))) ⟨hv, hS⟩ ⟨rfl, rfl, rfl, rfl, rfl, rfl, rfl, trivial⟩ ?_; rintro ⟨x28, z30, hs29⟩ w33 ⟨hv, hS⟩; have hv := hk82 x28 z30 hv; refine Jc 5 <| Jg rfl (fun c34 => ?_) (fun c34 => ?_)
 .have hv := hv.1 (oT c34); refine Ji <| Jr <| W.block <| Jc 5 ?_; obtain ⟨o41, hv⟩ := hv; obtain ⟨o45, hv⟩ := hv; obtain ⟨x54, o61, hv⟩ := hv; have hS0 := hS; refine QD 11 (fun iA => [false, false, false, false, false, false, false, false, false, true, true].getD iA false) (fun _ => none) (fun _ v u => u = v) [⟨[], [6], true⟩, ⟨[0], [], false⟩, ⟨[], [7], true⟩, ⟨[], [1], true⟩, ⟨[], [7], true⟩, ⟨[3, 4], [], true⟩, ⟨[], [1], true⟩, ⟨[], [7], true⟩, ⟨[6, 7], [], true⟩, ⟨[5, 8], [], false⟩, ⟨[9], [], false⟩] [.k 20 (.pointer (some ((⟨g19, 0, none⟩ : Addr).add 1))), .k 21 (.slice A15 ((y.length : Int).toNat) ((y.length : Int).toNat)), .k 22 (nI z30), .k 23 (nS Ay y ky), .k 24 (nI z30), .k 25 (.slice (if ky = z30.toNat then Ay else Ay.map (·.add (z30.toNat * 1))) ((y.drop z30.toNat).length) (ky - z30.toNat)), .k 26 (nS Ay y ky), .k 27 (nI z30), .k 28 (.slice Ay ((y.take z30.toNat).length) ky), eS w33 29 22 2 [.slice (if ky = z30.toNat then Ay else Ay.map (·.add (z30.toNat * 1))) ((y.drop z30.toNat).length) (ky - z30.toNat), .slice Ay ((y.take z30.toNat).length) ky], eS w33 30 3 x54.length (is x54)] (fun _ => vbD) Try.mixed (by kernel_rfl) rfl rfl (fun _ _ _ _ _ _ _ h => h) ?_ ?_
  . refine ⟨fun _ _ _ => Je (off := 1) QV rfl rfl <| Ja ⟨rfl, rfl⟩, og hS fun _ _ hS => Jm 0 1 Jw hS rfl rfl rfl ⟨rfl, rfl⟩ <| Ja ⟨rfl, Jd _⟩, oC, oC, oC, fun _ _ _ => Jlc Jo XE3 (hS.ro hy) rfl rfl o41 rfl <| Ja ⟨rfl, rfl⟩, oC, oC, fun _ _ _ => Zk Jo XE3 (hS.ro hy) rfl rfl o45 rfl (y.take z30.toNat).length (Jcs (hS.ro hy) o45) <| Ja ⟨rfl, rfl⟩, ?_, ?_, trivial⟩
    .intro w46 hE; have hE := hE rfl; have hS := hS.grow hE; intro RR; refine Juj (vs := [.slice (if ky = z30.toNat then Ay else Ay.map (·.add (z30.toNat * 1))) ((y.drop z30.toNat).length) (ky - z30.toNat), .slice Ay ((y.take z30.toNat).length) ky]) Jw Ju rfl rfl rfl rfl (by simp [Value.oneCell']) rfl ?_; intro A47 k50 w48 hO51 hN52g hGw48; have hN52 : ∀ g, bl A47 = some g -> _ <= g := fun g hg => Nat.le_trans hE.size (hN52g g hg); exact Ja ⟨_, rfl, hGw48, ⟨A47, k50, rfl, hO51, hN52⟩, (fun _ => fun g hg => ⟨hN52g g hg, (hO51.bl_ge g hg).2⟩), (fun j h => by cases h)⟩
    intro w53 hE; have hE := hE rfl; have hS := hS.grow hE; rintro _ ⟨A47_9, k50_9, rfl, hO51_9, hN52_9⟩; intro RR; refine WL.call XF100 rfl XN100 rfl rfl (JO (Jns (⟨_, _, hO51_9.rd, ⟨⟨_, _, _, rfl, (Jm4 (Rd.win (hS.ro hy) o41))⟩, ⟨_, _, _, rfl, (Jm4 (Jle (hS.ro hy) o45))⟩, trivial⟩⟩ : Rl _ _ _ _ ([y.drop z30.toNat, y.take z30.toNat] : LL)) o61)) ?_; rintro _ w58 ⟨_, hGw58, hRww58, hNww58, x54q, A55, k56, rfl, rfl, he⟩; subst he; have hO59 := (hRww58.get (i := 0) rfl).1; have hN60 : ∀ g, bl A55 = some g -> _ <= g := fun g hg => Nat.le_trans hE.size (hNww58.1 g hg); exact Ja ⟨_, rfl, hGw58, ⟨A55, k56, rfl, hO59, hN60⟩, (fun _ => fun g hg => ⟨hNww58.1 g hg, (hO59.bl_ge g hg).2⟩), (fun j h => by cases h)⟩
  intro vals w62 hT hVs hAp hCp; have hS := hS.grow hT; obtain ⟨A47_9, k50_9, hv9, hO51_9, hN52_9⟩ := hVs 9 (by decide); obtain ⟨A55_10, k56_10, hv10, hO59_10, hN60_10⟩ := hVs 10 (by decide); have hS := Qe [] hS0 hS hO59_10 hN60_10 (fun s hs => by cases hs); refine YV [(9, .slice A47_9 2 k50_9), (10, nS A55_10 x54 k56_10)] ⟨hv9, hv10, trivial⟩ <| Jn 11 rfl ?_; obtain ⟨o64, hv⟩ := hv; refine JA 2 Jw Ju hS rfl rfl rfl o64 rfl <| Ja <| Jn 12 rfl ?_; have hS := hS.pick [0, 2, 1, 3, 4] rfl; refine Yl hS Ju o64 (hS.rd (i := 0) rfl).ilen.symm rfl rfl ?_; intro w65 hS; refine Ja <| JK <| Js ?_; obtain ⟨o66, hv⟩ := hv; refine WL.add (r := (z30 + 1)) rfl rfl (wr o66) rfl <| Jb 2 ?_; have hS := hS.pick [1, 0, 2, 3] rfl; exact ⟨(sll x28 z30 x54, (z30 + 1), (up hs29 z30.toNat (A55_10, k56_10))), sp rfl, hv.2, rfl, hv.1, hS⟩
 have hv := hv.2 (oF c34); refine Jt <| Jc 2 <| JI 3 JZ J1 hS rfl ⟨rfl, rfl⟩ rfl <| JI 0 Qd Yr hS rfl ⟨rfl, rfl⟩ rfl <| SL.call hS (Jtb (hS.ro hf) (hS.rl (i := 1) rfl) hv) XF52 rfl XN52 rfl rfl ?_; rintro _ _ w67 ⟨r68, r69, x70, c71, x72, r73, A74, k75, A77, k78, hs79, rfl, rfl, hv⟩ hGw67 hS; have hS := hS.n2; refine Jb 2 <| JE (cs := [nI r68, nI r69, nS A74 x70 k75, nI c71, nS A77 x72 k78]) 4 hS rfl QO rfl rfl rfl rfl rfl ?_; intro w81 hS; refine Jb 2 <| W.ret ?_; have hS := hS.pick [1, 0, 2, 3, 4, 5] rfl
 change St _ _ _ _ [_, _, _, _, _, _] at hS
 repeat with_reducible first | refine blk.ret ?_ | refine exits.retI ?_
 refine endC.mk ⟨[.agg #[nI r68, nI r69, nS A74 x70 k75, nI c71, nS A77 x72 k78], nI r73], ⟨_, _, _, rfl, rfl, JJ (cs := [nI r68, nI r69, nS A74 x70 k75, nI c71, nS A77 x72 k78]) QO Ja4 rfl (JC (hS.own (i := 4) rfl)), ⟨_, _, rfl, rfl, rfl⟩⟩, ?_⟩; exact (hS.pick [1, 0] rfl).fin rfl ⟨r68, r69, x70, c71, x72, r73, A74, k75, A77, k78, hs79, rfl, rfl, hv⟩
def ZY (n : Int) (Q : Int × Int × LI × Int × LL × Int -> Prop) : Prop :=
  (((64 : Int) < n) -> (Q ((0 : Int), (0 : Int), ([] : LI), (0 : Int), ([] : LL), (6 : Int)))) /\ (¬ ((64 : Int) < n) -> (Jc1 n (fun r17 => (((!r17) = true) -> (Q ((0 : Int), (0 : Int), ([] : LI), (0 : Int), ([] : LL), (6 : Int)))) /\ ((!r17) = false -> ((((n.tmod (8 : Int)) ≠ 1) -> ((((n.tmod (8 : Int)) ≠ 7) -> (Q ((0 : Int), (0 : Int), ([] : LI), (0 : Int), ([] : LL), (6 : Int)))) /\ (¬ ((n.tmod (8 : Int)) ≠ 7) -> ((0 <= n /\ n * 8 <= 281474976710656 /\ n <= 281474976710656) /\ (∃ (I35 : LI -> Int -> Prop) (μ36 : LI -> Int -> Nat), I35 (List.replicate n.toNat (0 : Int)) (1 : Int) /\ ∀ (x33 : LI) (z34 : Int), (I35 x33 z34 -> (((z34 < n) -> ((I64 (z34 * z34)) /\ ((n ≠ 0) /\ ((0 <= ((z34 * z34).tmod n) /\ ((z34 * z34).tmod n) < (n.toNat : Nat)) /\ ((I64 (z34 + 1)) /\ (I35 (si x33 ((z34 * z34).tmod n) (1 : Int)) (z34 + 1) /\ μ36 (si x33 ((z34 * z34).tmod n) (1 : Int)) (z34 + 1) < μ36 x33 z34)))))) /\ (¬ (z34 < n) -> (∃ J45 : LI -> Prop, ((((n.tmod (8 : Int)) = 1) -> ((0 <= (0 : Int) /\ (0 : Int) < (n.toNat : Nat)) /\ (J45 (si x33 (0 : Int) (1 : Int))))) /\ (¬ ((n.tmod (8 : Int)) = 1) -> J45 x33)) /\ ∀ (x44 : LI), (J45 x44 -> (ZD  (fun (r51, r52, x53) => Yk r51 r52 x53 x44 (fun (r58, r59, x60, c61, x62, r63) => Q (r58, r59, x60, c61, x62, r63)))))))))))))) /\ (¬ ((n.tmod (8 : Int)) ≠ 1) -> ((0 <= n /\ n * 8 <= 281474976710656 /\ n <= 281474976710656) /\ (∃ (I84 : LI -> Int -> Prop) (μ85 : LI -> Int -> Nat), I84 (List.replicate n.toNat (0 : Int)) (1 : Int) /\ ∀ (x82 : LI) (z83 : Int), (I84 x82 z83 -> (((z83 < n) -> ((I64 (z83 * z83)) /\ ((n ≠ 0) /\ ((0 <= ((z83 * z83).tmod n) /\ ((z83 * z83).tmod n) < (n.toNat : Nat)) /\ ((I64 (z83 + 1)) /\ (I84 (si x82 ((z83 * z83).tmod n) (1 : Int)) (z83 + 1) /\ μ85 (si x82 ((z83 * z83).tmod n) (1 : Int)) (z83 + 1) < μ85 x82 z83)))))) /\ (¬ (z83 < n) -> (∃ J94 : LI -> Prop, ((((n.tmod (8 : Int)) = 1) -> ((0 <= (0 : Int) /\ (0 : Int) < (n.toNat : Nat)) /\ (J94 (si x82 (0 : Int) (1 : Int))))) /\ (¬ ((n.tmod (8 : Int)) = 1) -> J94 x82)) /\ ∀ (x93 : LI), (J94 x93 -> (ZD  (fun (r100, r101, x102) => Yk r100 r101 x102 x93 (fun (r107, r108, x109, c110, x111, r112) => Q (r107, r108, x109, c110, x111, r112)))))))))))))))))
theorem Jj8 {w : World} {Q : Int × Int × LI × Int × LL × Int -> Prop} {n : Int}  (hv : ZY n Q) :
   Calls Try.prog 35 #[.int .i64 n] w <| Rt w fun v Qr => ∃ (p0 : Int) (m0 : Int) (f0 : LI) (c0 : Int) (r0 : LL) (r1 : Int) (A0f : Option Addr) (k0f : Nat) (A0 : Option Addr) (k0 : Nat) (hs0 : Hs), v = .tuple #[.agg #[.int .i64 p0, .int .i64 m0, .slice A0f f0.length k0f, .int .i64 c0, .slice A0 r0.length k0], .int .i64 r1] /\ Qr = [.row 3 1 A0f f0.length k0f (is f0), mx 22 3 A0 r0.length k0 hs0 r0] /\ Q (p0, m0, f0, c0, r0, r1) := by
 refine Jk <| Qq (vs := [nI n]) [.cell 2 33, .tmp 3] XF35 rfl rfl rfl rfl ?_; have hS := Jp w; unfold ZY at hv; refine Jc 2 <| SL.alloc (cs := [nI 0, nI 0, .slice none 0 0, nI 0, .slice none 0 0]) hS QO rfl rfl ?_; intro g11 w12 hS; refine Jb 2 <| Jc 5 <| Jl rfl rfl ?_; by_cases g13 : (64 : Int) < n
 .have hv := hv.1 g13; rw [decide_eq_true g13]; refine Jb 9 <| JY rfl rfl <| JY rfl rfl <| JY rfl rfl <| Jb 3 <| J3 rfl <| Jc 2 <| Qg (cells := #[nI 0, nI 0, .slice none 0 0, nI 0, .slice none 0 0]) XB33 rfl rfl rfl <| JE (cs := [nI 0, nI 0, .slice none 0 0, nI 0, .slice none 0 0]) 0 hS rfl QO rfl rfl rfl rfl rfl ?_; intro w14 hS; refine Jb 2 <| W.ret ?_; have hS := hS.nil (e := 3) (z := 1); have hS := hS.mxNil 22 3; have hm4 := hS.mxlen (i := 0) rfl; have hS := hS.relenMx (i := 0) rfl hm4.symm
  change St _ _ _ _ [_, _, _] at hS
  repeat with_reducible first | refine blk.ret ?_ | refine exits.retI ?_
  refine endC.mk ⟨[.agg #[nI 0, nI 0, .slice none 0 0, nI 0, .slice none 0 0], nI 6], ⟨_, _, _, rfl, rfl, JJ (cs := [nI 0, nI 0, .slice none 0 0, nI 0, .slice none 0 0]) QO Ja4 rfl (JC (hS.own (i := 2) rfl)), ⟨_, _, rfl, rfl, rfl⟩⟩, ?_⟩; exact ⟨_, hS.ext, (hS.pick [1, 0] rfl).rows, Qa (hS.pick [1, 0] rfl).rows rfl, ⟨(0 : Int), (0 : Int), ([] : LI), (0 : Int), ([] : LL), (6 : Int), none, 0, none, 0, (fun _ => (none, 0)), (by (try unfold nS); first | (rw [show (Value.slice none 0 0) = Value.slice none (([] : LL)).length 0 from sm0 hm4.symm]; done) | (rw [show (Value.slice none 0 0) = Value.slice none (([] : LL)).length 0 from sm0 hm4.symm]; rfl)), rfl, hv⟩⟩
 have hv := hv.2 g13; rw [decide_eq_false g13]; refine Jb 3 <| SL.call hS (Jqd  hv) XF67 rfl XN67 rfl rfl ?_; rintro _ _ w16 ⟨r17, rfl, rfl, hv⟩ hGw16 hS; have hS := hS.n0; refine Jb 3 <| Jl rfl rfl ?_; rcases g18 : (!r17) with _ | _
 .have hv := hv.2 g18; refine Jb 3 <| J4 (r := (n.tmod (8 : Int))) rfl rfl (by decide) rfl rfl <| Jb 3 <| Jl rfl rfl ?_; by_cases g21 : (n.tmod (8 : Int)) ≠ 1
  .have hv := hv.1 g21; rw [decide_eq_true g21]; refine Jb 3 <| J4 (r := (n.tmod (8 : Int))) rfl rfl (by decide) rfl rfl <| Jb 6 <| Jg rfl (fun c22 => ?_) (fun c22 => ?_)
   .have hv := hv.1 (oT c22); refine Jc 2 <| Qg (cells := #[nI 0, nI 0, .slice none 0 0, nI 0, .slice none 0 0]) XB33 rfl rfl rfl <| JE (cs := [nI 0, nI 0, .slice none 0 0, nI 0, .slice none 0 0]) 0 hS rfl QO rfl rfl rfl rfl rfl ?_; intro w23 hS; refine Jb 2 <| W.ret ?_; have hS := hS.nil (e := 3) (z := 1); have hS := hS.mxNil 22 3; have hm4 := hS.mxlen (i := 0) rfl; have hS := hS.relenMx (i := 0) rfl hm4.symm
    change St _ _ _ _ [_, _, _] at hS
    repeat with_reducible first | refine blk.ret ?_ | refine exits.retI ?_
    refine endC.mk ⟨[.agg #[nI 0, nI 0, .slice none 0 0, nI 0, .slice none 0 0], nI 6], ⟨_, _, _, rfl, rfl, JJ (cs := [nI 0, nI 0, .slice none 0 0, nI 0, .slice none 0 0]) QO Ja4 rfl (JC (hS.own (i := 2) rfl)), ⟨_, _, rfl, rfl, rfl⟩⟩, ?_⟩; exact ⟨_, hS.ext, (hS.pick [1, 0] rfl).rows, Qa (hS.pick [1, 0] rfl).rows rfl, ⟨(0 : Int), (0 : Int), ([] : LI), (0 : Int), ([] : LL), (6 : Int), none, 0, none, 0, (fun _ => (none, 0)), (by (try unfold nS); first | (rw [show (Value.slice none 0 0) = Value.slice none (([] : LL)).length 0 from sm0 hm4.symm]; done) | (rw [show (Value.slice none 0 0) = Value.slice none (([] : LL)).length 0 from sm0 hm4.symm]; rfl)), rfl, hv⟩⟩
   have hv := hv.2 (oF c22); refine Ji <| Jc 3 ?_; obtain ⟨o25, hv⟩ := hv; refine Qm (J := n) hS Jo XE3 rfl rfl o25 (Qw _) rfl ?_; intro A26 w27 hS; refine Jb 2 <| Jc 5 <| W.block ?_; obtain ⟨I35, μ36, hv, hk73⟩ := hv; refine Jv (σ := LI × Int) (fun q w1 => match q with | (x33, z34) => I35 x33 z34 /\ St TT w none w1 [.row 3 1 A26 n.toNat n.toNat (is x33), .row 33 5 (nA g11) 1 1 [nI 0, nI 0, .slice none 0 0, nI 0, .slice none 0 0]]) (fun (x33, z34) => [(0, nI n), (2, nP g11), (3, nI 0), (4, .slice A26 n.toNat n.toNat), (5, nI z34)]) (fun (x33, z34) => μ36 x33 z34) (List.replicate n.toNat (0 : Int), (1 : Int)) ⟨hv, hS⟩ ⟨rfl, rfl, rfl, rfl, rfl, trivial⟩ ?_; rintro ⟨x33, z34⟩ w37 ⟨hv, hS⟩; have hv := hk73 x33 z34 hv; refine Jc 7 <| Jg rfl (fun c38 => ?_) (fun c38 => ?_)
   .have hv := hv.1 (oT c38); refine Ji <| Jr <| W.block <| Jc 4 ?_; obtain ⟨o39, hv⟩ := hv; refine WL.mul (r := (z34 * z34)) rfl rfl (wr o39) rfl <| Jl rfl rfl ?_; obtain ⟨o40, hv⟩ := hv; refine J4 (r := ((z34 * z34).tmod n)) rfl rfl o40 rfl rfl ?_; obtain ⟨o41, hv⟩ := hv; refine Jf Jo XE3 (hS.rd (i := 0) rfl) rfl rfl o41 rfl <| Jz (cs' := is (si x33 ((z34 * z34).tmod n) (1 : Int))) 0 ((z34 * z34).tmod n).toNat hS rfl XE3 rfl rfl rfl (Qp (hS.rd (i := 0) rfl) o41) (J7 _ _ _) ?_; intro w42 hS; refine Ja <| Jc 2 ?_; obtain ⟨o43, hv⟩ := hv; refine WL.add (r := (z34 + 1)) rfl rfl (wr o43) rfl <| Jb 2 ?_; exact ⟨(si x33 ((z34 * z34).tmod n) (1 : Int), (z34 + 1)), sp rfl, hv.2, rfl, hv.1, hS⟩
   have hv := hv.2 (oF c38); refine Jt <| Jc 4 <| J4 (r := (n.tmod (8 : Int))) rfl rfl (by decide) rfl rfl <| Jb 2 ?_; obtain ⟨J45, hv, hk72⟩ := hv; refine J5 (σ := LI) (fun x44 w1 => J45 x44 /\ St TT w none w1 [.row 3 1 A26 n.toNat n.toNat (is x44), .row 33 5 (nA g11) 1 1 [nI 0, nI 0, .slice none 0 0, nI 0, .slice none 0 0]]) (fun x44 => [(2, nP g11), (3, nI 0), (4, .slice A26 n.toNat n.toNat)]) ?_ ?_
   .refine Jg rfl (fun c46 => ?_) (fun c46 => ?_)
    .have hv := hv.1 (oT c46); refine Jc 2 ?_; obtain ⟨o47, hv⟩ := hv; refine Jf Jo XE3 (hS.rd (i := 0) rfl) rfl rfl o47 rfl <| Jz (cs' := is (si x33 (0 : Int) (1 : Int))) 0 (0 : Int).toNat hS rfl XE3 rfl rfl rfl (Qp (hS.rd (i := 0) rfl) o47) (J7 _ _ _) ?_; intro w48 hS; refine Ja ?_; exact ⟨si x33 (0 : Int) (1 : Int), sp rfl, rfl, hv, hS⟩
    have hv := hv.2 (oF c46); refine Ji ?_; exact ⟨x33, sp rfl, rfl, hv, hS⟩
   rintro x44 w49 ⟨hv, hS⟩; have hv := hk72 x44 hv; refine Jc 2 <| SL.call hS (Jet  hv) XF60 rfl XN60 rfl rfl ?_; rintro _ _ w50 ⟨r51, r52, x53, A54, k55, rfl, rfl, hv⟩ hGw50 hS; have hS := hS.n1; refine Jl rfl rfl <| SL.call hS (Jdk (hS.rd (i := 0) rfl) (hS.rd (i := 1) rfl) hv) XF68 rfl XN68 rfl rfl ?_; rintro _ _ w57 ⟨r58, r59, x60, c61, x62, r63, A64, k65, A67, k68, hs69, rfl, rfl, hv⟩ hGw57 hS; have hS := hS.n2; refine Jb 2 <| JE (cs := [nI r58, nI r59, nS A64 x60 k65, nI c61, nS A67 x62 k68]) 4 hS rfl QO rfl rfl rfl rfl rfl ?_; intro w71 hS; refine Jb 2 <| W.ret ?_; have hS := hS.pick [1, 0, 2, 3, 4] rfl
   change St _ _ _ _ [_, _, _, _, _] at hS
   repeat with_reducible first | refine blk.ret ?_ | refine exits.retI ?_
   refine endC.mk ⟨[.agg #[nI r58, nI r59, nS A64 x60 k65, nI c61, nS A67 x62 k68], nI r63], ⟨_, _, _, rfl, rfl, JJ (cs := [nI r58, nI r59, nS A64 x60 k65, nI c61, nS A67 x62 k68]) QO Ja4 rfl (JC (hS.own (i := 4) rfl)), ⟨_, _, rfl, rfl, rfl⟩⟩, ?_⟩; exact (hS.pick [1, 0] rfl).fin rfl ⟨r58, r59, x60, c61, x62, r63, A64, k65, A67, k68, hs69, rfl, rfl, hv⟩
  have hv := hv.2 g21; rw [decide_eq_false g21]; refine Jb 7 <| Qt rfl <| Ji <| Jc 3 ?_; obtain ⟨o74, hv⟩ := hv; refine Qm (J := n) hS Jo XE3 rfl rfl o74 (Qw _) rfl ?_; intro A75 w76 hS; refine Jb 2 <| Jc 5 <| W.block ?_; obtain ⟨I84, μ85, hv, hk122⟩ := hv; refine Jv (σ := LI × Int) (fun q w1 => match q with | (x82, z83) => I84 x82 z83 /\ St TT w none w1 [.row 3 1 A75 n.toNat n.toNat (is x82), .row 33 5 (nA g11) 1 1 [nI 0, nI 0, .slice none 0 0, nI 0, .slice none 0 0]]) (fun (x82, z83) => [(0, nI n), (2, nP g11), (3, nI 0), (4, .slice A75 n.toNat n.toNat), (5, nI z83)]) (fun (x82, z83) => μ85 x82 z83) (List.replicate n.toNat (0 : Int), (1 : Int)) ⟨hv, hS⟩ ⟨rfl, rfl, rfl, rfl, rfl, trivial⟩ ?_; rintro ⟨x82, z83⟩ w86 ⟨hv, hS⟩; have hv := hk122 x82 z83 hv; refine Jc 7 <| Jg rfl (fun c87 => ?_) (fun c87 => ?_)
  .have hv := hv.1 (oT c87); refine Ji <| Jr <| W.block <| Jc 4 ?_; obtain ⟨o88, hv⟩ := hv; refine WL.mul (r := (z83 * z83)) rfl rfl (wr o88) rfl <| Jl rfl rfl ?_; obtain ⟨o89, hv⟩ := hv; refine J4 (r := ((z83 * z83).tmod n)) rfl rfl o89 rfl rfl ?_; obtain ⟨o90, hv⟩ := hv; refine Jf Jo XE3 (hS.rd (i := 0) rfl) rfl rfl o90 rfl <| Jz (cs' := is (si x82 ((z83 * z83).tmod n) (1 : Int))) 0 ((z83 * z83).tmod n).toNat hS rfl XE3 rfl rfl rfl (Qp (hS.rd (i := 0) rfl) o90) (J7 _ _ _) ?_; intro w91 hS; refine Ja <| Jc 2 ?_; obtain ⟨o92, hv⟩ := hv; refine WL.add (r := (z83 + 1)) rfl rfl (wr o92) rfl <| Jb 2 ?_; exact ⟨(si x82 ((z83 * z83).tmod n) (1 : Int), (z83 + 1)), sp rfl, hv.2, rfl, hv.1, hS⟩
  have hv := hv.2 (oF c87); refine Jt <| Jc 4 <| J4 (r := (n.tmod (8 : Int))) rfl rfl (by decide) rfl rfl <| Jb 2 ?_; obtain ⟨J94, hv, hk121⟩ := hv; refine J5 (σ := LI) (fun x93 w1 => J94 x93 /\ St TT w none w1 [.row 3 1 A75 n.toNat n.toNat (is x93), .row 33 5 (nA g11) 1 1 [nI 0, nI 0, .slice none 0 0, nI 0, .slice none 0 0]]) (fun x93 => [(2, nP g11), (3, nI 0), (4, .slice A75 n.toNat n.toNat)]) ?_ ?_
  .refine Jg rfl (fun c95 => ?_) (fun c95 => ?_)
   .have hv := hv.1 (oT c95); refine Jc 2 ?_; obtain ⟨o96, hv⟩ := hv; refine Jf Jo XE3 (hS.rd (i := 0) rfl) rfl rfl o96 rfl <| Jz (cs' := is (si x82 (0 : Int) (1 : Int))) 0 (0 : Int).toNat hS rfl XE3 rfl rfl rfl (Qp (hS.rd (i := 0) rfl) o96) (J7 _ _ _) ?_; intro w97 hS; refine Ja ?_; exact ⟨si x82 (0 : Int) (1 : Int), sp rfl, rfl, hv, hS⟩
   have hv := hv.2 (oF c95); refine Ji ?_; exact ⟨x82, sp rfl, rfl, hv, hS⟩
  rintro x93 w98 ⟨hv, hS⟩; have hv := hk121 x93 hv; refine Jc 2 <| SL.call hS (Jet  hv) XF60 rfl XN60 rfl rfl ?_; rintro _ _ w99 ⟨r100, r101, x102, A103, k104, rfl, rfl, hv⟩ hGw99 hS; have hS := hS.n1; refine Jl rfl rfl <| SL.call hS (Jdk (hS.rd (i := 0) rfl) (hS.rd (i := 1) rfl) hv) XF68 rfl XN68 rfl rfl ?_; rintro _ _ w106 ⟨r107, r108, x109, c110, x111, r112, A113, k114, A116, k117, hs118, rfl, rfl, hv⟩ hGw106 hS; have hS := hS.n2; refine Jb 2 <| JE (cs := [nI r107, nI r108, nS A113 x109 k114, nI c110, nS A116 x111 k117]) 4 hS rfl QO rfl rfl rfl rfl rfl ?_; intro w120 hS; refine Jb 2 <| W.ret ?_; have hS := hS.pick [1, 0, 2, 3, 4] rfl
  change St _ _ _ _ [_, _, _, _, _] at hS
  repeat with_reducible first | refine blk.ret ?_ | refine exits.retI ?_
  refine endC.mk ⟨[.agg #[nI r107, nI r108, nS A113 x109 k114, nI c110, nS A116 x111 k117], nI r112], ⟨_, _, _, rfl, rfl, JJ (cs := [nI r107, nI r108, nS A113 x109 k114, nI c110, nS A116 x111 k117]) QO Ja4 rfl (JC (hS.own (i := 4) rfl)), ⟨_, _, rfl, rfl, rfl⟩⟩, ?_⟩; exact (hS.pick [1, 0] rfl).fin rfl ⟨r107, r108, x109, c110, x111, r112, A113, k114, A116, k117, hs118, rfl, rfl, hv⟩
 have hv := hv.1 g18; refine Jb 4 <| JY rfl rfl <| JY rfl rfl <| JY rfl rfl <| Jb 3 <| J3 rfl <| Jc 2 <| Qg (cells := #[nI 0, nI 0, .slice none 0 0, nI 0, .slice none 0 0]) XB33 rfl rfl rfl <| JE (cs := [nI 0, nI 0, .slice none 0 0, nI 0, .slice none 0 0]) 0 hS rfl QO rfl rfl rfl rfl rfl ?_; intro w19 hS; refine Jb 2 <| W.ret ?_; have hS := hS.nil (e := 3) (z := 1); have hS := hS.mxNil 22 3; have hm4 := hS.mxlen (i := 0) rfl; have hS := hS.relenMx (i := 0) rfl hm4.symm
 change St _ _ _ _ [_, _, _] at hS
 repeat with_reducible first | refine blk.ret ?_ | refine exits.retI ?_
 refine endC.mk ⟨[.agg #[nI 0, nI 0, .slice none 0 0, nI 0, .slice none 0 0], nI 6], ⟨_, _, _, rfl, rfl, JJ (cs := [nI 0, nI 0, .slice none 0 0, nI 0, .slice none 0 0]) QO Ja4 rfl (JC (hS.own (i := 2) rfl)), ⟨_, _, rfl, rfl, rfl⟩⟩, ?_⟩; exact ⟨_, hS.ext, (hS.pick [1, 0] rfl).rows, Qa (hS.pick [1, 0] rfl).rows rfl, ⟨(0 : Int), (0 : Int), ([] : LI), (0 : Int), ([] : LL), (6 : Int), none, 0, none, 0, (fun _ => (none, 0)), (by (try unfold nS); first | (rw [show (Value.slice none 0 0) = Value.slice none (([] : LL)).length 0 from sm0 hm4.symm]; done) | (rw [show (Value.slice none 0 0) = Value.slice none (([] : LL)).length 0 from sm0 hm4.symm]; rfl)), rfl, hv⟩⟩
end Go.Proofs.Ytjgpkljepgcekaa
namespace Go.Proofs.Ytjgpkljepgcekaa
open Go.RowKit
def Jg0 (n : Int) (y : LI) (Q : Bool -> Prop) : Prop :=
  ZX  (fun r12 => (((!r12) = true) -> Q false) /\ ((!r12) = false -> (ZY n (fun (r15, r16, x17, c18, x19, r20) => YI n (fun r32 => (((!r32) = true) -> (Q (decide (r20 = 6)))) /\ ((!r32) = false -> (((r20 ≠ 0) -> Q false) /\ (¬ (r20 ≠ 0) -> (Ze r15 r16 x17 c18 x19 y (fun (x36, r37) => ((r37 ≠ 0) -> Q true) /\ (¬ (r37 ≠ 0) -> (Yw r15 r16 x17 x36 (fun r43 => (((r43.tmod (2 : Int)) = 0) -> Q true) /\ (¬ ((r43.tmod (2 : Int)) = 0) -> ((I64 (r43 * r43)) /\ (((n <= (r43 * r43)) -> ((((n.tmod (8 : Int)) = 1) -> Q true) /\ (¬ ((n.tmod (8 : Int)) = 1) -> ((I64 (r43 * r43)) /\ ((I64 ((r43 * r43) - r43)) /\ ((I64 (((r43 * r43) - r43) + (1 : Int))) /\ (Q (decide (n <= (((r43 * r43) - r43) + (1 : Int))))))))))) /\ (¬ (n <= (r43 * r43)) -> Q false)))))))))))))))))
theorem Jqf {w : World} {Q : Bool -> Prop} {n : Int} {y : LI} {By : Nat} {Ay : Option Addr} {ny ky : Nat} (hy : Rd By w 1 Ay ny ky (is y)) (hv : Jg0 n y Q) :
   Calls Try.prog 11 #[.int .i64 n, .slice Ay ny ky] w <| Rt w fun v Qr => ∃ (r0 : Bool), v = .bool r0 /\ Qr = [] /\ Q r0 := by
 have hny := hy.ilen; subst hny; refine Jk <| Jh (vs := [nI n, nS Ay y ky]) [4] XF11 rfl rfl rfl rfl ?_; have hS := Jp w; unfold Jg0 at hv; refine Jc 7 <| SL.call hS (Jj7  hv) XF16 rfl XN16 rfl rfl ?_; rintro _ _ w11 ⟨r12, rfl, rfl, hv⟩ hGw11 hS; have hS := hS.n0; refine Jb 2 <| Jg rfl (fun c13 => ?_) (fun c13 => ?_)
 .have hv := hv.1 (c13); refine Jc 4 <| W.ret <| ⟨_, rfl, Fin.nil ?_⟩
  exact (hS.pick [] rfl).fin rfl ⟨false, rfl, rfl, hv⟩
 have hv := hv.2 (c13); refine Ji <| Jc 3 <| SL.call hS (Jj8  hv) XF35 rfl XN35 rfl rfl ?_; rintro _ _ w14 ⟨r15, r16, x17, c18, x19, r20, A21, k22, A24, k25, hs26, rfl, rfl, hv⟩ hGw14 hS; have hS := hS.n2; refine Jb 3 <| SL.alloc (cs := [nI 0, nI 0, .slice none 0 0, nI 0, .slice none 0 0]) hS QO rfl rfl ?_; intro g28 w29 hS; refine JE (cs := [nI r15, nI r16, nS A21 x17 k22, nI c18, nS A24 x19 k25]) 0 hS rfl QO rfl rfl rfl rfl rfl ?_; intro w30 hS; refine Jb 2 <| Jc 4 <| SL.call hS (Jfv  hv) XF37 rfl XN37 rfl rfl ?_; rintro _ _ w31 ⟨r32, rfl, rfl, hv⟩ hGw31 hS; have hS := hS.n0; refine Jb 2 <| Jg rfl (fun c33 => ?_) (fun c33 => ?_)
 .have hv := hv.1 (c33); refine Jc 6 <| W.ret <| ⟨_, rfl, Fin.nil ?_⟩
  exact (hS.pick [] rfl).fin rfl ⟨(decide (r20 = 6)), rfl, rfl, hv⟩
 have hv := hv.2 (c33); refine Ji <| Jc 6 <| Jg rfl (fun c34 => ?_) (fun c34 => ?_)
 .have hv := hv.1 (oT c34); refine Jc 4 <| W.ret <| ⟨_, rfl, Fin.nil ?_⟩
  exact (hS.pick [] rfl).fin rfl ⟨false, rfl, rfl, hv⟩
 have hv := hv.2 (oF c34); refine Ji <| Jc 2 <| JI 0 QO Ja4 hS rfl ⟨rfl, rfl⟩ rfl <| Jl rfl rfl <| SL.call hS (Jhq (hS.rd (i := 1) rfl) (hS.rl (i := 2) rfl) (hS.ro hy) hv) XF38 rfl XN38 rfl rfl ?_; rintro _ _ w35 ⟨x36, r37, A38, k39, rfl, rfl, hv⟩ hGw35 hS; have hS := hS.n1; refine Jb 6 <| Jc 6 <| Jg rfl (fun c41 => ?_) (fun c41 => ?_)
 .have hv := hv.1 (oT c41); refine Jc 4 <| W.ret <| ⟨_, rfl, Fin.nil ?_⟩
  exact (hS.pick [] rfl).fin rfl ⟨true, rfl, rfl, hv⟩
 have hv := hv.2 (oF c41); refine Ji <| Jc 2 <| Je (off := 0) Jd3 rfl rfl <| Q4 (cs := [nI r15, nI r16, nS A21 x17 k22]) JZ J1 rfl rfl (Jb6 (hS.rd (i := 1) rfl) 0 rfl) rfl <| Jl rfl rfl <| SL.call hS (Jhs (hS.rd (i := 2) rfl) (hS.rd (i := 0) rfl) hv) XF23 rfl XN23 rfl rfl ?_; rintro _ _ w42 ⟨r43, rfl, rfl, hv⟩ hGw42 hS; have hS := hS.n0; refine Jb 2 <| Jc 4 <| J4 (r := (r43.tmod (2 : Int))) rfl rfl (by decide) rfl rfl <| Jb 2 <| Jg rfl (fun c44 => ?_) (fun c44 => ?_)
 .have hv := hv.1 (oT c44); refine Jc 4 <| W.ret <| ⟨_, rfl, Fin.nil ?_⟩
  exact (hS.pick [] rfl).fin rfl ⟨true, rfl, rfl, hv⟩
 have hv := hv.2 (oF c44); refine Ji <| Jc 4 ?_; obtain ⟨o45, hv⟩ := hv; refine WL.mul (r := (r43 * r43)) rfl rfl (wr o45) rfl <| Jb 2 <| Jl rfl rfl ?_; by_cases g46 : n <= (r43 * r43)
 .have hv := hv.1 g46; rw [decide_eq_true g46]; refine Jb 3 <| J4 (r := (n.tmod (8 : Int))) rfl rfl (by decide) rfl rfl <| Jb 3 <| Jl rfl rfl ?_; by_cases g47 : (n.tmod (8 : Int)) = 1
  .have hv := hv.1 g47; rw [decide_eq_true g47]; refine Jb 13 <| W.ret <| ⟨_, rfl, Fin.nil ?_⟩
   exact (hS.pick [] rfl).fin rfl ⟨true, rfl, rfl, hv⟩
  have hv := hv.2 g47; rw [decide_eq_false g47]; refine Jb 5 ?_; obtain ⟨o48, hv⟩ := hv; refine WL.mul (r := (r43 * r43)) rfl rfl (wr o48) rfl <| Jb 3 ?_; obtain ⟨o49, hv⟩ := hv; refine WL.sub (r := ((r43 * r43) - r43)) rfl rfl (wr o49) rfl <| WL.take rfl ?_; obtain ⟨o50, hv⟩ := hv; refine WL.add (r := (((r43 * r43) - r43) + (1 : Int))) rfl rfl (wr o50) rfl <| Jb 9 <| W.ret <| ⟨_, rfl, Fin.nil ?_⟩
  exact (hS.pick [] rfl).fin rfl ⟨(decide (n <= (((r43 * r43) - r43) + (1 : Int)))), rfl, rfl, hv⟩
 have hv := hv.2 g46; rw [decide_eq_false g46]; refine Jb 4 <| JY rfl rfl <| JY rfl rfl <| JY rfl rfl <| JY rfl rfl <| JY rfl rfl <| JY rfl rfl <| JY rfl rfl <| JY rfl rfl <| Jb 4 <| W.ret <| ⟨_, rfl, Fin.nil ?_⟩
 exact (hS.pick [] rfl).fin rfl ⟨false, rfl, rfl, hv⟩
end Go.Proofs.Ytjgpkljepgcekaa
namespace Go.Proofs.Ytjgpkljepgcekaa
abbrev Vec := Nat -> Int
def tX (m : Nat) (c : Vec) (v : Vec) : Vec := fun i => if i < m then (if i = 0 then 0 else v (i - 1)) - c i * v (m - 1) else 0
def JS (u v : Vec) : Vec := fun i => u i + v i
def vsm (a : Int) (v : Vec) : Vec := fun i => a * v i
def vz : Vec := fun _ => 0
def e0 : Vec := fun i => if i = 0 then 1 else 0
def tXn (m : Nat) (c : Vec) : Nat -> Vec -> Vec
  | 0, v => v
  | n + 1, v => tX m c (tXn m c n v)
def opr (m : Nat) (c b : Vec) : Nat -> Vec -> Vec
  | 0, _ => vz
  | n + 1, v => JS (opr m c b n v) (vsm (b n) (tXn m c n v))
def Q7 (m : Nat) (c a b : Vec) : Vec := opr m c b m a
section
variable (m : Nat) (c : Vec)
theorem tX_add (u v : Vec) : tX m c (JS u v) = JS (tX m c u) (tX m c v) := by
 funext i; simp only [tX, JS]; split
 .split <;> grind
 .rfl
theorem tX_sm (a : Int) (v : Vec) : tX m c (vsm a v) = vsm a (tX m c v) := by
 funext i; simp only [tX, vsm]; split
 .split <;> grind
 .grind
theorem tX_z : tX m c vz = vz := by funext i; simp [tX, vz]
theorem Jaa (u : Vec) : JS u vz = u := by funext i; simp [JS, vz]
theorem z_vadd (u : Vec) : JS vz u = u := by funext i; simp [JS, vz]
theorem Jek (u v : Vec) : JS u v = JS v u := by funext i; simp only [JS]; omega
theorem Y3 (u v w : Vec) : JS (JS u v) w = JS u (JS v w) := by funext i; simp only [JS]; omega
theorem Jck (a : Int) (u v : Vec) : vsm a (JS u v) = JS (vsm a u) (vsm a v) := by funext i; simp only [JS, vsm]; grind
theorem Je9 (a b : Int) (u : Vec) : vsm a (vsm b u) = vsm (a * b) u := by funext i; simp only [vsm]; grind
theorem Jli (a : Int) : vsm a vz = vz := by funext i; simp [vsm, vz]
theorem Jas (n : Nat) (u v : Vec) : tXn m c n (JS u v) = JS (tXn m c n u) (tXn m c n v) := by
 induction n with
 | zero => rfl
 | succ n ih => simp only [tXn, ih, tX_add]
theorem Jbf (n : Nat) (a : Int) (v : Vec) : tXn m c n (vsm a v) = vsm a (tXn m c n v) := by
 induction n with
 | zero => rfl
 | succ n ih => simp only [tXn, ih, tX_sm]
theorem Jhb (n : Nat) : tXn m c n vz = vz := by
 induction n with
 | zero => rfl
 | succ n ih => simp only [tXn, ih, tX_z]
theorem Jph (n : Nat) (v : Vec) : tXn m c n (tX m c v) = tX m c (tXn m c n v) := by
 induction n with
 | zero => rfl
 | succ n ih => simp only [tXn, ih]
theorem Jco (n k : Nat) (v : Vec) : tXn m c n (tXn m c k v) = tXn m c (n + k) v := by
 induction n with
 | zero => simp [tXn]
 | succ n ih => rw [Nat.succ_add]; simp only [tXn, ih]
variable (b : Vec)
theorem Jlz (n : Nat) (u v : Vec) : opr m c b n (JS u v) = JS (opr m c b n u) (opr m c b n v) := by
 induction n with
 | zero => simp [opr, Jaa]
 | succ n ih => simp only [opr, ih, Jas, Jck]; funext i; simp only [JS]; omega
theorem Jjz (n : Nat) (a : Int) (v : Vec) : opr m c b n (vsm a v) = vsm a (opr m c b n v) := by
 induction n with
 | zero => simp [opr, Jli]
 | succ n ih => simp only [opr, ih, Jbf, Jck, Je9]; rw [Int.mul_comm (b n) a]
theorem opr_z (n : Nat) : opr m c b n vz = vz := by
 induction n with
 | zero => rfl
 | succ n ih => simp only [opr, ih, Jhb, Jli, Jaa]
theorem Jly (n k : Nat) (v : Vec) : opr m c b n (tXn m c k v) = tXn m c k (opr m c b n v) := by
 induction n with
 | zero => simp [opr, Jhb]
 | succ n ih => simp only [opr, ih, Jas, Jbf, Jco]; rw [Nat.add_comm n k]
theorem Jhn (d : Vec) (n k : Nat) (v : Vec) : opr m c b n (opr m c d k v) = opr m c d k (opr m c b n v) := by
 induction n with
 | zero => simp only [opr, opr_z]
 | succ n ih => simp only [opr, ih, Jlz, Jjz, Jly]
theorem Jp7 (d : Vec) (n : Nat) (v : Vec) : opr m c (JS b d) n v = JS (opr m c b n v) (opr m c d n v) := by
 induction n with
 | zero => simp [opr, Jaa]
 | succ n ih => simp only [opr, ih]; funext i; simp only [JS, vsm]; grind
end
def vei (k : Nat) : Vec := fun i => if i = k then 1 else 0
theorem Jjo {m : Nat} {c : Vec} : ∀ {k : Nat}, k < m -> tXn m c k e0 = vei k
 | 0, _ => rfl
 | k + 1, h => by
  have ih : tXn m c k e0 = vei k := Jjo (by omega); simp only [tXn, ih]; funext i; simp only [tX, vei]; split
  .rw [if_neg (show ¬ m - 1 = k by omega)]; by_cases h0 : i = 0
   .subst h0; simp
   .simp only [h0, if_false]; by_cases h1 : i = k + 1
    .subst h1; simp
    .rw [if_neg (by omega), if_neg h1]; simp
  .rw [if_neg (by omega)]
theorem Jfp {m : Nat} {c a : Vec} : ∀ {n : Nat}, n <= m -> ∀ i, opr m c a n e0 i = if i < n then a i else 0
  | 0, _, i => by simp [opr, vz]
  | n + 1, h, i => by
    simp only [opr, JS, vsm]
    rw [Jfp (n := n) (by omega) i, Jjo (by omega)]
    simp only [vei]
    by_cases h1 : i = n
    . subst h1; simp
    . by_cases h2 : i < n
      . simp [h2, h1, show i < n + 1 by omega]
      . simp [h2, h1, show ¬ i < n + 1 by omega]
def Sup (m : Nat) (v : Vec) : Prop := ∀ i, m <= i -> v i = 0
theorem YT {m : Nat} {c a : Vec} (h : Sup m a) : opr m c a m e0 = a := by
 funext i; rw [Jfp (Nat.le_refl m)]; split
 .rfl
 .exact (h i (by omega)).symm
theorem Sup.z {m : Nat} : Sup m vz := fun _ _ => rfl
theorem Sup.tX {m : Nat} {c v : Vec} : Sup m (tX m c v) := fun i h => by simp [Go.Proofs.Ytjgpkljepgcekaa.tX, show ¬ i < m by omega]
theorem Sup.add {m : Nat} {u v : Vec} (hu : Sup m u) (hv : Sup m v) : Sup m (JS u v) := fun i h => by simp [JS, hu i h, hv i h]
theorem Sup.sm {m : Nat} {a : Int} {v : Vec} (hv : Sup m v) : Sup m (vsm a v) := fun i h => by simp [vsm, hv i h]
theorem Sup.tXn {m : Nat} {c v : Vec} (hv : Sup m v) : ∀ n, Sup m (tXn m c n v)
 | 0 => hv
 | _ + 1 => Sup.tX
theorem Sup.opr {m : Nat} {c b v : Vec} (hv : Sup m v) : ∀ n, Sup m (opr m c b n v)
 | 0 => Sup.z
 | n + 1 => (Sup.opr hv n).add (hv.tXn n).sm
theorem ZE {m : Nat} {c a b : Vec} (ha : Sup m a) (hb : Sup m b) : Q7 m c a b = Q7 m c b a := by
 unfold Q7
 calc opr m c b m a = opr m c b m (opr m c a m e0) := by rw [YT ha]
  _ = opr m c a m (opr m c b m e0) := Jhn ..
  _ = opr m c a m b := by rw [YT hb]
theorem Jjk {m : Nat} {c a b d : Vec} (ha : Sup m a) (hb : Sup m b) (hd : Sup m d) : Q7 m c (Q7 m c a b) d = Q7 m c a (Q7 m c b d) := by
 rw [ZE (a := a) (b := Q7 m c b d) ha (Sup.opr hb m)]; show opr m c d m (opr m c b m a) = opr m c a m (opr m c d m b); rw [<- Jhn m c d a m m b]; show opr m c d m (Q7 m c a b) = opr m c d m (Q7 m c b a); rw [ZE ha hb]
theorem Jo6 {m : Nat} {c a b d : Vec} : Q7 m c a (JS b d) = JS (Q7 m c a b) (Q7 m c a d) := Jp7 ..
theorem Jo5 {m : Nat} {c a : Vec} (hm : 0 < m) : Q7 m c a e0 = a := by
 have key : ∀ n, 0 < n -> opr m c e0 n a = a := by
  intro n
  induction n with
  | zero => intro h; omega
  | succ n ih =>
   intro _; rcases Nat.eq_zero_or_pos n with h | h
   .subst h; funext i; simp [opr, e0, JS, vsm, vz, tXn]
   .simp only [opr, ih h]; funext i; simp [e0, JS, vsm, show n ≠ 0 by omega]
 exact key m hm
def vcg (p : Int) (u v : Vec) : Prop := ∀ i, u i % p = v i % p
section
variable {p : Int} {m : Nat} {c c' u u' v v' b b' : Vec}
theorem vcg.refl (u : Vec) : vcg p u u := fun _ => rfl
theorem vcg.symm (h : vcg p u v) : vcg p v u := fun i => (h i).symm
theorem vcg.trans {w : Vec} (h : vcg p u v) (k : vcg p v w) : vcg p u w := fun i => (h i).trans (k i)
theorem Jbp {a a' d d' : Int} (h : a % p = a' % p) (k : d % p = d' % p) : (a * d) % p = (a' * d') % p := by
 rw [Int.mul_emod, h, k, <- Int.mul_emod]
theorem Jbz {a a' d d' : Int} (h : a % p = a' % p) (k : d % p = d' % p) : (a + d) % p = (a' + d') % p := by
 rw [Int.add_emod, h, k, <- Int.add_emod]
theorem Jjp {a a' d d' : Int} (h : a % p = a' % p) (k : d % p = d' % p) : (a - d) % p = (a' - d') % p := by
 rw [Int.sub_emod, h, k, <- Int.sub_emod]
theorem vcg.add (h : vcg p u u') (k : vcg p v v') : vcg p (JS u v) (JS u' v') := fun i => Jbz (h i) (k i)
theorem vcg.sm {a a' : Int} (ha : a % p = a' % p) (h : vcg p u u') : vcg p (vsm a u) (vsm a' u') := fun i => Jbp ha (h i)
theorem vcg.tX (hc : vcg p c c') (h : vcg p u u') : vcg p (tX m c u) (tX m c' u') := fun i => by
 simp only [Go.Proofs.Ytjgpkljepgcekaa.tX]; split
 .split
  .exact Jjp rfl (Jbp (hc i) (h _))
  .exact Jjp (h _) (Jbp (hc i) (h _))
 .rfl
theorem vcg.tXn (hc : vcg p c c') (h : vcg p u u') : ∀ n, vcg p (tXn m c n u) (tXn m c' n u')
 | 0 => h
 | n + 1 => vcg.tX hc (vcg.tXn hc h n)
theorem vcg.opr (hc : vcg p c c') (hb : vcg p b b') (h : vcg p u u') : ∀ n, vcg p (opr m c b n u) (opr m c' b' n u')
 | 0 => .refl _
 | n + 1 => (vcg.opr hc hb h n).add (vcg.sm (hb n) (vcg.tXn hc h n))
theorem vcg.mul (hc : vcg p c c') (h : vcg p u u') (hb : vcg p b b') : vcg p (Q7 m c u b) (Q7 m c' u' b') := vcg.opr hc hb h m
end
end Go.Proofs.Ytjgpkljepgcekaa
namespace Go.Proofs.Ytjgpkljepgcekaa
def dv (p x : Nat) : Vec := fun i => ((x / p ^ i % p : Nat) : Int)
def vl (p : Nat) : Nat -> Vec -> Int
  | 0, _ => 0
  | n + 1, v => v 0 + (p : Int) * vl p n (fun i => v (i + 1))
def Cn (p n : Nat) (v : Vec) : Prop := ∀ i, i < n -> 0 <= v i /\ v i < p
def nm (p m : Nat) (v : Vec) : Nat := (vl p m (fun i => v i % (p : Int))).toNat
theorem Zd (p x i : Nat) : dv p x (i + 1) = dv p (x / p) i := by
 simp only [dv]; rw [Nat.pow_succ', <- Nat.div_div_eq_div_mul]
theorem YD (p x : Nat) : dv p x 0 = ((x % p : Nat) : Int) := by simp [dv]
theorem Cn.tl {p n : Nat} {v : Vec} (h : Cn p (n + 1) v) : Cn p n (fun i => v (i + 1)) := fun i hi => h (i + 1) (by omega)
theorem Jlj {p : Nat} (hp : 0 < p) : ∀ {n : Nat} {v : Vec}, Cn p n v -> 0 <= vl p n v /\ vl p n v < ((p ^ n : Nat) : Int)
 | 0, v, _ => by simp [vl]
 | n + 1, v, h => by
  have ih := Jlj hp h.tl; have h0 := h 0 (by omega); simp only [vl]; have h1 : (p : Int) * vl p n (fun i => v (i + 1)) <= p * (((p ^ n : Nat) : Int) - 1) := Int.mul_le_mul_of_nonneg_left (by omega) (by omega); have h2 : 0 <= (p : Int) * vl p n (fun i => v (i + 1)) := Int.mul_nonneg (by omega) ih.1; have h3 : ((p ^ (n + 1) : Nat) : Int) = p * ((p ^ n : Nat) : Int) := by rw [Nat.pow_succ']; push_cast; rfl
  have h4 : (p : Int) * (((p ^ n : Nat) : Int) - 1) = p * ((p ^ n : Nat) : Int) - p := by rw [Int.mul_sub, Int.mul_one]
  omega
theorem Jc4 {p : Nat} : ∀ {n : Nat} {u v : Vec}, (∀ i, i < n -> u i = v i) -> vl p n u = vl p n v
 | 0, _, _, _ => rfl
 | n + 1, u, v, h => by simp only [vl]; rw [h 0 (by omega), Jc4 (n := n) fun i hi => h (i + 1) (by omega)]
theorem Jo7 {p : Nat} (hp : 0 < p) : ∀ {n x : Nat}, x < p ^ n -> vl p n (dv p x) = x
 | 0, x, h => by simp at h; subst h; rfl
 | n + 1, x, h => by
  simp only [vl]; have : (fun i => dv p x (i + 1)) = dv p (x / p) := by funext i; exact Zd p x i
  rw [this, Jo7 hp (n := n) (by rw [Nat.div_lt_iff_lt_mul hp, <- Nat.pow_succ]; exact h), YD]; have := Nat.mod_add_div x p; have h2 : ((x % p + p * (x / p) : Nat) : Int) = (x : Int) := by rw [this]
  push_cast at h2 ⊢; exact h2
theorem dv_vl {p : Nat} (hp : 0 < p) : ∀ {n : Nat} {v : Vec}, Cn p n v -> ∀ i, i < n -> dv p (vl p n v).toNat i = v i
 | 0, _, _, i, hi => by omega
 | n + 1, v, h, i, hi => by
  have ih := Jlj hp h.tl; have h0 := h 0 (by omega); obtain ⟨t, ht⟩ := Int.eq_ofNat_of_zero_le ih.1; obtain ⟨a, ha⟩ := Int.eq_ofNat_of_zero_le h0.1; have hv : (vl p (n + 1) v).toNat = a + p * t := by
   simp only [vl]; rw [ht, ha]; have : (a : Int) + (p : Int) * (t : Int) = ((a + p * t : Nat) : Int) := by push_cast; rfl
   rw [this]; rfl
  have hap : a < p := by have := h0.2; rw [ha] at this; omega
  rw [hv]; cases i with
  | zero => rw [YD, Nat.add_mul_mod_self_left, Nat.mod_eq_of_lt hap, ha]
  | succ i =>
   rw [Zd]; have h2 : (a + p * t) / p = t := by rw [Nat.add_mul_div_left _ _ hp, Nat.div_eq_of_lt hap, Nat.zero_add]
   have ih2 := dv_vl hp h.tl i (by omega); rw [ht] at ih2; rw [h2]; exact ih2
section
variable {p m : Nat}
theorem md_cn (hp : 0 < p) (v : Vec) (n : Nat) : Cn p n (fun i => v i % (p : Int)) := fun i _ => ⟨Int.emod_nonneg _ (by omega), Int.emod_lt_of_pos _ (by omega)⟩
theorem Z6 (hp : 0 < p) (v : Vec) : nm p m v < p ^ m := by
 have := Jlj hp (md_cn hp v m); unfold nm; omega
theorem Jmi (hp : 0 < p) (v : Vec) {i : Nat} (hi : i < m) : dv p (nm p m v) i = v i % (p : Int) := dv_vl hp (md_cn hp v m) i hi
theorem Jex (hp : 0 < p) (x n : Nat) : Cn p n (dv p x) := fun i _ => by
 have := Nat.mod_lt (x / p ^ i) hp; simp only [dv]; omega
theorem Jq2 {x i : Nat} (hx : x < p ^ m) (hi : m <= i) : dv p x i = 0 := by
 rcases Nat.eq_zero_or_pos p with rfl | hp
 .simp only [dv]; cases m with
  | zero =>
   have : x = 0 := by simpa using hx
   subst this; simp
  | succ m => simp at hx
 .have : x / p ^ i = 0 := Nat.div_eq_of_lt (Nat.lt_of_lt_of_le hx (Nat.pow_le_pow_right hp hi)); simp [dv, this]
theorem Q3 {x : Nat} (hx : x < p ^ m) : Sup m (dv p x) := fun i hi => Jq2 hx hi
theorem Jae (x i : Nat) : dv p x i % (p : Int) = dv p x i := by
 simp only [dv]; rw [<- Int.natCast_emod, Nat.mod_mod]
theorem Z7 (hp : 0 < p) {x : Nat} (hx : x < p ^ m) : nm p m (dv p x) = x := by
 unfold nm; rw [Jc4 (v := dv p x) fun i _ => Jae x i, Jo7 hp hx]; rfl
theorem Jqi {u v : Vec} (h : ∀ i, i < m -> u i % (p : Int) = v i % (p : Int)) : nm p m u = nm p m v := by
 unfold nm; rw [Jc4 h]
theorem YO {u v : Vec} (h : vcg p u v) : nm p m u = nm p m v := Jqi fun i _ => h i
theorem Jip (hp : 0 < p) {v : Vec} (hv : Sup m v) : vcg p (dv p (nm p m v)) v := fun i => by
 rcases Nat.lt_or_ge i m with h | h
 .rw [Jmi hp v h, Int.emod_emod]
 .rw [Jq2 (Z6 hp v) h, hv i h]
theorem nm_eq (hp : 0 < p) {x : Nat} {v : Vec} (hx : x < p ^ m) (h : ∀ i, i < m -> dv p x i = v i % (p : Int)) : nm p m v = x := by
 rw [<- Z7 hp hx]; exact Jqi fun i hi => by rw [h i hi, Int.emod_emod]
end
def Qk (p m x y : Nat) : Nat := nm p m (JS (dv p x) (dv p y))
def Z1 (p m x : Nat) : Nat := nm p m (vsm (-1) (dv p x))
def Jy (p m : Nat) (c : Vec) (x y : Nat) : Nat := nm p m (Q7 m c (dv p x) (dv p y))
section
variable {p m : Nat} {c : Vec}
theorem Jmg (hp : 0 < p) (x y : Nat) : Qk p m x y < p ^ m := Z6 hp _
theorem Jgc (hp : 0 < p) (x : Nat) : Z1 p m x < p ^ m := Z6 hp _
theorem Jgd (hp : 0 < p) (x y : Nat) : Jy p m c x y < p ^ m := Z6 hp _
theorem Jgi (hp : 0 < p) {x y : Nat} (hx : x < p ^ m) (hy : y < p ^ m) : vcg p (dv p (Qk p m x y)) (JS (dv p x) (dv p y)) := Jip hp ((Q3 hx).add (Q3 hy))
theorem Jtv (hp : 0 < p) {x : Nat} (hx : x < p ^ m) : vcg p (dv p (Z1 p m x)) (vsm (-1) (dv p x)) := Jip hp (Q3 hx).sm
theorem Jo4 {a b : Vec} (ha : Sup m a) : Sup m (Q7 m c a b) := Sup.opr ha m
theorem Jay (hp : 0 < p) {x y : Nat} (hx : x < p ^ m) : vcg p (dv p (Jy p m c x y)) (Q7 m c (dv p x) (dv p y)) := Jip hp (Jo4 (Q3 hx))
theorem Jn2 (x y : Nat) : Qk p m x y = Qk p m y x := by unfold Qk; rw [Jek]
theorem Jko (hp : 0 < p) {x y z : Nat} (hx : x < p ^ m) (hy : y < p ^ m) (hz : z < p ^ m) : Qk p m (Qk p m x y) z = Qk p m x (Qk p m y z) := by
 show nm p m (JS (dv p (Qk p m x y)) (dv p z)) = nm p m (JS (dv p x) (dv p (Qk p m y z))); rw [YO ((Jgi hp hx hy).add (vcg.refl _)), YO ((vcg.refl (p := p) (dv p x)).add (Jgi hp hy hz)), Y3]
theorem Jdx (p : Nat) : dv p 0 = vz := by funext i; simp [dv, vz]
theorem Jn1 (hp : 0 < p) {x : Nat} (hx : x < p ^ m) : Qk p m x 0 = x := by unfold Qk; rw [Jdx, Jaa, Z7 hp hx]
theorem Jdv (hp : 0 < p) {x : Nat} (hx : x < p ^ m) : Qk p m x (Z1 p m x) = 0 := by
 show nm p m (JS (dv p x) (dv p (Z1 p m x))) = 0; rw [YO ((vcg.refl (p := p) (dv p x)).add (Jtv hp hx))]; have : JS (dv p x) (vsm (-1) (dv p x)) = vz := by funext i; simp only [JS, vsm, vz]; omega
 rw [this, <- Jdx p, Z7 hp (by exact Nat.pow_pos hp)]
theorem Jbr {x y : Nat} (hx : x < p ^ m) (hy : y < p ^ m) : Jy p m c x y = Jy p m c y x := by
 unfold Jy; rw [ZE (Q3 hx) (Q3 hy)]
theorem Jkm (hp : 0 < p) {x y z : Nat} (hx : x < p ^ m) (hy : y < p ^ m) (hz : z < p ^ m) : Jy p m c (Jy p m c x y) z = Jy p m c x (Jy p m c y z) := by
 show nm p m (Q7 m c (dv p (Jy p m c x y)) (dv p z)) = nm p m (Q7 m c (dv p x) (dv p (Jy p m c y z))); rw [YO (vcg.mul (vcg.refl c) (Jay hp hx) (vcg.refl _)), YO (vcg.mul (vcg.refl c) (vcg.refl (dv p x)) (Jay hp hy)), Jjk (Q3 hx) (Q3 hy) (Q3 hz)]
theorem Jgh (hp : 2 <= p) : dv p 1 = e0 := by
 funext i; cases i with
 | zero => rw [YD, Nat.mod_eq_of_lt (by omega)]; rfl
 | succ i =>
  have : (1 : Nat) / p ^ (i + 1) = 0 := Nat.div_eq_of_lt (Nat.one_lt_pow (by omega) (by omega)); simp [dv, this, e0]
theorem Jdu (hp : 2 <= p) (hm : 0 < m) {x : Nat} (hx : x < p ^ m) : Jy p m c x 1 = x := by
 unfold Jy; rw [Jgh hp, Jo5 hm, Z7 (by omega) hx]
theorem Jnz (hp : 0 < p) {x : Nat} (hx : x < p ^ m) : Jy p m c x 0 = 0 := by
 rw [Jbr hx (Nat.pow_pos hp)]; unfold Jy; rw [Jdx]; have : Q7 m c vz (dv p x) = vz := opr_z ..; rw [this, <- Jdx p, Z7 hp (Nat.pow_pos hp)]
theorem Jqv (hp : 0 < p) {x y z : Nat} (hx : x < p ^ m) (hy : y < p ^ m) (hz : z < p ^ m) : Jy p m c x (Qk p m y z) = Qk p m (Jy p m c x y) (Jy p m c x z) := by
 show nm p m (Q7 m c (dv p x) (dv p (Qk p m y z))) = nm p m (JS (dv p (Jy p m c x y)) (dv p (Jy p m c x z))); rw [YO (vcg.mul (vcg.refl c) (vcg.refl (dv p x)) (Jgi hp hy hz)), YO ((Jay (c := c) hp hx).add (Jay hp hx)), Jo6]
end
structure CR (q : Nat) (A M : Nat -> Nat -> Nat) : Prop where
  q2 : 2 <= q
  Al : ∀ x y, A x y < q
  Ml : ∀ x y, M x y < q
  Ac : ∀ x y, A x y = A y x
  Aa : ∀ {x y z}, x < q -> y < q -> z < q -> A (A x y) z = A x (A y z)
  Az : ∀ {x}, x < q -> A x 0 = x
  An : ∀ {x}, x < q -> ∃ y, y < q /\ A x y = 0
  Mc : ∀ {x y}, x < q -> y < q -> M x y = M y x
  Ma : ∀ {x y z}, x < q -> y < q -> z < q -> M (M x y) z = M x (M y z)
  M1 : ∀ {x}, x < q -> M x 1 = x
  M0 : ∀ {x}, x < q -> M x 0 = 0
  Md : ∀ {x y z}, x < q -> y < q -> z < q -> M x (A y z) = A (M x y) (M x z)
theorem Jlg {p m : Nat} (c : Vec) (hp : 2 <= p) (hm : 0 < m) : CR (p ^ m) (Qk p m) (Jy p m c) where
 q2 := Nat.le_trans hp (by have := Nat.pow_le_pow_right (n := p) (by omega) hm; simpa using this)
 Al := Jmg (by omega)
 Ml := Jgd (by omega)
 Ac := Jn2
 Aa := Jko (by omega)
 Az := Jn1 (by omega)
 An := fun {x} hx => ⟨Z1 p m x, Jgc (by omega) x, Jdv (by omega) hx⟩
 Mc := Jbr
 Ma := Jkm (by omega)
 M1 := Jdu hp hm
 M0 := Jnz (by omega)
 Md := Jqv (by omega)
end Go.Proofs.Ytjgpkljepgcekaa
namespace Go.Proofs.Ytjgpkljepgcekaa
def pw (M : Nat -> Nat -> Nat) (g : Nat) : Nat -> Nat
  | 0 => 1
  | k + 1 => M (pw M g k) g
theorem php : ∀ (n : Nat) (f : Nat -> Nat), (∀ i, i < n + 1 -> f i < n) -> ∃ i j, i < j /\ j < n + 1 /\ f i = f j
 | 0, f, h => absurd (h 0 (by omega)) (by omega)
 | n + 1, f, h => by
  by_cases hc : ∃ i, i < n + 1 /\ f i = f (n + 1)
  .obtain ⟨i, hi, he⟩ := hc; exact ⟨i, n + 1, hi, by omega, he⟩
  .have hv := h (n + 1) (by omega); obtain ⟨i, j, hij, hj, he⟩ := php n (fun i => if f i = n then f (n + 1) else f i) (fun i hi => by
    have hne : f i ≠ f (n + 1) := fun e => hc ⟨i, hi, e⟩; have := h i (by omega); show (if f i = n then f (n + 1) else f i) < n; split
    .omega
    .omega)
   refine ⟨i, j, hij, by omega, ?_⟩; have hi1 : f i ≠ f (n + 1) := fun e => hc ⟨i, by omega, e⟩; have hj1 : f j ≠ f (n + 1) := fun e => hc ⟨j, by omega, e⟩; split at he <;> split at he <;> omega
theorem Jhd {n : Nat} {f : Nat -> Nat} (hb : ∀ i, i < n -> f i < n) (hi : ∀ i j, i < j -> j < n -> f i ≠ f j) {y : Nat} (hy : y < n) : ∃ i, i < n /\ f i = y := by
 obtain ⟨i, j, hij, hj, he⟩ := php n (fun i => if i < n then f i else y) (fun i _ => by
  show (if i < n then f i else y) < n; split
  .rename_i h; exact hb i h
  .exact hy)
 rcases Nat.lt_or_ge j n with h | h
 .rw [if_pos h, if_pos (show i < n by omega)] at he; exact absurd he (hi i j hij h)
 .rw [if_neg (show ¬ j < n by omega), if_pos (show i < n by omega)] at he; exact ⟨i, by omega, he⟩
section
variable {q : Nat} {A M : Nat -> Nat -> Nat} (R : CR q A M)
include R
namespace CR
theorem one_lt : 1 < q := R.q2
theorem pos : 0 < q := by have := R.q2; omega
theorem I1 {x : Nat} (hx : x < q) : M 1 x = x := by rw [R.Mc R.one_lt hx, R.M1 hx]
theorem Z0 {x : Nat} (hx : x < q) : M 0 x = 0 := by rw [R.Mc R.pos hx, R.M0 hx]
theorem zA {x : Nat} (hx : x < q) : A 0 x = x := by rw [R.Ac, R.Az hx]
theorem pw_lt (g : Nat) : ∀ k, pw M g k < q
 | 0 => R.one_lt
 | k + 1 => R.Ml _ _
theorem pw_one {g : Nat} (hg : g < q) : pw M g 1 = g := R.I1 hg
theorem pw_add {g : Nat} (hg : g < q) (i : Nat) : ∀ j, pw M g (i + j) = M (pw M g i) (pw M g j)
 | 0 => (R.M1 (R.pw_lt g i)).symm
 | j + 1 => by
  show M (pw M g (i + j)) g = M (pw M g i) (M (pw M g j) g); rw [pw_add hg i j, R.Ma (R.pw_lt g i) (R.pw_lt g j) hg]
theorem pw_pw {g : Nat} (hg : g < q) (i : Nat) : ∀ j, pw M (pw M g i) j = pw M g (i * j)
 | 0 => rfl
 | j + 1 => by
  show M (pw M (pw M g i) j) (pw M g i) = _; rw [pw_pw hg i j, <- R.pw_add hg]; rfl
theorem one_pw : ∀ j, pw M 1 j = 1
 | 0 => rfl
 | j + 1 => by show M (pw M 1 j) 1 = 1; rw [one_pw j, R.M1 R.one_lt]
theorem zero_pw {n : Nat} (h : 0 < n) : pw M 0 n = 0 := by
 cases n with
 | zero => omega
 | succ n => exact R.M0 (R.pw_lt 0 n)
end CR
end
structure Gn (q : Nat) (M : Nat -> Nat -> Nat) (g : Nat) : Prop where
  lt : g < q
  one : pw M g (q - 1) = 1
  no : ∀ k, 0 < k -> k < q - 1 -> pw M g k ≠ 1
namespace Gn
variable {q g : Nat} {A M : Nat -> Nat -> Nat}
theorem per (G : Gn q M g) (R : CR q A M) (i k : Nat) : pw M g (i + (q - 1) * k) = pw M g i := by
 rw [R.pw_add G.lt, <- R.pw_pw G.lt, G.one, R.one_pw, R.M1 (R.pw_lt g i)]
theorem ne0 (G : Gn q M g) (R : CR q A M) (k : Nat) : pw M g k ≠ 0 := fun h => by
 have h1 := G.per R 0 (k + 1); have hq := R.q2; rw [Nat.zero_add] at h1; have : (q - 1) * (k + 1) = k + ((q - 1) * (k + 1) - k) := by
  have : k + 1 <= (q - 1) * (k + 1) := Nat.le_mul_of_pos_left _ (by omega); omega
 rw [this, R.pw_add G.lt, h, R.Z0 (R.pw_lt g _)] at h1; exact absurd h1 (by show ¬ (0 : Nat) = 1; omega)
theorem inj (G : Gn q M g) (R : CR q A M) {i j : Nat} (hij : i < j) (hj : j < q - 1) : pw M g i ≠ pw M g j := fun h => by
 have e1 : M (pw M g i) (pw M g (q - 1 - i)) = 1 := by rw [<- R.pw_add G.lt, show i + (q - 1 - i) = q - 1 by omega, G.one]
 have e2 : M (pw M g j) (pw M g (q - 1 - i)) = pw M g (j - i) := by
  rw [<- R.pw_add G.lt, show j + (q - 1 - i) = (j - i) + (q - 1) * 1 by omega, G.per R]
 rw [h] at e1; exact G.no (j - i) (by omega) (by omega) (e2.symm.trans e1)
theorem surj (G : Gn q M g) (R : CR q A M) {x : Nat} (h0 : 0 < x) (hx : x < q) : ∃ k, k < q - 1 /\ pw M g k = x := by
 obtain ⟨i, hi, he⟩ := Jhd (n := q - 1) (f := fun k => pw M g k - 1) (fun i hi => by
  have := R.pw_lt g i; have := G.ne0 R i; show pw M g i - 1 < q - 1; omega) (fun i j hij hj he => by
  have h1 := G.ne0 R i; have h2 := G.ne0 R j; exact G.inj R hij hj (by omega)) (y := x - 1) (by omega)
 have := G.ne0 R i; exact ⟨i, hi, by omega⟩
open Classical in
noncomputable def lg (q : Nat) (M : Nat -> Nat -> Nat) (g x : Nat) : Nat := if h : ∃ k, k < q - 1 /\ pw M g k = x then Classical.choose h else 0
theorem xone (G : Gn q M g) (R : CR q A M) {x : Nat} (h0 : 0 < x) (hx : x < q) : pw M x (q - 1) = 1 := by
  obtain ⟨k, hk, rfl⟩ := G.surj R h0 hx
  rw [R.pw_pw G.lt, Nat.mul_comm, <- R.pw_pw G.lt, G.one, R.one_pw]
end Gn
end Go.Proofs.Ytjgpkljepgcekaa
namespace Go.Proofs.Ytjgpkljepgcekaa
structure IsLf (n d : Nat) : Prop where
  two : 2 <= d
  dvd : n % d = 0
  min : ∀ e, 2 <= e -> n % e = 0 -> d <= e
def Jq4 : Nat -> Nat -> Nat
  | _, 0 => 1
  | 0, _ + 1 => 0
  | n + 1, k + 1 => Jq4 n k + Jq4 n (k + 1)
section
variable {q : Nat} {A M : Nat -> Nat -> Nat} (R : CR q A M)
include R
namespace CR
theorem Aac {a b c : Nat} (ha : a < q) (hb : b < q) (hc : c < q) : A (A a b) c = A (A a c) b := by
 rw [R.Aa ha hb hc, R.Ac b c, <- R.Aa ha hc hb]
theorem A4 {a b c d : Nat} (ha : a < q) (hb : b < q) (hc : c < q) (hd : d < q) : A (A a b) (A c d) = A (A a c) (A b d) := by
 rw [<- R.Aa (R.Al a b) hc hd, R.Aac ha hb hc, R.Aa (R.Al a c) hb hd]
end CR
end
end Go.Proofs.Ytjgpkljepgcekaa
namespace Go.Proofs.Ytjgpkljepgcekaa
def hz (m : Nat) (c b y : Vec) (n : Nat) : Nat -> Vec
  | 0 => vz
  | k + 1 => JS (tX m c (hz m c b y n k)) (vsm (b (n - 1 - k)) y)
theorem Jqq {m : Nat} {c b y : Vec} {n : Nat} : ∀ {k : Nat}, k <= n -> JS (tXn m c (n - k) (hz m c b y n k)) (opr m c b (n - k) y) = opr m c b n y
 | 0, _ => by simp only [hz, Nat.sub_zero]; rw [Jhb, z_vadd]
 | k + 1, h => by
  have ih := Jqq (m := m) (c := c) (b := b) (y := y) (n := n) (k := k) (by omega); obtain ⟨r, hr⟩ : ∃ r, n - k = r + 1 := ⟨n - k - 1, by omega⟩
  rw [show n - (k + 1) = r by omega]; rw [hr] at ih; rw [<- ih]; show JS (tXn m c r (JS (tX m c (hz m c b y n k)) (vsm (b (n - 1 - k)) y))) (opr m c b r y) = JS (tX m c (tXn m c r (hz m c b y n k))) (JS (opr m c b r y) (vsm (b r) (tXn m c r y))); rw [Jas, Jbf, Jph, show n - 1 - k = r by omega, Y3, Jek (vsm _ _)]
theorem hz_all (m : Nat) (c b y : Vec) (n : Nat) : hz m c b y n n = opr m c b n y := by
 have := Jqq (m := m) (c := c) (b := b) (y := y) (n := n) (k := n) (Nat.le_refl n); rw [Nat.sub_self] at this; rw [<- this]; exact (Jaa _).symm
def dgl (p : Nat) : Nat -> Nat -> List Nat
  | 0, _ => []
  | n + 1, x => (x % p) :: dgl p n (x / p)
theorem QR (p : Nat) : ∀ n x, (dgl p n x).length = n
 | 0, _ => rfl
 | n + 1, x => by simp [dgl, QR p n]
theorem Jbw (p : Nat) : ∀ n x i, i < n -> (((dgl p n x).getD i 0 : Nat) : Int) = dv p x i
 | 0, _, i, h => by omega
 | n + 1, x, 0, _ => by rw [YD]; rfl
 | n + 1, x, i + 1, h => by
  show (((dgl p n (x / p)).getD i 0 : Nat) : Int) = _; rw [Jbw p n (x / p) i (by omega), Zd]
@[reducible] noncomputable def hd0 (l : List Nat) : Nat := List.rec (motive := fun _ => Nat) 0 (fun x _ _ => x) l
@[reducible] noncomputable def tl0 (l : List Nat) : List Nat := List.rec (motive := fun _ => List Nat) [] (fun _ l _ => l) l
noncomputable def go (p a top : Nat) (cs : List Nat) : Nat -> List Nat -> List Nat -> List Nat :=
  List.rec (motive := fun _ => Nat -> List Nat -> List Nat -> List Nat) (fun _ _ _ => [])
    (fun c _ ih prev us ys => ((prev + (p - c) * top + a * hd0 ys) % p) :: ih (hd0 us) (tl0 us) (tl0 ys)) cs
noncomputable def tp (l : List Nat) : Nat -> Nat := List.rec (motive := fun _ => Nat -> Nat) (fun d => d) (fun x _ ih _ => ih x) l
noncomputable def Jka (p : Nat) (cs ys gs : List Nat) : List Nat -> List Nat :=
  List.rec (motive := fun _ => List Nat -> List Nat) (fun acc => acc) (fun g _ ih acc => ih (go p g (tp acc 0) cs 0 acc ys)) gs
noncomputable def az (l : List Nat) : Bool := List.rec (motive := fun _ => Bool) true (fun x _ ih => bif Nat.beq x 0 then ih else false) l
noncomputable def is1 (l : List Nat) : Bool := List.rec (motive := fun _ => Bool) false (fun x t _ => bif Nat.beq x 1 then az t else false) l
noncomputable def run (p : Nat) (cs gs : List Nat) (n : Nat) : List Nat -> Bool :=
  Nat.rec (motive := fun _ => List Nat -> Bool) (fun y => is1 y) (fun _ ih y => bif is1 y then false else ih (Jka p cs y gs y)) n
noncomputable def Jhf (p c : Nat) (al : List Nat) : List Nat -> List Nat :=
  List.rec (motive := fun _ => List Nat -> List Nat) (fun bs => bs) (fun a _ ih bs => ((hd0 bs + (p - a) * c) % p) :: ih (tl0 bs)) al
noncomputable def dvg (p : Nat) (low : List Nat) (k : Nat) : List Nat -> Bool :=
  Nat.rec (motive := fun _ => List Nat -> Bool) (fun r => az r) (fun _ ih r => ih (Jhf p (hd0 r) low (tl0 r))) k
noncomputable def nob (f : Nat -> Bool) (n : Nat) : Bool := Nat.rec (motive := fun _ => Bool) true (fun i ih => bif f i then false else ih) n
noncomputable def irrB (p m : Nat) (ml : List Nat) : Bool :=
  nob (fun d => !nob (fun w => dvg p (dgl p (d + 1) w).reverse (m - d) (1 :: ml.reverse)) (p ^ (d + 1))) (m / 2)
noncomputable def cand (p c : Nat) : List Nat := bif Nat.blt c p then [c] else bif Nat.blt c (p + p * p) then [(c - p) / p, (c - p) % p] else [(c - p - p * p) / (p * p), (c - p - p * p) / p % p, (c - p - p * p) % p]
noncomputable def gen1 (p m : Nat) (cs gs : List Nat) : Bool := run p cs gs (p ^ m - 2) (Jka p cs (dgl p m 1) gs (dgl p m 1))
noncomputable def Jkl (p m : Nat) (cs : List Nat) : Bool := !nob (fun c => gen1 p m cs (cand p (p + p * p + p * p * p - 1 - c))) (p + p * p + p * p * p)
noncomputable def chk (p m lo n : Nat) : Bool := nob (fun v => bif irrB p m (dgl p m (lo + v)) then !Jkl p m (dgl p m (lo + v)) else false) n

theorem Jga (l : List Nat) : hd0 l = l.getD 0 0 := by cases l <;> rfl
theorem Jda (l : List Nat) (i : Nat) : (tl0 l).getD i 0 = l.getD (i + 1) 0 := by cases l <;> rfl
theorem Jss (l : List Nat) : (tl0 l).length = l.length - 1 := by cases l <;> simp [tl0]
theorem Jgb (p a top c : Nat) (cs : List Nat) (prev : Nat) (us ys : List Nat) : go p a top (c :: cs) prev us ys = ((prev + (p - c) * top + a * hd0 ys) % p) :: go p a top cs (hd0 us) (tl0 us) (tl0 ys) := rfl
theorem Jqs (p a top : Nat) : ∀ (cs : List Nat) (prev : Nat) (us ys : List Nat), (go p a top cs prev us ys).length = cs.length
 | [], _, _, _ => rfl
 | c :: cs, prev, us, ys => by rw [Jgb, List.length_cons, Jqs p a top cs, List.length_cons]
theorem go_at (p a top : Nat) : ∀ (cs : List Nat) (prev : Nat) (us ys : List Nat) (i : Nat), i < cs.length -> (go p a top cs prev us ys).getD i 0 = ((if i = 0 then prev else us.getD (i - 1) 0) + (p - cs.getD i 0) * top + a * ys.getD i 0) % p
 | [], _, _, _, i, h => by simp at h
 | c :: cs, prev, us, ys, 0, _ => by rw [Jgb, Jga]; rfl
 | c :: cs, prev, us, ys, i + 1, h => by
  rw [Jgb]; show (go p a top cs (hd0 us) (tl0 us) (tl0 ys)).getD i 0 = _; rw [go_at p a top cs _ _ _ i (by simpa using h)]; cases i with
  | zero => rw [if_pos rfl, if_neg (by omega), Jga, Jda]; rfl
  | succ i => rw [if_neg (by omega), if_neg (by omega), Jda, Jda]; rfl
theorem tp_eq : ∀ (l : List Nat) (d : Nat), 0 < l.length -> tp l d = l.getD (l.length - 1) 0
 | [], _, h => by simp at h
 | [x], d, _ => rfl
 | x :: y :: l, d, _ => by
  show tp (y :: l) x = _; rw [tp_eq (y :: l) x (by simp)]; simp
def Rep (p m : Nat) (L : List Nat) (v : Vec) : Prop := L.length = m /\ ∀ i, i < m -> ((L.getD i 0 : Nat) : Int) = v i % (p : Int)
def hl (m : Nat) (c y : Vec) : List Nat -> Vec -> Vec
  | [], u => u
  | g :: gs, u => hl m c y gs (JS (tX m c u) (vsm g y))
theorem Rep.step {p m : Nat} {cs us ys : List Nat} {c u y : Vec} (hp : 0 < p) (hm : 0 < m) (hc : Rep p m cs c) (hu : Rep p m us u) (hy : Rep p m ys y) (g : Nat) :
  Rep p m (go p g (tp us 0) cs 0 us ys) (JS (tX m c u) (vsm g y)) := by
 refine ⟨by rw [Jqs, hc.1], fun i hi => ?_⟩; rw [go_at _ _ _ _ _ _ _ _ (by rw [hc.1]; exact hi), tp_eq _ _ (by rw [hu.1]; exact hm), hu.1]; have h1 := hu.2 (m - 1) (by omega); have h2 := hc.2 i hi; have h3 := hy.2 i hi; have hlt : cs.getD i 0 <= p := by
  have := Int.emod_lt_of_pos (c i) (show (0 : Int) < p by omega); omega
 have e : (((if i = 0 then 0 else us.getD (i - 1) 0) : Nat) : Int) % p = (if i = 0 then (0 : Int) else u (i - 1)) % p := by
  split
  .rfl
  .rw [hu.2 (i - 1) (by omega), Int.emod_emod]
 simp only [JS, vsm, tX, if_pos hi]; generalize (if i = 0 then 0 else us.getD (i - 1) 0 : Nat) = A at *
 generalize (if i = 0 then (0 : Int) else u (i - 1)) = B at *
 generalize us.getD (m - 1) 0 = T at *
 generalize cs.getD i 0 = C at *
 generalize ys.getD i 0 = Y at *
 have hT : ((T : Nat) : Int) % p = u (m - 1) % p := by rw [h1, Int.emod_emod]
 have hC : ((C : Nat) : Int) % p = c i % p := by rw [h2, Int.emod_emod]
 have hY : ((Y : Nat) : Int) % p = y i % p := by rw [h3, Int.emod_emod]
 obtain ⟨D, hD⟩ : ∃ D, p = C + D := ⟨p - C, by omega⟩
 have hsub : p - C = D := by omega
 rw [hsub]; have hcast : ((A + D * T + g * Y : Nat) : Int) = ((A : Int) - C * T + g * Y) + p * T := by
  have : (p : Int) = C + D := by omega
  rw [this]; push_cast; rw [Int.add_mul]; omega
 rw [Int.natCast_emod, hcast, Int.add_mul_emod_self_left]; exact Jbz (Jjp e (Jbp hC hT)) (Jbp rfl hY)
theorem Jnw (p : Nat) (cs ys : List Nat) (g : Nat) (gs acc : List Nat) : Jka p cs ys (g :: gs) acc = Jka p cs ys gs (go p g (tp acc 0) cs 0 acc ys) := rfl
theorem Rep.mul {p m : Nat} {cs ys : List Nat} {c y : Vec} (hp : 0 < p) (hm : 0 < m) (hc : Rep p m cs c) (hy : Rep p m ys y) : ∀ {gs us : List Nat} {u : Vec}, Rep p m us u -> Rep p m (Jka p cs ys gs us) (hl m c y gs u)
 | [], _, _, h => h
 | g :: gs, us, u, h => by rw [Jnw]; exact Rep.mul hp hm hc hy (Rep.step hp hm hc h hy g)
theorem Jkh {m : Nat} {c y : Vec} (hy : Sup m y) : ∀ {gs : List Nat} {u : Vec}, Sup m u -> Sup m (hl m c y gs u)
 | [], _, h => h
 | g :: gs, u, h => Jkh (gs := gs) (u := JS (tX m c u) (vsm g y)) hy (Sup.add Sup.tX hy.sm)
theorem Jqr {m : Nat} {c y : Vec} (hy : Sup m y) : ∀ {gs : List Nat} {U : Vec}, hl m c y gs (opr m c y m U) = opr m c y m (hl m c e0 gs U)
  | [], _ => rfl
  | g :: gs, U => by
    show hl m c y gs (JS (tX m c (opr m c y m U)) (vsm g y)) = opr m c y m (hl m c e0 gs (JS (tX m c U) (vsm g e0)))
    rw [<- Jqr hy, Jlz, Jjz, YT hy]
    have := Jly m c y m 1 U
    rw [show tXn m c 1 U = tX m c U from rfl, show tXn m c 1 (opr m c y m U) = tX m c (opr m c y m U) from rfl] at this
    rw [this]
theorem Jgg {m : Nat} (hm : 0 < m) : Sup m e0 := fun i hi => by simp [e0, show i ≠ 0 by omega]
theorem hl_mul {m : Nat} {c y : Vec} (hm : 0 < m) (hy : Sup m y) (gs : List Nat) : hl m c y gs y = Q7 m c y (hl m c e0 gs e0) := by
 rw [ZE hy (Jkh (Jgg hm) (Jgg hm))]; show _ = opr m c y m (hl m c e0 gs e0); rw [<- Jqr hy, YT hy]
theorem Jsi {p m x : Nat} : Rep p m (dgl p m x) (dv p x) := ⟨QR p m x, fun i hi => by rw [Jbw p m x i hi, Jae]⟩
theorem Rep.cg {p m : Nat} {L : List Nat} {u v : Vec} (h : Rep p m L u) (hv : ∀ i, i < m -> u i % (p : Int) = v i % (p : Int)) : Rep p m L v := ⟨h.1, fun i hi => by rw [h.2 i hi, hv i hi]⟩
theorem Jtz (x : Nat) (l : List Nat) : az (x :: l) = bif Nat.beq x 0 then az l else false := rfl
theorem Jgm : ∀ l : List Nat, az l = true ↔ ∀ i, i < l.length -> l.getD i 0 = 0
 | [] => ⟨fun _ i h => by simp at h, fun _ => rfl⟩
 | x :: l => by
  rw [Jtz]; cases hx : Nat.beq x 0 with
  | true =>
   have := Nat.eq_of_beq_eq_true hx; subst this; rw [show (bif true then az l else false) = az l from rfl, Jgm l]; constructor
   .intro h i hi; cases i with
    | zero => rfl
    | succ i => exact h i (by simpa using hi)
   .intro h i hi; exact h (i + 1) (by simpa using hi)
  | false =>
   rw [show (bif false then az l else false) = false from rfl]; constructor
   .intro h; cases h
   .intro h; have := h 0 (by simp); simp only [List.getD_cons_zero] at this; subst this; cases hx
theorem Jmd {p m x : Nat} {L : List Nat} (hp : 2 <= p) (hm : 0 < m) (hx : x < p ^ m) (h : Rep p m L (Go.Proofs.Ytjgpkljepgcekaa.dv p x)) : is1 L = true ↔ x = 1 := by
 obtain ⟨a, l, rfl⟩ : ∃ a l, L = a :: l := by
  cases L with
  | nil => have := h.1; simp at this; omega
  | cons a l => exact ⟨a, l, rfl⟩
 have hlen : l.length + 1 = m := h.1; have h0 := h.2 0 hm; have e : is1 (a :: l) = bif Nat.beq a 1 then az l else false := rfl; rw [e]; constructor
 .intro hb; cases ha : Nat.beq a 1 with
  | false => rw [ha] at hb; cases hb
  | true =>
   rw [ha] at hb; have hz := (Jgm l).1 hb; have ha1 := Nat.eq_of_beq_eq_true ha; subst ha1; rw [<- Z7 (p := p) (m := m) (by omega) hx, <- Z7 (p := p) (m := m) (x := 1) (by omega) (Nat.one_lt_pow (by omega) (by omega))]; refine Jqi fun i hi => ?_; rw [Jgh hp, Jae, <- Jae, <- h.2 i hi]; cases i with
   | zero =>
    show (1 : Int) = e0 0 % p; simp only [e0, if_pos]; exact (Int.emod_eq_of_lt (by omega) (by omega)).symm
   | succ i =>
    show ((l.getD i 0 : Nat) : Int) = e0 (i + 1) % p; rw [hz i (by omega)]; simp [e0]
 .intro hx1; subst hx1; have ha : a = 1 := by
   have : ((a : Nat) : Int) = Go.Proofs.Ytjgpkljepgcekaa.dv p 1 0 % p := h0; rw [Jae, Jgh hp] at this; simp [e0] at this; omega
  subst ha; show az l = true; refine (Jgm l).2 fun i hi => ?_; have : ((l.getD i 0 : Nat) : Int) = Go.Proofs.Ytjgpkljepgcekaa.dv p 1 (i + 1) % p := h.2 (i + 1) (by omega); rw [Jae, Jgh hp] at this; simp only [e0] at this; rw [if_neg (by omega)] at this; exact Int.ofNat_eq_zero.1 this
def gel (p m : Nat) (c : Vec) (gs : List Nat) : Nat := nm p m (hl m c e0 gs e0)
theorem Jjb {p m x : Nat} {cs L gs : List Nat} {c : Vec} (hp : 2 <= p) (hm : 0 < m) (hx : x < p ^ m) (hc : Rep p m cs c) (h : Rep p m L (Go.Proofs.Ytjgpkljepgcekaa.dv p x)) : Rep p m (Jka p cs L gs L) (Go.Proofs.Ytjgpkljepgcekaa.dv p (Jy p m c x (gel p m c gs))) := by
 have h1 := Rep.mul (gs := gs) (by omega) hm hc h h; rw [hl_mul hm (Q3 hx)] at h1; refine h1.cg fun i hi => ?_; have hs := Jkh (c := c) (gs := gs) (Jgg hm) (Jgg hm); have e1 := Jay (p := p) (m := m) (c := c) (by omega) hx (y := gel p m c gs); have e2 := vcg.mul (m := m) (vcg.refl (p := p) c) (vcg.refl (Go.Proofs.Ytjgpkljepgcekaa.dv p x)) (Jip (p := p) (m := m) (by omega) hs); exact ((e1.trans e2) i).symm
theorem Jpv (p : Nat) (cs gs : List Nat) (n : Nat) (y : List Nat) : run p cs gs (n + 1) y = bif is1 y then false else run p cs gs n (Jka p cs y gs y) := rfl
theorem Jpw {p m : Nat} {cs gs : List Nat} {c : Vec} (hp : 2 <= p) (hm : 0 < m) (hc : Rep p m cs c) : ∀ {n : Nat} {L : List Nat} {x : Nat}, x < p ^ m -> Rep p m L (Go.Proofs.Ytjgpkljepgcekaa.dv p x) -> run p cs gs n L = true ->
  (∀ k, k < n -> Jy p m c x (pw (Jy p m c) (gel p m c gs) k) ≠ 1) /\ Jy p m c x (pw (Jy p m c) (gel p m c gs) n) = 1
 | 0, L, x, hx, h, hr => by
  refine ⟨fun k hk => by omega, ?_⟩; show Jy p m c x 1 = 1; rw [Jdu hp hm hx]; exact (Jmd hp hm hx h).1 hr
 | n + 1, L, x, hx, h, hr => by
  rw [Jpv] at hr; cases h1 : is1 L with
  | true => rw [h1] at hr; cases hr
  | false =>
   rw [h1] at hr; have R := Jlg (p := p) (m := m) c hp hm; have hg : gel p m c gs < p ^ m := Z6 (by omega) _; have ih := Jpw hp hm hc (Jgd (by omega) x _) (Jjb (gs := gs) hp hm hx hc h) hr; have e : ∀ k, Jy p m c (Jy p m c x (gel p m c gs)) (pw (Jy p m c) (gel p m c gs) k) = Jy p m c x (pw (Jy p m c) (gel p m c gs) (k + 1)) := fun k => by
    rw [R.Ma hx hg (R.pw_lt _ k), R.Mc hg (R.pw_lt _ k)]; rfl
   refine ⟨fun k hk => ?_, by rw [<- e]; exact ih.2⟩; cases k with
   | zero =>
    show Jy p m c x 1 ≠ 1; rw [Jdu hp hm hx]; intro hx1; rw [(Jmd hp hm hx h).2 hx1] at h1; cases h1
   | succ k => rw [<- e]; exact ih.1 k (by omega)
theorem Jts {p m : Nat} {cs gs : List Nat} {c : Vec} (hp : 2 <= p) (hm : 0 < m) (hc : Rep p m cs c) (h : gen1 p m cs gs = true) : Gn (p ^ m) (Jy p m c) (gel p m c gs) := by
 have R := Jlg (p := p) (m := m) c hp hm; have hg : gel p m c gs < p ^ m := Z6 (by omega) _; have h1 := Jjb (gs := gs) hp hm R.one_lt hc Jsi; rw [R.I1 hg] at h1; obtain ⟨h2, h3⟩ := Jpw hp hm hc hg h1 h; have hq := R.q2; have e : ∀ k, Jy p m c (gel p m c gs) (pw (Jy p m c) (gel p m c gs) k) = pw (Jy p m c) (gel p m c gs) (k + 1) := fun k => R.Mc hg (R.pw_lt _ k); refine ⟨hg, ?_, fun k h0 hk => ?_⟩
 .rw [show p ^ m - 1 = (p ^ m - 2) + 1 by omega, <- e]; exact h3
 .rw [show k = (k - 1) + 1 by omega, <- e]; exact h2 (k - 1) (by omega)
theorem Jqh (f : Nat -> Bool) (n : Nat) : nob f (n + 1) = bif f n then false else nob f n := rfl
theorem ZK (f : Nat -> Bool) : ∀ n, nob f n = true ↔ ∀ i, i < n -> f i = false
 | 0 => ⟨fun _ i h => by omega, fun _ => rfl⟩
 | n + 1 => by
  rw [Jqh]; cases h : f n with
  | true =>
   refine ⟨fun h' => ?_, fun h' => ?_⟩
   .cases h'
   .rw [h' n (by omega)] at h; cases h
  | false =>
   show nob f n = true ↔ _; rw [ZK f n]; refine ⟨fun h' i hi => ?_, fun h' i hi => h' i (by omega)⟩; rcases Nat.lt_or_ge i n with h1 | h1
   .exact h' i h1
   .rw [show i = n by omega]; exact h
theorem Jnu (f : Nat -> Bool) (n : Nat) (h : nob f n = false) : ∃ i, i < n /\ f i = true := by
 have hn : ¬ ∀ i, i < n -> f i = false := fun h' => by rw [(ZK f n).2 h'] at h; cases h
 have := Classical.not_forall.1 hn; obtain ⟨i, hi⟩ := this; have h2 := Classical.not_imp.1 hi; exact ⟨i, h2.1, by cases hf : f i with | true => rfl | false => exact absurd hf h2.2⟩
theorem Jme {p m : Nat} {cs : List Nat} {c : Vec} (hp : 2 <= p) (hm : 0 < m) (hc : Rep p m cs c) (h : Jkl p m cs = true) : ∃ g, Gn (p ^ m) (Jy p m c) g := by
 unfold Jkl at h; obtain ⟨i, _, hi⟩ := Jnu _ _ (by simpa using h); exact ⟨_, Jts hp hm hc hi⟩
def rst (p d i : Nat) (l R : Vec) : Vec := fun j => if i <= j + d /\ j < i then (R j - l (j + d - i) * R i) % (p : Int) else R j
def rem (p d : Nat) (l R : Vec) (n : Nat) : Nat -> Vec
  | 0 => R
  | k + 1 => rst p d (n - 1 - k) l (rem p d l R n k)
def Dvd (p d : Nat) (l R : Vec) (n : Nat) : Prop := ∀ j, j < d -> rem p d l R n (n - d) j = 0
def Irr (p m : Nat) (c : Vec) : Prop := ∀ d, 0 < d -> 2 * d <= m -> ∀ w, w < p ^ d -> ¬ Dvd p d (dv p w) (fun i => if i = m then 1 else c i) (m + 1)
theorem Jbg (p c a : Nat) (al bs : List Nat) : Jhf p c (a :: al) bs = ((hd0 bs + (p - a) * c) % p) :: Jhf p c al (tl0 bs) := rfl
theorem Jhe (p c : Nat) : ∀ al bs : List Nat, al.length <= bs.length -> (Jhf p c al bs).length = bs.length
 | [], _, _ => rfl
 | a :: al, [], h => by simp at h
 | a :: al, b :: bs, h => by
  rw [Jbg, List.length_cons]; show (Jhf p c al bs).length + 1 = _; rw [Jhe p c al bs (by simpa using h)]; rfl
theorem Jlq (p c : Nat) : ∀ (al bs : List Nat) (t : Nat), (Jhf p c al bs).getD t 0 = if t < al.length then (bs.getD t 0 + (p - al.getD t 0) * c) % p else bs.getD t 0
 | [], bs, t => by simp; rfl
 | a :: al, bs, 0 => by rw [Jbg, Jga]; simp
 | a :: al, bs, t + 1 => by
  rw [Jbg]; show (Jhf p c al (tl0 bs)).getD t 0 = _; rw [Jlq p c al (tl0 bs) t, Jda]; simp
theorem Jq0 (p : Nat) (low : List Nat) (k : Nat) (r : List Nat) : dvg p low (k + 1) r = dvg p low k (Jhf p (hd0 r) low (tl0 r)) := rfl
theorem Jq1 {p d n : Nat} {l R : Vec} {low : List Nat} (hp : 0 < p) (hl : low.length = d) (hlow : ∀ t, t < d -> ((low.getD t 0 : Nat) : Int) = l (d - 1 - t)) (hlp : ∀ t, t < d -> low.getD t 0 <= p) : ∀ (s k : Nat) (r : List Nat), s + k + d = n -> r.length = n - k ->
  (∀ t, t < n - k -> ((r.getD t 0 : Nat) : Int) = rem p d l R n k (n - 1 - k - t)) -> (dvg p low s r = true ↔ Dvd p d l R n)
 | 0, k, r, hs, hr, hv => by
  have : n - k = d := by omega
  rw [this] at hr hv; show az r = true ↔ _; rw [Jgm, hr]; have hk : n - d = k := by omega
  unfold Dvd; rw [hk]; constructor
  .intro h j hj; have := hv (d - 1 - j) (by omega); rw [h (d - 1 - j) (by omega), show n - 1 - k - (d - 1 - j) = j by omega] at this; exact this.symm
  .intro h t ht; have := hv t ht; rw [h (n - 1 - k - t) (by omega)] at this; exact Int.ofNat_eq_zero.1 this
 | s + 1, k, r, hs, hr, hv => by
  rw [Jq0]; have htl : (tl0 r).length = n - (k + 1) := by rw [Jss, hr]; omega
  refine Jq1 hp hl hlow hlp s (k + 1) _ (by omega) (by rw [Jhe _ _ _ _ (by rw [htl, hl]; omega), htl]) fun t ht => ?_; rw [Jlq, hl, Jda, Jga]; have h0 := hv 0 (by omega); rw [Nat.sub_zero] at h0; have h1 := hv (t + 1) (by omega); rw [show n - 1 - k - (t + 1) = n - 1 - (k + 1) - t by omega] at h1; show _ = rst p d (n - 1 - k) l (rem p d l R n k) (n - 1 - (k + 1) - t); unfold rst; by_cases htd : t < d
  .rw [if_pos htd, if_pos (by omega)]; have h2 := hlow t htd; have h3 := hlp t htd; rw [show n - 1 - (k + 1) - t + d - (n - 1 - k) = d - 1 - t by omega, <- h0, <- h1, <- h2]; generalize r.getD (t + 1) 0 = X at *
   generalize low.getD t 0 = Y at *
   generalize r.getD 0 0 = Z at *
   obtain ⟨D, hD⟩ : ∃ D, p = Y + D := ⟨p - Y, by omega⟩
   rw [show p - Y = D by omega, Int.natCast_emod]; have hcast : ((X + D * Z : Nat) : Int) = ((X : Int) - Y * Z) + p * Z := by
    have : (p : Int) = Y + D := by omega
    rw [this]; push_cast; rw [Int.add_mul]; omega
   rw [hcast, Int.add_mul_emod_self_left]
  .rw [if_neg htd, if_neg (by omega)]; exact h1
theorem Jdt (l : List Nat) (t : Nat) (h : t < l.length) : l.reverse.getD t 0 = l.getD (l.length - 1 - t) 0 := by
 rw [List.getD_eq_getElem?_getD, List.getD_eq_getElem?_getD, List.getElem?_reverse h]
theorem Jdy {p : Nat} (hp : 0 < p) (x i : Nat) : 0 <= dv p x i /\ dv p x i < p := Jex hp x (i + 1) i (by omega)
theorem Jqn {p m v : Nat} (hp : 0 < p) (hv : v < p ^ m) : irrB p m (dgl p m v) = true ↔ Irr p m (dv p v) := by
 have key : ∀ d w, 0 < d -> 2 * d <= m -> (dvg p (dgl p d w).reverse (m + 1 - d) (1 :: (dgl p m v).reverse) = true ↔ Dvd p d (dv p w) (fun i => if i = m then 1 else dv p v i) (m + 1)) := fun d w hd h2 => by
  refine Jq1 hp (by rw [List.length_reverse, QR]) (fun t ht => ?_) (fun t ht => ?_) (m + 1 - d) 0 _ (by omega) (by simp [QR]) fun t ht => ?_
  .rw [Jdt _ _ (by rw [QR]; exact ht), QR, Jbw _ _ _ _ (by omega)]
  .rw [Jdt _ _ (by rw [QR]; exact ht), QR]; have := Jbw p d w (d - 1 - t) (by omega); have := Jdy hp w (d - 1 - t); omega
  .show _ = if m + 1 - 1 - 0 - t = m then (1 : Int) else dv p v (m + 1 - 1 - 0 - t)
   cases t with
   | zero => rw [if_pos (by omega)]; rfl
   | succ t =>
    rw [if_neg (by omega)]; show (((dgl p m v).reverse.getD t 0 : Nat) : Int) = _; rw [Jdt _ _ (by rw [QR]; omega), QR, Jbw _ _ _ _ (by omega), show m + 1 - 1 - 0 - (t + 1) = m - 1 - t by omega]
 unfold irrB; rw [ZK]; constructor
 .intro h d hd h2 w hw hD; have h3 := h (d - 1) (by omega); have h4 := (ZK _ _).1 (by simpa using h3) w (by rw [show d - 1 + 1 = d by omega]; exact hw); rw [show d - 1 + 1 = d by omega, show m - (d - 1) = m + 1 - d by omega, (key d w hd h2).2 hD] at h4; cases h4
 .intro h d hd; have : nob (fun w => dvg p (dgl p (d + 1) w).reverse (m - d) (1 :: (dgl p m v).reverse)) (p ^ (d + 1)) = true := (ZK _ _).2 fun w hw => by
   cases hb : dvg p (dgl p (d + 1) w).reverse (m - d) (1 :: (dgl p m v).reverse) with
   | false => rfl
   | true =>
    rw [show m - d = m + 1 - (d + 1) by omega] at hb; exact absurd ((key (d + 1) w (by omega) (by omega)).1 hb) (h (d + 1) (by omega) (by omega) w hw)
  rw [this]; rfl
theorem JN {p m lo n v : Nat} (hp : 2 <= p) (hm : 0 < m) (h : chk p m lo n = true) (h1 : lo <= v) (h2 : v < lo + n) (hv : v < p ^ m) (hi : Irr p m (dv p v)) : ∃ g, Gn (p ^ m) (Jy p m (dv p v)) g := by
 have h3 := (ZK _ _).1 h (v - lo) (by omega); simp only [show lo + (v - lo) = v by omega, (Jqn (by omega) hv).2 hi, cond_true] at h3; exact Jme hp hm Jsi (by simpa using h3)
end Go.Proofs.Ytjgpkljepgcekaa
namespace Go.Proofs.Ytjgpkljepgcekaa
theorem Joj : chk 2 2 0 4 = true := by decide +kernel
theorem Joi : chk 2 3 0 8 = true := by decide +kernel
theorem Joh : chk 2 4 0 16 = true := by decide +kernel
theorem Jog : chk 2 5 0 32 = true := by decide +kernel
theorem Jof : chk 2 6 0 64 = true := by decide +kernel
theorem Joe : chk 2 7 0 64 = true := by decide +kernel
theorem Jk1 : chk 2 7 64 64 = true := by decide +kernel
theorem Jod : chk 2 8 0 24 = true := by decide +kernel
theorem Jk0 : chk 2 8 24 24 = true := by decide +kernel
theorem Jkz : chk 2 8 48 24 = true := by decide +kernel
theorem Jky : chk 2 8 72 24 = true := by decide +kernel
theorem Jkx : chk 2 8 96 24 = true := by decide +kernel
theorem Jim : chk 2 8 120 24 = true := by decide +kernel
theorem Jil : chk 2 8 144 24 = true := by decide +kernel
theorem Jik : chk 2 8 168 24 = true := by decide +kernel
theorem Jij : chk 2 8 192 24 = true := by decide +kernel
theorem Jii : chk 2 8 216 24 = true := by decide +kernel
theorem Jih : chk 2 8 240 16 = true := by decide +kernel
theorem Joc : chk 3 2 0 9 = true := by decide +kernel
theorem Job : chk 3 3 0 27 = true := by decide +kernel
theorem Joa : chk 3 4 0 64 = true := by decide +kernel
theorem Jkw : chk 3 4 64 17 = true := by decide +kernel
theorem Jn9 : chk 3 5 0 24 = true := by decide +kernel
theorem Jkv : chk 3 5 24 24 = true := by decide +kernel
theorem Jku : chk 3 5 48 24 = true := by decide +kernel
theorem Jkt : chk 3 5 72 24 = true := by decide +kernel
theorem Jks : chk 3 5 96 24 = true := by decide +kernel
theorem Jig : chk 3 5 120 24 = true := by decide +kernel
theorem Jif : chk 3 5 144 24 = true := by decide +kernel
theorem Jie : chk 3 5 168 24 = true := by decide +kernel
theorem Jid : chk 3 5 192 24 = true := by decide +kernel
theorem Jic : chk 3 5 216 24 = true := by decide +kernel
theorem Jib : chk 3 5 240 3 = true := by decide +kernel
theorem Jn8 : chk 5 2 0 25 = true := by decide +kernel
theorem Jn7 : chk 5 3 0 64 = true := by decide +kernel
theorem Jkr : chk 5 3 64 61 = true := by decide +kernel
theorem Jn6 : chk 7 2 0 49 = true := by decide +kernel
theorem Jk3 : chk 11 2 0 64 = true := by decide +kernel
theorem Jio : chk 11 2 64 57 = true := by decide +kernel
theorem Jk2 : chk 13 2 0 64 = true := by decide +kernel
theorem Jin : chk 13 2 64 64 = true := by decide +kernel
theorem Jgj : chk 13 2 128 41 = true := by decide +kernel
theorem chk1_0 : ([2, 3, 5, 7, 11, 13, 17, 19, 23, 29, 31, 37, 41, 43, 47, 53, 59, 61] : List Nat).all (fun p => Jkl p 1 [0]) = true := by decide +kernel
theorem chk1_1 : ([67, 71, 73, 79, 83, 89, 97, 101, 103, 107, 109, 113, 127, 131, 137, 139, 149, 151] : List Nat).all (fun p => Jkl p 1 [0]) = true := by decide +kernel
theorem chk1_2 : ([157, 163, 167, 173, 179, 181, 191, 193, 197, 199, 211, 223, 227, 229, 233, 239, 241, 251] : List Nat).all (fun p => Jkl p 1 [0]) = true := by decide +kernel
theorem gx_2_2 {v : Nat} (hv : v < 2 ^ 2) (hI : Irr 2 2 (dv 2 v)) : ∃ g, Gn (2 ^ 2) (Jy 2 2 (dv 2 v)) g := by
 have hv2 : v < 4 := hv; exact JN (by decide) (by decide) Joj (by omega) (by omega) hv hI
theorem gx_2_3 {v : Nat} (hv : v < 2 ^ 3) (hI : Irr 2 3 (dv 2 v)) : ∃ g, Gn (2 ^ 3) (Jy 2 3 (dv 2 v)) g := by
 have hv2 : v < 8 := hv; exact JN (by decide) (by decide) Joi (by omega) (by omega) hv hI
theorem gx_2_4 {v : Nat} (hv : v < 2 ^ 4) (hI : Irr 2 4 (dv 2 v)) : ∃ g, Gn (2 ^ 4) (Jy 2 4 (dv 2 v)) g := by
 have hv2 : v < 16 := hv; exact JN (by decide) (by decide) Joh (by omega) (by omega) hv hI
theorem gx_2_5 {v : Nat} (hv : v < 2 ^ 5) (hI : Irr 2 5 (dv 2 v)) : ∃ g, Gn (2 ^ 5) (Jy 2 5 (dv 2 v)) g := by
 have hv2 : v < 32 := hv; exact JN (by decide) (by decide) Jog (by omega) (by omega) hv hI
theorem gx_2_6 {v : Nat} (hv : v < 2 ^ 6) (hI : Irr 2 6 (dv 2 v)) : ∃ g, Gn (2 ^ 6) (Jy 2 6 (dv 2 v)) g := by
 have hv2 : v < 64 := hv; exact JN (by decide) (by decide) Jof (by omega) (by omega) hv hI
theorem gx_2_7 {v : Nat} (hv : v < 2 ^ 7) (hI : Irr 2 7 (dv 2 v)) : ∃ g, Gn (2 ^ 7) (Jy 2 7 (dv 2 v)) g := by
 have hv2 : v < 128 := hv; rcases Nat.lt_or_ge v 64 with h | h
 .exact JN (by decide) (by decide) Joe (by omega) (by omega) hv hI
 exact JN (by decide) (by decide) Jk1 (by omega) (by omega) hv hI
theorem gx_2_8 {v : Nat} (hv : v < 2 ^ 8) (hI : Irr 2 8 (dv 2 v)) : ∃ g, Gn (2 ^ 8) (Jy 2 8 (dv 2 v)) g := by
 have hv2 : v < 256 := hv; rcases Nat.lt_or_ge v 24 with h | h
 .exact JN (by decide) (by decide) Jod (by omega) (by omega) hv hI
 rcases Nat.lt_or_ge v 48 with h | h
 .exact JN (by decide) (by decide) Jk0 (by omega) (by omega) hv hI
 rcases Nat.lt_or_ge v 72 with h | h
 .exact JN (by decide) (by decide) Jkz (by omega) (by omega) hv hI
 rcases Nat.lt_or_ge v 96 with h | h
 .exact JN (by decide) (by decide) Jky (by omega) (by omega) hv hI
 rcases Nat.lt_or_ge v 120 with h | h
 .exact JN (by decide) (by decide) Jkx (by omega) (by omega) hv hI
 rcases Nat.lt_or_ge v 144 with h | h
 .exact JN (by decide) (by decide) Jim (by omega) (by omega) hv hI
 rcases Nat.lt_or_ge v 168 with h | h
 .exact JN (by decide) (by decide) Jil (by omega) (by omega) hv hI
 rcases Nat.lt_or_ge v 192 with h | h
 .exact JN (by decide) (by decide) Jik (by omega) (by omega) hv hI
 rcases Nat.lt_or_ge v 216 with h | h
 .exact JN (by decide) (by decide) Jij (by omega) (by omega) hv hI
 rcases Nat.lt_or_ge v 240 with h | h
 .exact JN (by decide) (by decide) Jii (by omega) (by omega) hv hI
 exact JN (by decide) (by decide) Jih (by omega) (by omega) hv hI
theorem gx_3_2 {v : Nat} (hv : v < 3 ^ 2) (hI : Irr 3 2 (dv 3 v)) : ∃ g, Gn (3 ^ 2) (Jy 3 2 (dv 3 v)) g := by
 have hv2 : v < 9 := hv; exact JN (by decide) (by decide) Joc (by omega) (by omega) hv hI
theorem gx_3_3 {v : Nat} (hv : v < 3 ^ 3) (hI : Irr 3 3 (dv 3 v)) : ∃ g, Gn (3 ^ 3) (Jy 3 3 (dv 3 v)) g := by
 have hv2 : v < 27 := hv; exact JN (by decide) (by decide) Job (by omega) (by omega) hv hI
theorem gx_3_4 {v : Nat} (hv : v < 3 ^ 4) (hI : Irr 3 4 (dv 3 v)) : ∃ g, Gn (3 ^ 4) (Jy 3 4 (dv 3 v)) g := by
 have hv2 : v < 81 := hv; rcases Nat.lt_or_ge v 64 with h | h
 .exact JN (by decide) (by decide) Joa (by omega) (by omega) hv hI
 exact JN (by decide) (by decide) Jkw (by omega) (by omega) hv hI
theorem gx_3_5 {v : Nat} (hv : v < 3 ^ 5) (hI : Irr 3 5 (dv 3 v)) : ∃ g, Gn (3 ^ 5) (Jy 3 5 (dv 3 v)) g := by
 have hv2 : v < 243 := hv; rcases Nat.lt_or_ge v 24 with h | h
 .exact JN (by decide) (by decide) Jn9 (by omega) (by omega) hv hI
 rcases Nat.lt_or_ge v 48 with h | h
 .exact JN (by decide) (by decide) Jkv (by omega) (by omega) hv hI
 rcases Nat.lt_or_ge v 72 with h | h
 .exact JN (by decide) (by decide) Jku (by omega) (by omega) hv hI
 rcases Nat.lt_or_ge v 96 with h | h
 .exact JN (by decide) (by decide) Jkt (by omega) (by omega) hv hI
 rcases Nat.lt_or_ge v 120 with h | h
 .exact JN (by decide) (by decide) Jks (by omega) (by omega) hv hI
 rcases Nat.lt_or_ge v 144 with h | h
 .exact JN (by decide) (by decide) Jig (by omega) (by omega) hv hI
 rcases Nat.lt_or_ge v 168 with h | h
 .exact JN (by decide) (by decide) Jif (by omega) (by omega) hv hI
 rcases Nat.lt_or_ge v 192 with h | h
 .exact JN (by decide) (by decide) Jie (by omega) (by omega) hv hI
 rcases Nat.lt_or_ge v 216 with h | h
 .exact JN (by decide) (by decide) Jid (by omega) (by omega) hv hI
 rcases Nat.lt_or_ge v 240 with h | h
 .exact JN (by decide) (by decide) Jic (by omega) (by omega) hv hI
 exact JN (by decide) (by decide) Jib (by omega) (by omega) hv hI
theorem gx_5_2 {v : Nat} (hv : v < 5 ^ 2) (hI : Irr 5 2 (dv 5 v)) : ∃ g, Gn (5 ^ 2) (Jy 5 2 (dv 5 v)) g := by
 have hv2 : v < 25 := hv; exact JN (by decide) (by decide) Jn8 (by omega) (by omega) hv hI
theorem gx_5_3 {v : Nat} (hv : v < 5 ^ 3) (hI : Irr 5 3 (dv 5 v)) : ∃ g, Gn (5 ^ 3) (Jy 5 3 (dv 5 v)) g := by
 have hv2 : v < 125 := hv; rcases Nat.lt_or_ge v 64 with h | h
 .exact JN (by decide) (by decide) Jn7 (by omega) (by omega) hv hI
 exact JN (by decide) (by decide) Jkr (by omega) (by omega) hv hI
theorem gx_7_2 {v : Nat} (hv : v < 7 ^ 2) (hI : Irr 7 2 (dv 7 v)) : ∃ g, Gn (7 ^ 2) (Jy 7 2 (dv 7 v)) g := by
 have hv2 : v < 49 := hv; exact JN (by decide) (by decide) Jn6 (by omega) (by omega) hv hI
theorem Jtr {v : Nat} (hv : v < 11 ^ 2) (hI : Irr 11 2 (dv 11 v)) : ∃ g, Gn (11 ^ 2) (Jy 11 2 (dv 11 v)) g := by
 have hv2 : v < 121 := hv; rcases Nat.lt_or_ge v 64 with h | h
 .exact JN (by decide) (by decide) Jk3 (by omega) (by omega) hv hI
 exact JN (by decide) (by decide) Jio (by omega) (by omega) hv hI
theorem Jtq {v : Nat} (hv : v < 13 ^ 2) (hI : Irr 13 2 (dv 13 v)) : ∃ g, Gn (13 ^ 2) (Jy 13 2 (dv 13 v)) g := by
 have hv2 : v < 169 := hv; rcases Nat.lt_or_ge v 64 with h | h
 .exact JN (by decide) (by decide) Jk2 (by omega) (by omega) hv hI
 rcases Nat.lt_or_ge v 128 with h | h
 .exact JN (by decide) (by decide) Jin (by omega) (by omega) hv hI
 exact JN (by decide) (by decide) Jgj (by omega) (by omega) hv hI
noncomputable def prL : List Nat := [2, 3, 5, 7, 11, 13, 17, 19, 23, 29, 31, 37, 41, 43, 47, 53, 59, 61, 67, 71, 73, 79, 83, 89, 97, 101, 103, 107, 109, 113, 127, 131, 137, 139, 149, 151, 157, 163, 167, 173, 179, 181, 191, 193, 197, 199, 211, 223, 227, 229, 233, 239, 241, 251]
theorem Js3 : (List.range 257).all (fun p => prL.contains p || Nat.blt p 2 || (List.range p).any (fun e => Nat.ble 2 e && Nat.beq (p % e) 0)) = true := by decide +kernel
theorem Js2 {p : Nat} (hp : IsLf p p) (h : p <= 256) : p ∈ prL := by
 have h1 := List.all_eq_true.1 Js3 p (List.mem_range.2 (by omega)); simp only [Bool.or_eq_true, List.contains_iff_mem, List.any_eq_true, List.mem_range, Bool.and_eq_true] at h1; rcases h1 with (h1 | h1) | ⟨e, he, h2, h3⟩
 .exact h1
 .have := hp.two; have := Nat.le_of_ble_eq_true h1; omega
 .have := hp.min e (Nat.le_of_ble_eq_true h2) (Nat.eq_of_beq_eq_true h3); omega
theorem gx_1 {p : Nat} (hp : IsLf p p) (h : p <= 256) : ∃ g, Gn (p ^ 1) (Jy p 1 (dv p 0)) g := by
 have hm := Js2 hp h; have hg : Jkl p 1 [0] = true := by
  unfold prL at hm; rw [show ([2, 3, 5, 7, 11, 13, 17, 19, 23, 29, 31, 37, 41, 43, 47, 53, 59, 61, 67, 71, 73, 79, 83, 89, 97, 101, 103, 107, 109, 113, 127, 131, 137, 139, 149, 151, 157, 163, 167, 173, 179, 181, 191, 193, 197, 199, 211, 223, 227, 229, 233, 239, 241, 251] : List Nat) = ([2, 3, 5, 7, 11, 13, 17, 19, 23, 29, 31, 37, 41, 43, 47, 53, 59, 61] : List Nat) ++ ([67, 71, 73, 79, 83, 89, 97, 101, 103, 107, 109, 113, 127, 131, 137, 139, 149, 151] : List Nat) ++ ([157, 163, 167, 173, 179, 181, 191, 193, 197, 199, 211, 223, 227, 229, 233, 239, 241, 251] : List Nat) from rfl] at hm; simp only [List.mem_append] at hm; rcases hm with (h | h) | h
  .exact List.all_eq_true.1 chk1_0 p h
  .exact List.all_eq_true.1 chk1_1 p h
  .exact List.all_eq_true.1 chk1_2 p h
 refine Jme hp.two (by decide) ⟨rfl, fun i hi => ?_⟩ hg; rw [show i = 0 by omega, Jdx]; simp [vz]
theorem Jp5 {p m : Nat} (hp : IsLf p p) (hm : 2 <= m) (hq : p ^ m <= 256) : (p = 2 /\ m = 2) ∨ (p = 2 /\ m = 3) ∨ (p = 2 /\ m = 4) ∨ (p = 2 /\ m = 5) ∨ (p = 2 /\ m = 6) ∨ (p = 2 /\ m = 7) ∨ (p = 2 /\ m = 8) ∨ (p = 3 /\ m = 2) ∨ (p = 3 /\ m = 3) ∨ (p = 3 /\ m = 4) ∨ (p = 3 /\ m = 5) ∨ (p = 5 /\ m = 2) ∨ (p = 5 /\ m = 3) ∨ (p = 7 /\ m = 2) ∨ (p = 11 /\ m = 2) ∨ (p = 13 /\ m = 2) := by
  have h2 := hp.two
  have hpow : ∀ k, k <= m -> p ^ k <= 256 := fun k hk => Nat.le_trans (Nat.pow_le_pow_right (by omega) hk) hq
  have hp2 : p <= 16 := by
    rcases Nat.lt_or_ge 16 p with h | h
    . have h1 := hpow 2 hm
      have h3 : 17 ^ 2 <= p ^ 2 := Nat.pow_le_pow_left h 2
      omega
    . exact h
  have hnd : ∀ e, 2 <= e -> e < p -> p % e ≠ 0 := fun e he hlt h0 => by have := hp.min e he h0; omega
  have hc : p = 2 ∨ p = 3 ∨ p = 5 ∨ p = 7 ∨ p = 11 ∨ p = 13 := by
    have h3 := hnd 2 (by omega)
    have h4 := hnd 3 (by omega)
    omega
  rcases hc with rfl | rfl | rfl | rfl | rfl | rfl
  . have : m <= 8 := by
      rcases Nat.lt_or_ge 8 m with h | h
      . have := hpow 9 h; omega
      . exact h
    omega
  . have : m <= 5 := by
      rcases Nat.lt_or_ge 5 m with h | h
      . have := hpow 6 h; omega
      . exact h
    omega
  . have : m <= 3 := by
      rcases Nat.lt_or_ge 3 m with h | h
      . have := hpow 4 h; omega
      . exact h
    omega
  . have : m <= 2 := by
      rcases Nat.lt_or_ge 2 m with h | h
      . have := hpow 3 h; omega
      . exact h
    omega
  . have : m <= 2 := by
      rcases Nat.lt_or_ge 2 m with h | h
      . have := hpow 3 h; omega
      . exact h
    omega
  . have : m <= 2 := by
      rcases Nat.lt_or_ge 2 m with h | h
      . have := hpow 3 h; omega
      . exact h
    omega
theorem gen_ex {p m v : Nat} (hp : IsLf p p) (hm : 0 < m) (hq : p ^ m <= 256) (hv : v < p ^ m) (h1 : m = 1 -> v = 0) (hI : Irr p m (dv p v)) : ∃ g, Gn (p ^ m) (Jy p m (dv p v)) g := by
  rcases Nat.lt_or_ge m 2 with h | h
  . have : m = 1 := by omega
    subst this
    rw [h1 rfl]
    exact gx_1 hp (by simpa using hq)
  . rcases Jp5 hp h hq with ⟨rfl, rfl⟩ | ⟨rfl, rfl⟩ | ⟨rfl, rfl⟩ | ⟨rfl, rfl⟩ | ⟨rfl, rfl⟩ | ⟨rfl, rfl⟩ | ⟨rfl, rfl⟩ | ⟨rfl, rfl⟩ | ⟨rfl, rfl⟩ | ⟨rfl, rfl⟩ | ⟨rfl, rfl⟩ | ⟨rfl, rfl⟩ | ⟨rfl, rfl⟩ | ⟨rfl, rfl⟩ | ⟨rfl, rfl⟩ | ⟨rfl, rfl⟩
    . exact gx_2_2 hv hI
    . exact gx_2_3 hv hI
    . exact gx_2_4 hv hI
    . exact gx_2_5 hv hI
    . exact gx_2_6 hv hI
    . exact gx_2_7 hv hI
    . exact gx_2_8 hv hI
    . exact gx_3_2 hv hI
    . exact gx_3_3 hv hI
    . exact gx_3_4 hv hI
    . exact gx_3_5 hv hI
    . exact gx_5_2 hv hI
    . exact gx_5_3 hv hI
    . exact gx_7_2 hv hI
    . exact Jtr hv hI
    . exact Jtq hv hI
end Go.Proofs.Ytjgpkljepgcekaa
namespace Go.Proofs.Ytjgpkljepgcekaa
def vo (l : LI) : Vec := fun i => l.getD i 0
theorem JM (l : LI) (i : Nat) : gi l (i : Int) = vo l i := rfl
theorem J6 (l : LI) (i : Nat) (x : Int) : si l (i : Int) x = l.set i x := rfl
theorem YA (a b : Nat) : (a : Int).tmod (b : Int) = ((a % b : Nat) : Int) := rfl
theorem Jpf (a b : Nat) : (a : Int).tdiv (b : Int) = ((a / b : Nat) : Int) := rfl
theorem J2 (l : LI) (i j : Nat) (x : Int) : vo (l.set i x) j = if i = j /\ i < l.length then x else vo l j := by
 unfold vo; rw [List.getD_eq_getElem?_getD, List.getD_eq_getElem?_getD, List.getElem?_set]; by_cases h : i = j
 .subst h; by_cases h2 : i < l.length
  .simp [h2]
  .simp [h2]
 .simp [h]
theorem Jc3 (n : Nat) (i : Nat) : vo (List.replicate n (0 : Int)) i = 0 := by
 unfold vo; rw [List.getD_eq_getElem?_getD, List.getElem?_replicate]; split <;> rfl
theorem Jb7 {l : LI} {i : Nat} (h : l.length <= i) : vo l i = 0 := by
 unfold vo; rw [List.getD_eq_getElem?_getD, List.getElem?_eq_none h]; rfl
theorem Ym {l o : LI} (h : l.length = o.length) (hv : ∀ i, i < l.length -> vo l i = vo o i) : l = o := by
 refine List.ext_getElem h fun i h1 h2 => ?_; have := hv i h1; unfold vo at this; rw [List.getD_eq_getElem?_getD, List.getD_eq_getElem?_getD, List.getElem?_eq_getElem h1, List.getElem?_eq_getElem h2] at this; exact this
theorem Jq {x : Int} (h : -1000000000000 <= x) (h2 : x <= 1000000000000) : I64 x := ⟨by omega, by omega⟩
theorem Q8 {n : Nat} (h : n <= 1000000000000) : I64 (n : Int) := Jq (by omega) (by omega)
def dgi (p n x : Nat) : LI := (dgl p n x).map fun (a : Nat) => (a : Int)
theorem JT (p n x : Nat) : (dgi p n x).length = n := by simp [dgi, QR]
theorem QU {p n x i : Nat} (h : i < n) : vo (dgi p n x) i = dv p x i := by
 rw [<- Jbw p n x i h]; unfold vo dgi; rw [List.getD_eq_getElem?_getD, List.getElem?_map, List.getD_eq_getElem?_getD]; rw [List.getElem?_eq_getElem (by rw [QR]; exact h)]; rfl
theorem Jpd {b : Bool} {Q : Int -> Prop} (h : Q (if b = true then 0 else 1)) : Jd9 b Q := by
 cases b
 .exact ⟨fun h' => absurd h' (by decide), fun _ => h⟩
 .exact ⟨fun _ => h, fun h' => absurd h' (by decide)⟩
theorem Jtk {n k : Nat} (hn : 2 <= n) (hk : n < k * k) (h : ∀ e, e < k -> 2 <= e -> n % e ≠ 0) : IsLf n n := by
 refine ⟨hn, Nat.mod_self n, fun e he hm => ?_⟩; rcases Nat.lt_or_ge e k with hc | hc
 .exact absurd hm (h e hc he)
 .obtain ⟨t, ht⟩ := Nat.dvd_of_mod_eq_zero hm; have hq1 : t < k := by
   rcases Nat.lt_or_ge t k with h1 | h1
   .exact h1
   .have := Nat.mul_le_mul hc h1; omega
  rcases Nat.lt_or_ge t 2 with h2 | h2
  .have : t = 0 ∨ t = 1 := by omega
   rcases this with rfl | rfl
   .omega
   .omega
  .exact absurd (Nat.mod_eq_zero_of_dvd ⟨e, by rw [ht, Nat.mul_comm]⟩) (h t hq1 h2)
theorem Jc5 {x : Nat} {Q : Int -> Prop} (h2 : 2 <= x) (hx : x <= 256) (h : ∀ d : Nat, IsLf x d -> Q d) : Q5 x Q := by
 refine ⟨fun z => ∃ k : Nat, z = k /\ 2 <= k /\ k <= 17 /\ ∀ e, e < k -> 2 <= e -> x % e ≠ 0, fun z => (20 - z).toNat, ⟨2, rfl, by omega, by omega, fun e _ _ => by omega⟩, ?_⟩; rintro _ ⟨k, rfl, hk2, hk, hm⟩; dsimp only; have e1 : ((k : Nat) : Int) * (k : Int) = ((k * k : Nat) : Int) := by push_cast; rfl
 have hb : k * k <= 17 * 17 := Nat.mul_le_mul hk hk; rw [e1]; refine ⟨Jq (by omega) (by omega), fun hle => ⟨by omega, ?_, ?_⟩, fun hgt => ?_⟩
 .intro h0; rw [YA] at h0; refine h k ⟨hk2, by omega, fun e he h3 => ?_⟩; rcases Nat.lt_or_ge e k with hc | hc
  .exact absurd h3 (hm e hc he)
  .exact hc
 .intro h0; rw [YA] at h0; have hk16 : k <= 16 := by
   rcases Nat.lt_or_ge 16 k with hc | hc
   .have := Nat.mul_le_mul hc hc; omega
   .exact hc
  refine ⟨Jq (by omega) (by omega), ⟨k + 1, by push_cast; rfl, by omega, by omega, fun e he h3 => ?_⟩, by omega⟩; rcases Nat.lt_or_ge e k with hc | hc
  .exact hm e hc h3
  .rw [show e = k by omega]; omega
 .exact h x (Jtk h2 (by omega) hm)
theorem IsLf.uniq {n d e : Nat} (h : IsLf n d) (h' : IsLf n e) : d = e := Nat.le_antisymm (h.min e h'.two h'.dvd) (h'.min d h.two h.dvd)
theorem Jne {x : Int} {Q : Bool -> Prop} (hx : x <= 256) (h : ∀ b : Bool, (b = true ↔ 2 <= x /\ IsLf x.toNat x.toNat) -> Q b) : ZW x Q := by
 refine ⟨fun h2 => ?_, fun h2 => h false ⟨fun h' => by (cases h'), fun h' => absurd h'.1 h2⟩⟩; obtain ⟨n, rfl⟩ := Int.eq_ofNat_of_zero_le (show 0 <= x by omega); refine Jc5 (by omega) (by omega) fun d hd => h _ ?_; rw [decide_eq_true_iff, Int.toNat_natCast]; constructor
 .intro he; have : d = n := by omega
  subst this; exact ⟨h2, hd⟩
 .rintro ⟨_, hn⟩; rw [hd.uniq hn]
theorem Jpa {x : Nat} {Q : Bool -> Prop} (h2 : 2 <= x) (hx : x <= 256) (h : ∀ b : Bool, (b = true ↔ IsLf x x) -> Q b) : Ja7 x Q := by
 refine ⟨fun z => ∃ k : Nat, z = k /\ 2 <= k /\ k <= x /\ ∀ e, e < k -> 2 <= e -> x % e ≠ 0, fun z => (x - z).toNat, ⟨2, rfl, by omega, by omega, fun e _ _ => by omega⟩, ?_⟩; rintro _ ⟨k, rfl, hk2, hk, hm⟩; dsimp only; refine ⟨fun hlt => ⟨by omega, fun h0 => ?_, fun h0 => ?_⟩, fun hge => ?_⟩
 .rw [YA] at h0; refine h false ⟨fun h' => by (cases h'), fun hp => ?_⟩; have := hp.min k hk2 (by omega); omega
 .rw [YA] at h0; refine ⟨Jq (by omega) (by omega), ⟨k + 1, by push_cast; rfl, by omega, by omega, fun e he h3 => ?_⟩, by omega⟩; rcases Nat.lt_or_ge e k with hc | hc
  .exact hm e hc h3
  .rw [show e = k by omega]; omega
 .refine h true ⟨fun _ => ⟨h2, Nat.mod_self x, fun e he h0 => ?_⟩, fun _ => rfl⟩; rcases Nat.lt_or_ge e x with hc | hc
  .exact absurd h0 (hm e (by omega) he)
  .exact hc
theorem Qn {p a b : Nat} (hp : 0 < p) (h : a <= b) : p ^ a <= p ^ b := Nat.pow_le_pow_right hp h
theorem Jfa {p : Nat} {M : Int} {mf : LI} {Q : Int -> Prop} (hp : 2 <= p) (hp2 : p <= 256) (h : ∀ r : Int, (p ^ M.toNat <= 256 -> r = ((p ^ M.toNat : Nat) : Int)) -> (256 < p ^ M.toNat -> 256 < r) -> Q r) : Zg p M mf Q := by
 refine ⟨fun r => (p ^ M.toNat <= 256 -> r = ((p ^ M.toNat : Nat) : Int)) /\ (256 < p ^ M.toNat -> 256 < r), ⟨fun z i => ∃ k : Nat, i = k /\ k <= M.toNat /\ z = ((p ^ k : Nat) : Int) /\ p ^ k <= 65536 /\ k <= 16, fun z i => (20 - i).toNat, ⟨0, rfl, Nat.zero_le _, by simp, by simp, by omega⟩, ?_⟩, fun r hr => h r hr.1 hr.2⟩; rintro _ _ ⟨k, rfl, hk, rfl, hb, hk16⟩; dsimp only; refine ⟨fun hlt => ⟨fun hle => ?_, fun hgt => ?_⟩, fun hge => ?_⟩
 .have hk8 : p ^ k <= 256 := by omega
  have hkk : k < 16 := by
   rcases Nat.lt_or_ge k 16 with hc | hc
   .exact hc
   .have h1 := Qn (p := p) (by omega) hc; have h2 : 2 ^ 16 <= p ^ 16 := Nat.pow_le_pow_left hp 16; omega
  have e1 : ((p ^ k : Nat) : Int) * (p : Int) = ((p ^ (k + 1) : Nat) : Int) := by rw [Nat.pow_succ]; push_cast; rfl
  have hb2 : p ^ (k + 1) <= 65536 := by
   rw [Nat.pow_succ]; have := Nat.mul_le_mul hk8 hp2; omega
  rw [e1]; exact ⟨Jq (by omega) (by omega), Jq (by omega) (by omega), ⟨k + 1, by push_cast; rfl, by omega, rfl, hb2, by omega⟩, by omega⟩
 .have := Qn (p := p) (by omega) hk; exact ⟨fun h' => by omega, fun _ => by omega⟩
 .have : k = M.toNat := by omega
  subst this; exact ⟨fun _ => rfl, fun h' => by omega⟩
def Jee (P M : Int) : Int := if 2 <= P /\ 1 <= M /\ P.toNat ^ M.toNat <= 256 then ((P.toNat ^ M.toNat : Nat) : Int) else 0
theorem Jaq {P M : Int} {mf : LI} {Q : Int -> Prop} (h : Q (Jee P M)) : Yu P M mf Q := by
 refine ⟨fun h1 => ?_, fun h1 => ⟨fun h2 => ?_, fun h2 => ⟨fun h3 => ?_, fun h3 => ?_⟩⟩⟩
 .rw [Jee, if_neg (by omega)] at h; exact h
 .rw [Jee, if_neg (by omega)] at h; exact h
 .rw [Jee, if_neg] at h
  .exact h
  .rintro ⟨h4, h5, h6⟩; have e1 : 2 ^ 9 <= P.toNat ^ 9 := Nat.pow_le_pow_left (by omega) 9; have e2 := Qn (p := P.toNat) (by omega) (show 9 <= M.toNat by omega); omega
 .obtain ⟨p, rfl⟩ := Int.eq_ofNat_of_zero_le (show 0 <= P by omega); obtain ⟨m, rfl⟩ := Int.eq_ofNat_of_zero_le (show 0 <= M by omega); refine ⟨fun z i => ∃ k : Nat, i = k /\ k <= m /\ z = ((p ^ k : Nat) : Int) /\ p ^ k <= 256, fun z i => (20 - i).toNat, ⟨0, rfl, Nat.zero_le _, by simp, by simp⟩, ?_⟩; rintro _ _ ⟨k, rfl, hk, rfl, hb⟩; dsimp only; rw [show (256 : Int) = ((256 : Nat) : Int) from rfl, Jpf]; have hd : 256 / p <= 256 := Nat.div_le_self _ _; have hdm : ∀ a, a <= 256 / p ↔ a * p <= 256 := fun a => Nat.le_div_iff_mul_le (show 0 < p by omega); generalize 256 / p = D at *
  refine ⟨fun hlt => ⟨⟨by omega, Jq (by omega) (by omega)⟩, fun hgt => ?_, fun hle => ?_⟩, fun hge => ?_⟩
  .rw [Jee, if_neg] at h
   .exact h
   .rintro ⟨_, _, h6⟩; simp only [Int.toNat_natCast] at h6; have h7 : p ^ (k + 1) <= 256 := Nat.le_trans (Qn (by omega) (by omega)) h6; rw [Nat.pow_succ] at h7; have := (hdm _).2 h7; omega
  .have h7 : p ^ (k + 1) <= 256 := by rw [Nat.pow_succ]; exact (hdm _).1 (by omega)
   have e1 : ((p ^ k : Nat) : Int) * (p : Int) = ((p ^ (k + 1) : Nat) : Int) := by rw [Nat.pow_succ]; push_cast; rfl
   rw [e1]; exact ⟨Jq (by omega) (by omega), Jq (by omega) (by omega), ⟨k + 1, by push_cast; rfl, by omega, rfl, h7⟩, by omega⟩
  .have : k = m := by omega
   subst this; rw [Jee, if_pos ⟨by omega, by omega, by simpa using hb⟩] at h
   simpa using h
theorem Jaz (x p i : Nat) : x / p ^ i / p = x / p ^ (i + 1) := by rw [Nat.div_div_eq_div_mul, Nat.pow_succ]
theorem Jc7 {p n x : Nat} {Q : LI -> Prop} (hp : 0 < p) (hn : n <= 1000) (hx : x <= 1000) (h : Q (dgi p n x)) : Y0 p n x Q := by
 refine ⟨⟨by omega, by omega, by omega⟩, fun l z i => ∃ k : Nat, i = k /\ k <= n /\ z = ((x / p ^ k : Nat) : Int) /\ l.length = n /\ ∀ j, j < k -> vo l j = dv p x j, fun l z i => (n - i).toNat, ⟨0, rfl, Nat.zero_le _, by simp, by simp, fun j hj => by omega⟩, ?_⟩; rintro l _ _ ⟨k, rfl, hk, rfl, hl, hv⟩; dsimp only; have hd : x / p ^ k <= x := Nat.div_le_self _ _; have hd2 : x / p ^ k / p <= x / p ^ k := Nat.div_le_self _ _; rw [Jpf, YA, J6]; simp only [Int.toNat_natCast]; refine ⟨fun hlt => ⟨by omega, ⟨by omega, by omega⟩, ⟨by omega, Q8 (by omega)⟩, Jq (by omega) (by omega), ⟨k + 1, by push_cast; rfl, by omega, by rw [Jaz], by rw [List.length_set, hl], fun j hj => ?_⟩, by omega⟩, fun hge => ?_⟩
 .rw [J2]; by_cases hjk : k = j
  .subst hjk; rw [if_pos ⟨rfl, by omega⟩]; rfl
  .rw [if_neg (by omega)]; exact hv j (by omega)
 .have : l = dgi p n x := Ym (by rw [hl, JT]) fun j hj => by rw [hv j (by omega), QU (by omega)]
  rw [this]; exact h
theorem Jel {p n x : Nat} {Q : LI -> Prop} (hp : 0 < p) (hn : n <= 1000) (hx : x <= 1000) (h : Q (dgi p n x)) : YW x p n Q := by
 refine ⟨⟨by omega, by omega, by omega⟩, fun l z i => ∃ k : Nat, i = k /\ k <= n /\ z = ((x / p ^ k : Nat) : Int) /\ l.length = n /\ ∀ j, j < k -> vo l j = dv p x j, fun l z i => (n - i).toNat, ⟨0, rfl, Nat.zero_le _, by simp, by simp, fun j hj => by omega⟩, ?_⟩; rintro l _ _ ⟨k, rfl, hk, rfl, hl, hv⟩; dsimp only; have hd : x / p ^ k <= x := Nat.div_le_self _ _; have hd2 : x / p ^ k / p <= x / p ^ k := Nat.div_le_self _ _; rw [Jpf, YA, J6]; simp only [Int.toNat_natCast]; refine ⟨fun hlt => ⟨by omega, ⟨by omega, by omega⟩, ⟨by omega, Q8 (by omega)⟩, Jq (by omega) (by omega), ⟨k + 1, by push_cast; rfl, by omega, by rw [Jaz], by rw [List.length_set, hl], fun j hj => ?_⟩, by omega⟩, fun hge => ?_⟩
 .rw [J2]; by_cases hjk : k = j
  .subst hjk; rw [if_pos ⟨rfl, by omega⟩]; rfl
  .rw [if_neg (by omega)]; exact hv j (by omega)
 .have : l = dgi p n x := Ym (by rw [hl, JT]) fun j hj => by rw [hv j (by omega), QU (by omega)]
  rw [this]; exact h
theorem Jg7 {p m x : Nat} {mf : LI} {Q : Int -> Prop} (hp : 2 <= p) (hp2 : p <= 256) (hx : x <= 256) (h : Q ((if x % p = p - 1 then x - x % p else x + 1 : Nat) : Int)) : YF p m mf x Q := by
 have hm := Nat.mod_lt x (show 0 < p by omega); have hm2 := Nat.mod_le x p; refine ⟨by omega, Jq (by omega) (by omega), fun h0 => ⟨by omega, ?_⟩, fun h0 => ?_⟩
 .rw [YA] at h0 ⊢; rw [if_pos (by omega)] at h; refine ⟨Jq (by omega) (by omega), ?_⟩; rw [show (x : Int) - ((x % p : Nat) : Int) = ((x - x % p : Nat) : Int) by omega]; exact h
 .rw [YA] at h0; rw [if_neg (by omega)] at h; exact ⟨Jq (by omega) (by omega), by push_cast at h ⊢; exact h⟩
theorem Jar {l : LI} {Q : LI -> Prop} (hl : l.length <= 1000000) (h : Q l) : YL l Q := by
 intro b hb; refine ⟨fun h1 => by rw [<- hb h1]; exact h, fun _ => ⟨by omega, by simpa using h⟩⟩
end Go.Proofs.Ytjgpkljepgcekaa
namespace Go.Proofs.Ytjgpkljepgcekaa
theorem ZP {l : LI} {f : Int -> Bool} : l.any f = true ↔ ∃ i, i < l.length /\ f (vo l i) = true := by
  rw [List.any_eq_true]
  constructor
  . rintro ⟨x, hx, hf⟩
    obtain ⟨i, hi, rfl⟩ := List.mem_iff_getElem.1 hx
    refine ⟨i, hi, ?_⟩
    unfold vo; rw [List.getD_eq_getElem?_getD, List.getElem?_eq_getElem hi]; exact hf
  . rintro ⟨i, hi, hf⟩
    unfold vo at hf
    rw [List.getD_eq_getElem?_getD, List.getElem?_eq_getElem hi] at hf
    exact ⟨l[i], List.getElem_mem hi, hf⟩
theorem Jc8 {l : LI} {p : Int -> (Bool -> Prop) -> Prop} {f : Int -> Bool} {Q : Bool -> Prop} (hl : l.length <= 1000000000) (hp : ∀ x (R : Bool -> Prop), R (f x) -> p x R) (h : Q (l.any f)) : Yy l p Q := by
 refine ⟨fun z => ∃ k : Nat, z = k /\ k <= l.length /\ ∀ j, j < k -> f (vo l j) = false, fun z => (l.length - z).toNat, ⟨0, rfl, Nat.zero_le _, fun j hj => by omega⟩, ?_⟩; rintro _ ⟨k, rfl, hk, hv⟩; dsimp only; refine ⟨fun hlt => ⟨⟨by omega, by omega⟩, hp _ _ ⟨fun hb => ?_, fun hb => ⟨Jq (by omega) (by omega), ⟨k + 1, by push_cast; rfl, by omega, fun j hj => ?_⟩, by omega⟩⟩⟩, fun hge => ?_⟩
 .rw [ZP.2 ⟨k, by omega, hb⟩] at h; rw [decide_eq_true (by omega)]; exact h
 .rw [JM] at hb; by_cases hjk : j = k
  .subst hjk; exact hb
  .exact hv j (by omega)
 .have : l.any f = false := by
   cases hb : l.any f with
   | false => rfl
   | true =>
    obtain ⟨i, hi, hf⟩ := ZP.1 hb; rw [hv i (by omega)] at hf; cases hf
  rw [this] at h; exact h
theorem Jfj {p : Nat} {a l c : Int} (hp : 0 < p) (ha : 0 <= a) (hl : l <= p) (hc : 0 <= c) : (a + ((p : Int) - l) * c).tmod p = (a - l * c) % (p : Int) := by
 have h1 : 0 <= ((p : Int) - l) * c := Int.mul_nonneg (by omega) hc; rw [Int.tmod_eq_emod_of_nonneg (by omega)]; have : a + ((p : Int) - l) * c = (a - l * c) + p * c := by rw [Int.sub_mul]; omega
 rw [this, Int.add_mul_emod_self_left]
theorem Jjy {p d n : Nat} {l R : Vec} (hp : 0 < p) {N : Nat} (hR : Cn p N R) : ∀ k, Cn p N (rem p d l R n k)
 | 0 => hR
 | k + 1 => fun j hj => by
  show 0 <= rst _ _ _ _ _ j /\ rst _ _ _ _ _ j < _; unfold rst; split
  .exact ⟨Int.emod_nonneg _ (by omega), Int.emod_lt_of_pos _ (by omega)⟩
  .exact Jjy hp hR k j hj
theorem ZA {a b : Int} {p : Nat} (hp : p <= 256) (ha : 0 <= a /\ a <= p) (hb : 0 <= b /\ b <= p) : 0 <= a * b /\ a * b <= 65536 := by
 obtain ⟨x, rfl⟩ := Int.eq_ofNat_of_zero_le ha.1; obtain ⟨y, rfl⟩ := Int.eq_ofNat_of_zero_le hb.1; have : x * y <= 256 * 256 := Nat.mul_le_mul (by omega) (by omega); have e : ((x : Int)) * (y : Int) = ((x * y : Nat) : Int) := by push_cast; rfl
 rw [e]; omega
theorem Jfc {l : LI} {n i : Nat} (h : i < n) : vo (l.take n) i = vo l i := by
 unfold vo; rw [List.getD_eq_getElem?_getD, List.getD_eq_getElem?_getD, List.getElem?_take, if_pos h]
theorem Jen {p : Nat} {l o : LI} {Q : Bool -> Prop} (hp : 0 < p) (hp2 : p <= 256) (hl : Cn p l.length (vo l)) (ho : Cn p o.length (vo o)) (hd : 0 < l.length) (hdn : l.length <= o.length) (hn : o.length <= 1000)
  (h : ∀ b : Bool, (b = true ↔ Dvd p l.length (vo l) (vo o) o.length) -> Q b) : YZ p l o Q := by
 refine Jar (by omega) ⟨Jq (by omega) (by omega), ?_⟩; generalize hdd : l.length = d at *
 generalize hnn : o.length = n at *
 refine ⟨fun x z => ∃ k : Nat, z = (n : Int) - 1 - k /\ k <= n - d /\ x.length = n /\ ∀ j, j < n -> vo x j = rem p d (vo l) (vo o) n k j, fun x z => (z + 1).toNat, ⟨0, by omega, by omega, hnn, fun j _ => rfl⟩, ?_⟩; rintro x _ ⟨k, rfl, hk, hx, hv⟩; dsimp only; have hc := Jjy (d := d) (l := vo l) (n := n) hp ho k; refine ⟨fun hle => ?_, fun hgt => ?_⟩
 .obtain ⟨i, hi⟩ : ∃ i : Nat, (n : Int) - 1 - k = i := ⟨n - 1 - k, by omega⟩
  rw [hi]; have hin : i = n - 1 - k := by omega
  refine ⟨fun y z => ∃ t : Nat, z = t /\ t <= d /\ y.length = n /\ ∀ j, j < n -> vo y j = if i <= j + d /\ j + d < i + t then rem p d (vo l) (vo o) n (k + 1) j else rem p d (vo l) (vo o) n k j, fun y z => (d - z).toNat, ⟨0, rfl, Nat.zero_le _, hx, fun j hj => by rw [if_neg (by omega)]; exact hv j hj⟩, ?_⟩; rintro y _ ⟨t, rfl, ht, hy, hw⟩; dsimp only; have e1 : (i : Int) - (d : Int) + (t : Int) = ((i - d + t : Nat) : Int) := by omega
  rw [e1, JM, JM, JM, J6]; have hyi : vo y i = rem p d (vo l) (vo o) n k i := by rw [hw i (by omega), if_neg (by omega)]
  refine ⟨fun hlt => ?_, fun hge => ?_⟩
  .have hyj : vo y (i - d + t) = rem p d (vo l) (vo o) n k (i - d + t) := by rw [hw _ (by omega), if_neg (by omega)]
   have c1 := hl t (by omega); have c2 := hc i (by omega); have c3 := hc (i - d + t) (by omega); rw [hyi, hyj]; have c4 := ZA (a := (p : Int) - vo l t) (b := rem p d (vo l) (vo o) n k i) hp2 ⟨by omega, by omega⟩ ⟨c2.1, by omega⟩; refine ⟨⟨by omega, by omega⟩, Jq (by omega) (by omega), Jq (by omega) (by omega), ⟨by omega, by omega⟩, Jq (by omega) (by omega), ⟨by omega, by omega⟩, Jq (by omega) (by omega), Jq (by omega) (by omega), by omega, ⟨by omega, by omega⟩, Jq (by omega) (by omega), ⟨t + 1, by push_cast; rfl, by omega, by rw [List.length_set, hy], fun j hj => ?_⟩, by omega⟩; rw [J2]; by_cases hjt : i - d + t = j
   .subst hjt; rw [if_pos ⟨rfl, by omega⟩, if_pos (by omega), Jfj hp c3.1 (by omega) c2.1]; show _ = rst p d (n - 1 - k) (vo l) (rem p d (vo l) (vo o) n k) (i - d + t); unfold rst; rw [<- hin, if_pos (by omega), show i - d + t + d - i = t by omega]
   .rw [if_neg (fun h => hjt h.1), hw j hj]; by_cases hc2 : i <= j + d /\ j + d < i + t
    .rw [if_pos hc2, if_pos (by omega)]
    .rw [if_neg hc2, if_neg (by omega)]
  .refine ⟨Jq (by omega) (by omega), ⟨k + 1, by omega, by omega, hy, fun j hj => ?_⟩, by omega⟩; rw [hw j hj]; have htd : t = d := by omega
   by_cases hc2 : i <= j + d /\ j + d < i + t
   .rw [if_pos hc2]
   .rw [if_neg hc2]; show _ = rst p d (n - 1 - k) (vo l) (rem p d (vo l) (vo o) n k) j; unfold rst; rw [<- hin, if_neg (by omega)]
 .refine ⟨⟨by omega, by omega⟩, Jc8 (f := fun x => decide (x ≠ 0)) (by rw [List.length_take]; omega) (fun x R hR => hR) (h _ ?_)⟩; have hkk : k = n - d := by omega
  have hlen : (x.take (d : Int).toNat).length = d := by rw [List.length_take]; omega
  rw [Bool.not_eq_true']; constructor
  .intro hb j hj; have h2 : ¬ (x.take (d : Int).toNat).any (fun x => decide (x ≠ 0)) = true := by rw [hb]; decide
   rw [ZP] at h2; have h3 : decide (vo (x.take (d : Int).toNat) j ≠ 0) = false := by
    cases hc3 : decide (vo (x.take (d : Int).toNat) j ≠ 0) with
    | false => rfl
    | true => exact absurd ⟨j, by omega, hc3⟩ h2
   rw [Jfc (by simpa using hj), hv j (by omega), hkk] at h3; have h4 := of_decide_eq_false h3; omega
  .intro hD; cases hb : (x.take (d : Int).toNat).any (fun x => decide (x ≠ 0)) with
   | false => rfl
   | true =>
    obtain ⟨i, hi, hf⟩ := ZP.1 hb; rw [Jfc (by simpa using (by omega : i < d)), hv i (by omega), hkk, hD i (by omega)] at hf; exact absurd hf (by decide)
theorem Jcl (o : LI) : vo (o ++ [(1 : Int)]) = fun i => if i = o.length then 1 else vo o i := by
 funext i; unfold vo; rw [List.getD_eq_getElem?_getD, List.getD_eq_getElem?_getD]; rcases Nat.lt_trichotomy i o.length with h | h | h
 .rw [List.getElem?_append_left h, if_neg (by omega)]
 .subst h; simp
 .rw [if_neg (by omega), List.getElem?_eq_none (by simp; omega), List.getElem?_eq_none (by omega)]
theorem Jlt {p : Nat} {o : LI} (hp : 2 <= p) (ho : Cn p o.length (vo o)) : Cn p (o.length + 1) (vo (o ++ [(1 : Int)])) := fun i hi => by
 rw [Jcl]; dsimp only; split
 .omega
 .exact ho i (by omega)
theorem Jjl {p : Nat} {l o : LI} {Q : Bool -> Prop} (hp : 2 <= p) (hp2 : p <= 256) (hl : Cn p l.length (vo l)) (ho : Cn p o.length (vo o)) (hd : 0 < l.length) (hdn : l.length <= o.length) (hn : o.length <= 1000)
  (h : ∀ b : Bool, (b = true ↔ Dvd p l.length (vo l) (fun i => if i = o.length then 1 else vo o i) (o.length + 1)) -> Q b) : Ys l o p Q := by
 unfold Ys; simp only [List.nil_append]; rw [<- Jcl] at h; have hcR := Jlt hp ho; have hnn : (o ++ [(1 : Int)]).length = o.length + 1 := by simp
 refine ⟨by omega, by omega, Jq (by omega) (by omega), ?_⟩; generalize hdd : l.length = d at *
 generalize hN : o.length + 1 = n at *
 generalize hoo : o ++ [(1 : Int)] = r at *
 refine ⟨fun x z => ∃ k : Nat, z = (n : Int) - 1 - k /\ k <= n - d /\ x.length = n /\ ∀ j, j < n -> vo x j = if j + k < n then rem p d (vo l) (vo r) n k j else 0, fun x z => (z + 1).toNat, ⟨0, by omega, by omega, hnn, fun j hj => by rw [if_pos (by omega)]; rfl⟩, ?_⟩; rintro x _ ⟨k, rfl, hk, hx, hv⟩; dsimp only; have hc := Jjy (d := d) (l := vo l) (n := n) (p := p) (by omega) hcR k; refine ⟨fun hle => ⟨⟨by omega, by omega⟩, ?_⟩, fun hgt => ?_⟩
 .obtain ⟨i, hi⟩ : ∃ i : Nat, (n : Int) - 1 - k = i := ⟨n - 1 - k, by omega⟩
  rw [hi]; have hin : i = n - 1 - k := by omega
  have hxi : vo x i = rem p d (vo l) (vo r) n k i := by rw [hv i (by omega), if_pos (by omega)]
  refine ⟨fun y z => ∃ t : Nat, z = t /\ t <= d /\ y.length = n /\ ∀ j, j < n -> vo y j = if i <= j + d /\ j + d < i + t then rem p d (vo l) (vo r) n (k + 1) j else vo x j, fun y z => (d - z).toNat, ⟨0, rfl, Nat.zero_le _, hx, fun j hj => by rw [if_neg (by omega)]⟩, ?_⟩; rintro y _ ⟨t, rfl, ht, hy, hw⟩; dsimp only; have e1 : (i : Int) - (d : Int) + (t : Int) = ((i - d + t : Nat) : Int) := by omega
  rw [e1, JM, JM, JM, J6, J6]; refine ⟨fun hlt => ?_, fun hge => ?_⟩
  .have hyj : vo y (i - d + t) = rem p d (vo l) (vo r) n k (i - d + t) := by rw [hw _ (by omega), if_neg (by omega), hv _ (by omega), if_pos (by omega)]
   have c1 := hl t (by omega); have c2 := hc i (by omega); have c3 := hc (i - d + t) (by omega); rw [hxi, hyj]; have c4 := ZA (a := (p : Int) - rem p d (vo l) (vo r) n k i) (b := vo l t) hp2 ⟨by omega, by omega⟩ ⟨c1.1, by omega⟩; refine ⟨Jq (by omega) (by omega), Jq (by omega) (by omega), Jq (by omega) (by omega), Jq (by omega) (by omega), ⟨by omega, by omega⟩, Jq (by omega) (by omega), ⟨by omega, by omega⟩, Jq (by omega) (by omega), Jq (by omega) (by omega), by omega, ⟨by omega, by omega⟩, Jq (by omega) (by omega), ⟨t + 1, by push_cast; rfl, by omega, by rw [List.length_set, hy], fun j hj => ?_⟩, by omega⟩; rw [J2]; by_cases hjt : i - d + t = j
   .subst hjt; rw [if_pos ⟨rfl, by omega⟩, if_pos (by omega), Jfj (by omega) c3.1 (by omega) c1.1]; show _ = rst p d (n - 1 - k) (vo l) (rem p d (vo l) (vo r) n k) (i - d + t); unfold rst; rw [<- hin, if_pos (by omega), show i - d + t + d - i = t by omega, Int.mul_comm]
   .rw [if_neg (fun h => hjt h.1), hw j hj]; by_cases hc2 : i <= j + d /\ j + d < i + t
    .rw [if_pos hc2, if_pos (by omega)]
    .rw [if_neg hc2, if_neg (by omega)]
  .refine ⟨⟨by omega, by omega⟩, Jq (by omega) (by omega), ⟨k + 1, by omega, by omega, by rw [List.length_set, hy], fun j hj => ?_⟩, by omega⟩; rw [J2]; by_cases hij : i = j
   .subst hij; rw [if_pos ⟨rfl, by omega⟩, if_neg (by omega)]
   .rw [if_neg (fun h => hij h.1), hw j hj]; have htd : t = d := by omega
    by_cases hc2 : i <= j + d /\ j + d < i + t
    .rw [if_pos hc2, if_pos (by omega)]
    .rw [if_neg hc2, hv j hj]; by_cases hjk : j + k < n
     .rw [if_pos hjk, if_pos (by omega)]; show _ = rst p d (n - 1 - k) (vo l) (rem p d (vo l) (vo r) n k) j; unfold rst; rw [<- hin, if_neg (by omega)]
     .rw [if_neg hjk, if_neg (by omega)]
 .have hkk : k = n - d := by omega
  refine ⟨fun z => ∃ t : Nat, z = t /\ t <= n /\ ∀ j, j < t -> vo x j = 0, fun z => (n - z).toNat, ⟨0, rfl, Nat.zero_le _, fun j hj => by omega⟩, ?_⟩; rintro _ ⟨t, rfl, ht, hz⟩; dsimp only; rw [JM]; refine ⟨fun hlt => ⟨⟨by omega, by omega⟩, fun hne => ?_, fun heq => ⟨Jq (by omega) (by omega), ⟨t + 1, by push_cast; rfl, by omega, fun j hj => ?_⟩, by omega⟩⟩, fun hge => ?_⟩
  .refine h false ⟨fun h' => absurd h' (by decide), fun hD => ?_⟩; rw [hv t (by omega)] at hne; by_cases hc2 : t + k < n
   .rw [if_pos hc2, hkk, hD t (by omega)] at hne; exact absurd rfl hne
   .rw [if_neg hc2] at hne; exact absurd rfl hne
  .by_cases hjt : j = t
   .subst hjt; omega
   .exact hz j (by omega)
  .refine h true ⟨fun _ j hj => ?_, fun _ => rfl⟩; have h1 := hz j (by omega); rw [hv j (by omega), if_pos (by omega), hkk] at h1; exact h1
theorem YP {p d w : Nat} (hw : w < p ^ d) : vo (dgi p d w) = dv p w := by
 funext i; rcases Nat.lt_or_ge i d with h | h
 .exact QU h
 .rw [Jb7 (by rw [JT]; exact h), Jq2 hw h]
theorem Jbx {p d w : Nat} (hp : 0 < p) (hw : w < p ^ d) (n : Nat) : Cn p n (vo (dgi p d w)) := by rw [YP hw]; exact Jex hp w n
theorem Jsp {p m : Nat} {mf : LI} {Q : Bool -> Prop} (hp : 2 <= p) (hp2 : p <= 256) (hm : mf.length = m) (hq : p ^ m <= 256) (hc : Cn p m (vo mf))
  (h : ∀ b : Bool, (b = true ↔ Irr p m (vo mf)) -> Q b) : QS p m mf Q := by
 have hm9 : m <= 8 := by
  rcases Nat.lt_or_ge 8 m with h1 | h1
  .have e1 : 2 ^ 9 <= p ^ 9 := Nat.pow_le_pow_left (by omega) 9; have e2 := Qn (p := p) (by omega) (show 9 <= m by omega); omega
  .exact h1
 refine Jar (by omega) ⟨by omega, ?_⟩; have hlen : (mf ++ [(1 : Int)]).length = m + 1 := by simp [hm]
 have hcs : Cn p (m + 1) (vo (mf ++ [(1 : Int)])) := by have := Jlt hp (o := mf) (by rw [hm]; exact hc); rwa [hm] at this
 have hpd : ∀ d, 2 * d <= m -> p ^ d <= 256 := fun d hd => Nat.le_trans (Qn (by omega) (by omega)) hq; refine ⟨fun a b => ∃ d : Nat, a = d /\ 1 <= d /\ 2 * (d - 1) <= m /\ b = ((p ^ d : Nat) : Int) /\ p ^ d <= 65536 /\ ∀ e, 0 < e -> e < d -> 2 * e <= m -> ∀ w, w < p ^ e -> ¬ Dvd p e (dv p w) (fun i => if i = m then 1 else vo mf i) (m + 1), fun a b => (20 - a).toNat, ⟨1, rfl, by omega, by omega, by simp, by simp; omega, fun e h1 h2 => by omega⟩, ?_⟩; rintro _ _ ⟨d, rfl, hd1, hd2, rfl, hdp, hnd⟩; dsimp only; refine ⟨Jq (by omega) (by omega), fun hle => ?_, fun hgt => ?_⟩
 .have hpd' := hpd d (by omega); refine ⟨fun z => ∃ w : Nat, z = w /\ w <= p ^ d /\ ∀ u, u < w -> ¬ Dvd p d (dv p u) (fun i => if i = m then 1 else vo mf i) (m + 1), fun z => ((p ^ d : Nat) - z).toNat, ⟨0, rfl, Nat.zero_le _, fun u hu => by omega⟩, ?_⟩; rintro _ ⟨w, rfl, hw, hnw⟩; dsimp only; refine ⟨fun hlt => ?_, fun hge => ?_⟩
  .have hw2 : w < p ^ d := by omega
   refine ⟨_, Jc7 (by omega) (by omega) (by omega) rfl, ?_⟩; have hdl := JT p d w; refine (?_ : ∃ r : Bool, YZ p (dgi p d w) (mf ++ [(1 : Int)]) (fun q => q = r) /\ _); by_cases hD : Dvd p d (dv p w) (fun i => if i = m then 1 else vo mf i) (m + 1)
   .refine ⟨true, Jen (by omega) hp2 (by rw [hdl]; exact Jbx (by omega) hw2 d) (by rw [hlen]; exact hcs) (by omega) (by omega) (by omega) fun b hb => ?_, fun _ => ?_, fun h' => absurd h' (by decide)⟩
    .rw [hdl, hlen, YP hw2, Jcl, hm] at hb; exact hb.2 hD
    .exact h false ⟨fun h' => absurd h' (by decide), fun hI => absurd hD (hI d (by omega) (by omega) w hw2)⟩
   .refine ⟨false, Jen (by omega) hp2 (by rw [hdl]; exact Jbx (by omega) hw2 d) (by rw [hlen]; exact hcs) (by omega) (by omega) (by omega) fun b hb => ?_, fun h' => absurd h' (by decide), fun _ => ?_⟩
    .rw [hdl, hlen, YP hw2, Jcl, hm] at hb; cases b with
     | false => rfl
     | true => exact absurd (hb.1 rfl) hD
    .refine ⟨Jq (by omega) (by omega), ⟨w + 1, by push_cast; rfl, by omega, fun u hu => ?_⟩, by omega⟩; by_cases huw : u = w
     .subst huw; exact hD
     .exact hnw u (by omega)
  .have e1 : ((p ^ d : Nat) : Int) * (p : Int) = ((p ^ (d + 1) : Nat) : Int) := by rw [Nat.pow_succ]; push_cast; rfl
   have hb2 : p ^ (d + 1) <= 65536 := by
    rw [Nat.pow_succ]; have := Nat.mul_le_mul hpd' hp2; omega
   rw [e1]; refine ⟨Jq (by omega) (by omega), Q8 (by omega), ⟨d + 1, by push_cast; rfl, by omega, by omega, rfl, hb2, fun e he0 he h2 u hu => ?_⟩, by omega⟩; by_cases hed : e = d
   .subst hed; exact hnw u (by omega)
   .exact hnd e he0 (by omega) h2 u hu
 .exact h true ⟨fun _ e he0 h2 u hu => hnd e he0 (by omega) h2 u hu, fun _ => rfl⟩
theorem v_rirr {p m : Nat} {mf : LI} {Q : Bool -> Prop} (hp : 2 <= p) (hp2 : p <= 256) (hm : mf.length = m) (hq : p ^ m <= 256) (hc : Cn p m (vo mf))
  (h : ∀ b : Bool, (b = true ↔ Irr p m (vo mf)) -> Q b) : Jd6 mf p Q := by
 have hm9 : m <= 8 := by
  rcases Nat.lt_or_ge 8 m with h1 | h1
  .have e1 : 2 ^ 9 <= p ^ 9 := Nat.pow_le_pow_left (by omega) 9; have e2 := Qn (p := p) (by omega) (show 9 <= m by omega); omega
  .exact h1
 unfold Jd6; rw [hm]; have hpd : ∀ d, 2 * d <= m -> p ^ d <= 256 := fun d hd => Nat.le_trans (Qn (by omega) (by omega)) hq; refine ⟨fun b a => ∃ d : Nat, a = d + 1 /\ 2 * d <= m /\ b = ((p ^ d : Nat) : Int) /\ ∀ e, 0 < e -> e <= d -> 2 * e <= m -> ∀ w, w < p ^ e -> ¬ Dvd p e (dv p w) (fun i => if i = m then 1 else vo mf i) (m + 1), fun b a => (20 - a).toNat, ⟨0, rfl, by omega, by simp, fun e h1 h2 => by omega⟩, ?_⟩; rintro _ _ ⟨d, rfl, hd2, rfl, hnd⟩; dsimp only; have hpd' := hpd d hd2; refine ⟨Jq (by omega) (by omega), fun hle => ?_, fun hgt => ?_⟩
 .have e1 : ((p ^ d : Nat) : Int) * (p : Int) = ((p ^ (d + 1) : Nat) : Int) := by rw [Nat.pow_succ]; push_cast; rfl
  have hpd2 := hpd (d + 1) (by omega); rw [e1]; refine ⟨Q8 (by omega), ?_⟩; refine ⟨fun z => ∃ w : Nat, z = w /\ w <= p ^ (d + 1) /\ ∀ u, u < w -> ¬ Dvd p (d + 1) (dv p u) (fun i => if i = m then 1 else vo mf i) (m + 1), fun z => ((p ^ (d + 1) : Nat) - z).toNat, ⟨0, rfl, Nat.zero_le _, fun u hu => by omega⟩, ?_⟩; rintro _ ⟨w, rfl, hw, hnw⟩; dsimp only; rw [show (d : Int) + 1 = ((d + 1 : Nat) : Int) by push_cast; rfl]; refine ⟨fun hlt => ?_, fun hge => ?_⟩
  .have hw2 : w < p ^ (d + 1) := by omega
   have hdl := JT p (d + 1) w; refine Jel (by omega) (by omega) (by omega) (Jjl hp hp2 (by rw [hdl]; exact Jbx (by omega) hw2 _) (by rw [hm]; exact hc) (by omega) (by omega) (by omega) fun b hb => ?_); rw [hdl, hm, YP hw2] at hb; refine ⟨fun hb1 => ?_, fun hb0 => ?_⟩
   .exact h false ⟨fun h' => absurd h' (by decide), fun hI => absurd (hb.1 hb1) (hI (d + 1) (by omega) (by omega) w hw2)⟩
   .refine ⟨Jq (by omega) (by omega), ⟨w + 1, by push_cast; rfl, by omega, fun u hu => ?_⟩, by omega⟩; by_cases huw : u = w
    .subst huw; intro hD; rw [hb.2 hD] at hb0; exact absurd hb0 (by decide)
    .exact hnw u (by omega)
  .refine ⟨Jq (by omega) (by omega), ⟨d + 1, rfl, by omega, rfl, fun e he0 he h2 u hu => ?_⟩, by omega⟩; by_cases hed : e = d + 1
   .subst hed; exact hnw u (by omega)
   .exact hnd e he0 (by omega) h2 u hu
 .exact h true ⟨fun _ e he0 h2 u hu => hnd e he0 (by omega) h2 u hu, fun _ => rfl⟩
structure FV (P M : Int) (mf : LI) (p m v : Nat) : Prop where
  eP : P = p
  eM : M = m
  pr : IsLf p p
  m0 : 0 < m
  q : p ^ m <= 256
  vlt : v < p ^ m
  m1 : m = 1 -> mf = [] /\ v = 0
  m2 : m ≠ 1 -> mf = dgi p m v
  irr : Irr p m (dv p v)
def Yg (P M : Int) (mf : LI) : Prop := ∃ p m v, FV P M mf p m v
open Classical in
noncomputable def ck (P M : Int) (mf : LI) : Int := if Yg P M mf then 0 else 1
theorem Jdz {P M : Int} {mf : LI} (h : Yg P M mf) : ck P M mf = 0 := if_pos h
theorem Yf {P M : Int} {mf : LI} (h : ¬ Yg P M mf) : ck P M mf = 1 := if_neg h
theorem Jto (p : Nat) (c : Vec) : Irr p 1 c := fun d h1 h2 => by omega
theorem Jbe {p : Nat} (hp : IsLf p p) (hq : p <= 256) : FV p ((1 : Nat) : Int) [] p 1 0 := ⟨rfl, rfl, hp, by omega, by simpa using hq, by have := hp.two; simp; omega, fun _ => ⟨rfl, rfl⟩, fun h => absurd rfl h, Jto p _⟩
theorem Jmj {p m : Nat} {mf : LI} (hp : 0 < p) (hl : mf.length = m) (hc : Cn p m (vo mf)) : nm p m (vo mf) < p ^ m /\ mf = dgi p m (nm p m (vo mf)) /\ vo mf = dv p (nm p m (vo mf)) := by
 have hlt := Z6 (m := m) hp (vo mf); have he : mf = dgi p m (nm p m (vo mf)) := Ym (by rw [hl, JT]) fun i hi => by
  have h1 := hc i (by omega); rw [QU (by omega), Jmi hp _ (by omega), Int.emod_eq_of_lt h1.1 h1.2]
 exact ⟨hlt, he, by have := congrArg vo he; rw [YP hlt] at this; exact this⟩
theorem FV.cn {P M : Int} {mf : LI} {p m v : Nat} (h : FV P M mf p m v) (hm : m ≠ 1) : mf.length = m /\ Cn p m (vo mf) /\ Irr p m (vo mf) := by
 have := h.pr.two; rw [h.m2 hm]; exact ⟨JT p m v, Jbx (by omega) h.vlt m, by rw [YP h.vlt]; exact h.irr⟩
theorem FV.vo {P M : Int} {mf : LI} {p m v : Nat} (h : FV P M mf p m v) : Go.Proofs.Ytjgpkljepgcekaa.vo mf = dv p v := by
 by_cases hm : m = 1
 .rw [(h.m1 hm).1, (h.m1 hm).2, Jdx]; rfl
 .rw [h.m2 hm, YP h.vlt]
theorem Jsq {P M : Int} {mf : LI} {Q : Int -> Prop} (h : Q (ck P M mf)) : Jc0 P M mf Q := by
 refine ⟨fun h1 => ?_, fun h1 => Jne (by omega) fun b hb => ⟨fun hb0 => ?_, fun hb1 => ?_⟩⟩
 .rw [Yf] at h
  .exact h
  .rintro ⟨p, m, v, hV⟩; have e1 := Qn (p := p) (by have := hV.pr.two; omega) hV.m0; have := hV.q; have := hV.eP; rw [show p ^ (0 + 1) = p from Nat.pow_one p] at e1; omega
 .rw [Yf] at h
  .exact h
  .rintro ⟨p, m, v, hV⟩; have := hV.pr.two; have : b = true := hb.2 ⟨by rw [hV.eP]; omega, by rw [hV.eP]; exact hV.pr⟩; rw [this] at hb0; exact absurd hb0 (by decide)
 .have hbt : b = true := by cases b <;> first | rfl | exact absurd hb1 (by decide)
  obtain ⟨hP2, hPr⟩ := hb.1 hbt; obtain ⟨p, rfl⟩ := Int.eq_ofNat_of_zero_le (show 0 <= P by omega); rw [Int.toNat_natCast] at hPr; refine ⟨fun h2 => ?_, fun h2 => Jfa (by omega) (by omega) fun r hr1 hr2 => ⟨fun h3 => ?_, fun h3 => ?_⟩⟩
  .rw [Yf] at h
   .exact h
   .rintro ⟨p', m, v, hV⟩; have := hV.m0; have := hV.eM; omega
  .rw [Yf] at h
   .exact h
   .rintro ⟨p', m, v, hV⟩; have e1 := hV.eM; have e2 := hV.eP; have e3 := hV.q; have : p = p' := by omega
    subst this; rw [e1, Int.toNat_natCast] at hr1; have := hr1 e3; omega
  .obtain ⟨m, rfl⟩ := Int.eq_ofNat_of_zero_le (show 0 <= M by omega); rw [Int.toNat_natCast] at hr1 hr2; have hq : p ^ m <= 256 := by
    rcases Nat.lt_or_ge 256 (p ^ m) with hc | hc
    .exact absurd (hr2 hc) h3
    .exact hc
   refine ⟨fun h4 => Jpd ?_, fun h4 => ⟨fun h5 => ?_, fun h5 => ?_⟩⟩
   .have hm1 : m = 1 := by omega
    subst hm1; by_cases hl : mf = []
    .subst hl; rw [Jdz ⟨_, _, _, Jbe hPr (by omega)⟩] at h
     simpa using h
    .rw [Yf] at h
     .simpa [hl] using h
     .rintro ⟨p', m, v, hV⟩; exact hl (hV.m1 (by have := hV.eM; omega)).1
   .rw [Yf] at h
    .exact h
    .rintro ⟨p', m', v, hV⟩; have e1 := hV.eM; have := (hV.cn (by omega)).1; omega
   .have hlen : mf.length = m := by omega
    have hm8 : mf.length <= 1000000000 := by
     have := Nat.lt_two_pow_self (n := m); have e1 : 2 ^ m <= p ^ m := Nat.pow_le_pow_left (by omega) m; omega
    refine Jc8 (f := fun x => if x < 0 then true else decide ((p : Int) <= x)) hm8 (fun x R hR => ⟨fun hx => by simpa [hx] using hR, fun hx => by simpa [hx] using hR⟩) ⟨fun hb6 => ?_, fun hb6 => ?_⟩
    .rw [Yf] at h
     .exact h
     .rintro ⟨p', m', v, hV⟩; have e1 := hV.eM; have e2 := hV.eP; have e3 : p = p' := by omega
      have e4 : m = m' := by omega
      subst e3; subst e4; obtain ⟨i, hi, hf⟩ := ZP.1 hb6; have hcn := (hV.cn (by omega)).2.1 i (by omega); rw [if_neg (by omega)] at hf; have := of_decide_eq_true hf; omega
    .have hcn : Cn p m (vo mf) := fun i hi => by
      have h6 : ¬ mf.any (fun x => if x < 0 then true else decide ((p : Int) <= x)) = true := by rw [hb6]; decide
      rw [ZP] at h6; by_cases hx : vo mf i < 0
      .exact absurd ⟨i, by omega, by rw [if_pos hx]⟩ h6
      .by_cases hx2 : (p : Int) <= vo mf i
       .exact absurd ⟨i, by omega, by rw [if_neg hx, decide_eq_true hx2]⟩ h6
       .omega
     have hcl := Jmj (by omega) hlen hcn; refine Jsp (by omega) (by omega) hlen hq hcn fun b2 hb2 => Jpd ?_; by_cases hI : Irr p m (vo mf)
     .rw [hb2.2 hI, if_pos rfl]; rw [Jdz ⟨p, m, nm p m (vo mf), rfl, rfl, hPr, by omega, hq, hcl.1, fun e => by omega, fun _ => hcl.2.1, by rw [<- hcl.2.2]; exact hI⟩] at h; exact h
     .rw [if_neg (fun e => hI (hb2.1 e))]; rw [Yf] at h
      .exact h
      .rintro ⟨p', m', v, hV⟩; have e1 := hV.eM; have e2 := hV.eP; have e3 : p = p' := by omega
       have e4 : m = m' := by omega
       subst e3; subst e4; exact hI (hV.cn (by omega)).2.2
theorem Jg8 {P M : Int} {mf : LI} {Q : Int -> Prop} (h : Q (ck P M mf)) : ZB P M mf Q := by
 refine Jaq ⟨fun h0 => ?_, fun h0 => ?_⟩
 .rw [Yf] at h
  .exact h
  .rintro ⟨p, m, v, hV⟩; have h1 := hV.pr.two; have h2 := hV.m0; have h3 := hV.q; rw [hV.eP, hV.eM, Jee, if_pos ⟨by omega, by omega, by simpa using h3⟩] at h0; have h4 : 0 < p ^ m := Nat.pow_pos (by omega); simp only [Int.toNat_natCast] at h0; omega
 .unfold Jee at h0; by_cases hc : 2 <= P /\ 1 <= M /\ P.toNat ^ M.toNat <= 256
  .obtain ⟨h1, h2, hq⟩ := hc; obtain ⟨p, rfl⟩ := Int.eq_ofNat_of_zero_le (show 0 <= P by omega); obtain ⟨m, rfl⟩ := Int.eq_ofNat_of_zero_le (show 0 <= M by omega); simp only [Int.toNat_natCast] at hq; have hp256 : p <= 256 := by
    have := Qn (p := p) (by omega) (show 1 <= m by omega); rw [Nat.pow_one] at this; omega
   refine Jpa (by omega) hp256 fun b hb => ⟨fun hb0 => ?_, fun hb1 => ?_⟩
   .rw [Yf] at h
    .exact h
    .rintro ⟨p', m', v, hV⟩; have e2 := hV.eP; have e3 : p = p' := by omega
     subst e3; rw [hb.2 hV.pr] at hb0; exact absurd hb0 (by decide)
   .have hbt : b = true := by cases b <;> first | rfl | exact absurd hb1 (by decide)
    have hPr := hb.1 hbt; refine ⟨fun h4 => ⟨fun h5 => ?_, fun h5 => ?_⟩, fun h4 => ⟨fun h5 => ?_, fun h5 => ?_⟩⟩
    .rw [Yf] at h
     .exact h
     .rintro ⟨p', m', v, hV⟩; have e1 := hV.eM; have := (hV.m1 (by omega)).1; rw [this] at h5; exact h5 rfl
    .have hm1 : m = 1 := by omega
     subst hm1; have hl : mf = [] := List.length_eq_zero_iff.1 (by omega); subst hl; rw [Jdz ⟨_, _, _, Jbe hPr hp256⟩] at h; exact h
    .rw [Yf] at h
     .exact h
     .rintro ⟨p', m', v, hV⟩; have e1 := hV.eM; have := (hV.cn (by omega)).1; omega
    .have hlen : mf.length = m := by omega
     refine ⟨fun z => ∃ k : Nat, z = k /\ k <= m /\ Cn p k (vo mf), fun z => (m - z).toNat, ⟨0, rfl, Nat.zero_le _, fun i hi => by omega⟩, ?_⟩; rintro _ ⟨k, rfl, hk, hcn⟩; dsimp only; rw [JM]; have hno : ¬ (0 <= vo mf k /\ vo mf k < p) -> k < m -> ¬ Yg p m mf := by
      rintro hbad hkm ⟨p', m', v, hV⟩; have e1 := hV.eM; have e2 := hV.eP; have e3 : p = p' := by omega
      have e4 : m = m' := by omega
      subst e3; subst e4; exact hbad ((hV.cn (by omega)).2.1 k hkm)
     have hm8 : m <= 1000000000 := by
      have := Nat.lt_two_pow_self (n := m); have e1 : 2 ^ m <= p ^ m := Nat.pow_le_pow_left (by omega) m; omega
     refine ⟨fun hlt => ⟨fun hneg => ⟨⟨by omega, by omega⟩, ?_⟩, fun hpos => ⟨⟨by omega, by omega⟩, ⟨by omega, by omega⟩, fun hbig => ?_, fun hsm => ⟨Jq (by omega) (by omega), ⟨k + 1, by push_cast; rfl, by omega, fun i hi => ?_⟩, by omega⟩⟩⟩, fun hge => ?_⟩
     .rw [Yf (hno (by omega) (by omega))] at h; exact h
     .rw [Yf (hno (by omega) (by omega))] at h; exact h
     .by_cases hik : i = k
      .subst hik; omega
      .exact hcn i (by omega)
     .have hkm : k = m := by omega
      subst hkm; have hcl := Jmj (by omega) hlen hcn; refine v_rirr (by omega) hp256 hlen hq hcn fun b2 hb2 => ⟨fun hb3 => ?_, fun hb3 => ?_⟩
      .rw [Yf] at h
       .exact h
       .rintro ⟨p', m', v, hV⟩; have e1 := hV.eM; have e2 := hV.eP; have e3 : p = p' := by omega
        have e4 : k = m' := by omega
        subst e3; subst e4; rw [hb2.2 (hV.cn (by omega)).2.2] at hb3; exact absurd hb3 (by decide)
      .have hbt2 : b2 = true := by cases b2 <;> first | rfl | exact absurd hb3 (by decide)
       rw [Jdz ⟨p, k, nm p k (vo mf), rfl, rfl, hPr, by omega, hq, hcl.1, fun e => by omega, fun _ => hcl.2.1, by rw [<- hcl.2.2]; exact hb2.1 hbt2⟩] at h; exact h
  .rw [if_neg hc] at h0; exact absurd rfl h0
end Go.Proofs.Ytjgpkljepgcekaa
