/- Contracts of functions of the program, and what they lean on: D34, D36, Xq, Cd, D33, D37, Dt, Fa, Fb, Fg, Fp, Fk, Fc, V1. -/
import Derived.Test.YtjgpkljepgcekaaClassicResidueG5
import Derived.Lib.AppendZeros
set_option linter.unusedSimpArgs false
set_option linter.unusedVariables false
set_option maxRecDepth 4000
set_option maxHeartbeats 4000000
namespace Go.Proofs.Ytjgpkljepgcekaa
open Go.RowKit
def Jre  (Q : Int × Int × LI -> Prop) : Prop :=
  Q ((2 : Int), (1 : Int), ([] : LI))
theorem ok_Two {w : World} {Q : Int × Int × LI -> Prop}   (hv : Jre  Q) :
  Calls Try.prog 34 #[] w <| Rt w fun v Qr => ∃ (p0 : Int) (m0 : Int) (r0 : LI) (A0 : Option Addr) (k0 : Nat), v = .agg #[.int .i64 p0, .int .i64 m0, .slice A0 r0.length k0] /\ Qr = [.row 3 1 A0 r0.length k0 (is r0)] /\ Q (p0, m0, r0) := by
 refine Ji <| J4 (vs := []) [.cell 0 24] XF34 rfl rfl rfl rfl ?_; have hS := Jp w; unfold Jre at hv; refine Jc 2 <| SL.alloc (cs := [nI 0, nI 0, .slice none 0 0]) hS J3 rfl rfl ?_; intro g11 w12 hS; refine Ja <| Jc 2 <| J5 (cells := #[nI 2, nI 1, .slice none 0 0]) XB24 rfl rfl rfl <| Jz (cs := [nI 2, nI 1, .slice none 0 0]) 0 hS rfl J3 rfl rfl rfl rfl rfl ?_; intro w13 hS; refine Ja <| W.ret ?_; have hS := hS.nil (e := 3) (z := 1)
 change St _ _ _ _ [_, _] at hS
 repeat with_reducible first | refine blk.ret ?_ | refine exits.retI ?_
 refine endC.mk ⟨[.agg #[nI 2, nI 1, .slice none 0 0]], ⟨_, _, _, rfl, rfl, JE (cs := [nI 2, nI 1, .slice none 0 0]) J3 Qd rfl (Jw (hS.own (i := 1) rfl)), rfl⟩, ?_⟩; exact (hS.pick [0] rfl).fin rfl ⟨(2 : Int), (1 : Int), ([] : LI), none, 0, rfl, rfl, hv⟩
def ZJ (y : LI) (Q : LL -> Prop) : Prop :=
  ∃ (I29 : LL -> Int -> Prop) (μ30 : LL -> Int -> Nat), I29 ([] : LL) (0 : Int) /\ ∀ (x24 : LL) (z28 : Int), (I29 x24 z28 -> (((z28 < (y.length : Int)) -> ((0 <= (y.length : Int) /\ (y.length : Int) * 8 <= 281474976710656 /\ (y.length : Int) <= 281474976710656) /\ (∃ (I43 : LI -> Int -> Prop) (μ44 : LI -> Int -> Nat), I43 (List.replicate (y.length : Int).toNat (0 : Int)) (0 : Int) /\ ∀ (x41 : LI) (z42 : Int), (I43 x41 z42 -> (((z42 < (y.length : Int)) -> ((I64 (z42 + z28)) /\ (((y.length : Int) ≠ 0) /\ ((0 <= z42 /\ z42 < (y.length : Nat)) /\ ((0 <= ((z42 + z28).tmod (y.length : Int)) /\ ((z42 + z28).tmod (y.length : Int)) < ((y.length : Int).toNat : Nat)) /\ ((I64 (z42 + 1)) /\ (I43 (si x41 ((z42 + z28).tmod (y.length : Int)) (gi y z42)) (z42 + 1) /\ μ44 (si x41 ((z42 + z28).tmod (y.length : Int)) (gi y z42)) (z42 + 1) < μ44 x41 z42))))))) /\ (¬ (z42 < (y.length : Int)) -> ((((x24.length : Nat) + (1 : Nat) : Int) * 24 <= 140737488355328) /\ ((I64 (z28 + 1)) /\ (I29 (x24 ++ [x41]) (z28 + 1) /\ μ30 (x24 ++ [x41]) (z28 + 1) < μ30 x24 z28))))))))) /\ (¬ (z28 < (y.length : Int)) -> Q x24)))
theorem Ji9 {w : World} {Q : LL -> Prop} {y : LI} {By : Nat} {Ay : Option Addr} {ny ky : Nat} (hy : Rd By w 1 Ay ny ky (is y)) (hv : ZJ y Q) :
   Calls Try.prog 70 #[.slice Ay ny ky] w <| Rt w fun v Qr => ∃ (r0 : LL) (A0 : Option Addr) (k0 : Nat) (hs0 : Hs), v = .slice A0 r0.length k0 /\ Qr = [mx 22 3 A0 r0.length k0 hs0 r0] /\ Q r0 := by
 have hny := hy.ilen; subst hny; refine Ji <| Jh (vs := [nS Ay y ky]) [2] XF70 rfl rfl rfl rfl ?_; have hS := Jp w; unfold ZJ at hv; refine Jc 6 <| Q4 (vs := []) hS JA Ju rfl rfl rfl rfl (by simp [Value.oneCell']) rfl ?_; intro A11 w12 hS; have hS := Jri (L := []) (eI := 3) [] [] (by simp [JD, Jm5]) (by simp [inr, Jm5]) hS
 change St _ _ _ _ [_] at hS
 refine Jb 2 <| Jc 5 <| W.block ?_; obtain ⟨I29, μ30, hv, hk74⟩ := hv; have hm0 : 0 = ([] : LL).length := (hS.mxlen (i := 0) rfl).symm; have hS := hS.relenMx (i := 0) rfl hm0
 change St _ _ _ _ [_] at hS
 refine JB (σ := LL × Int × Option Addr × Nat × Hs) (fun q w1 => match q with | (x24, z28, A25, k26, hs27) => I29 x24 z28 /\ St TT w none w1 [mx 22 3 A25 x24.length k26 hs27 x24]) (fun (x24, z28, A25, k26, hs27) => [(0, nS Ay y ky), (2, .slice none 0 0), (3, nS A25 x24 k26), (4, nI z28)]) (fun (x24, z28, A25, k26, hs27) => μ30 x24 z28) (([] : LL), (0 : Int), A11, 0, (Jm5 [])) ⟨hv, hS⟩ ⟨rfl, rfl, (sm (by first | rfl | assumption | omega)), rfl, trivial⟩ ?_; rintro ⟨x24, z28, A25, k26, hs27⟩ w31 ⟨hv, hS⟩; have hv := hk74 x24 z28 hv; refine Jc 5 <| WL.len Jo rfl rfl <| Jb 2 <| Jg rfl (fun c32 => ?_) (fun c32 => ?_)
 .have hv := hv.1 (oT c32); refine Jm <| Jr <| W.block <| Jc 3 <| WL.len Jo rfl rfl ?_; obtain ⟨o33, hv⟩ := hv; refine Qn (J := (y.length : Int)) hS Jo XE3 rfl rfl o33 (Qt _) rfl ?_; intro A34 w35 hS; refine Jb 2 <| Jc 5 <| W.block ?_; obtain ⟨I43, μ44, hv, hk73⟩ := hv; refine JB (σ := LI × Int) (fun q w1 => match q with | (x41, z42) => I43 x41 z42 /\ St TT w none w1 [.row 3 1 A34 ((y.length : Int).toNat) ((y.length : Int).toNat) (is x41), mx 22 3 A25 x24.length k26 hs27 x24]) (fun (x41, z42) => [(0, nS Ay y ky), (2, .slice none 0 0), (3, nS A25 x24 k26), (4, nI z28), (5, .slice A34 ((y.length : Int).toNat) ((y.length : Int).toNat)), (6, nI z42), (11, .bool (decide (z28 < (y.length : Int))))]) (fun (x41, z42) => μ44 x41 z42) (List.replicate (y.length : Int).toNat (0 : Int), (0 : Int)) ⟨hv, hS⟩ ⟨rfl, rfl, rfl, rfl, rfl, rfl, rfl, trivial⟩ ?_; rintro ⟨x41, z42⟩ w45 ⟨hv, hS⟩; have hv := hk73 x41 z42 hv; refine Jc 5 <| WL.len Jo rfl rfl <| Jb 2 <| Jg rfl (fun c46 => ?_) (fun c46 => ?_)
  .have hv := hv.1 (oT c46); refine Jm <| Jr <| W.block ?_; obtain ⟨o51, hv⟩ := hv; obtain ⟨o55, hv⟩ := hv; obtain ⟨o59, hv⟩ := hv; refine JT 11 [⟨[], [5], true⟩, ⟨[], [6], true⟩, ⟨[], [4], true⟩, ⟨[1, 2], [], true⟩, ⟨[], [0], true⟩, ⟨[4], [], true⟩, ⟨[3, 5], [], true⟩, ⟨[], [0], true⟩, ⟨[], [6], true⟩, ⟨[7, 8], [], true⟩, ⟨[9], [], false⟩] [(23, .slice A34 ((y.length : Int).toNat) ((y.length : Int).toNat)), (24, nI z42), (25, nI z28), (26, nI (z42 + z28)), (27, nS Ay y ky), (28, nI (y.length : Int)), (29, nI ((z42 + z28).tmod (y.length : Int))), (30, nS Ay y ky), (31, nI z42), (32, .pointer (some ((JJ Ay).add z42.toNat))), (33, nI (gi y z42))] Try.mixed (by kernel_rfl) rfl rfl ?_ ?_
   .refine ⟨oD, oD, oD, fun _ _ _ => WL.add (r := (z42 + z28)) rfl rfl (wr o51) rfl <| Ja ⟨rfl, rfl⟩, oD, fun _ _ _ => WL.len Jo rfl rfl <| Ja ⟨rfl, rfl⟩, fun _ _ _ => J6 (r := ((z42 + z28).tmod (y.length : Int))) rfl rfl o55 rfl rfl <| Ja ⟨rfl, rfl⟩, oD, oD, fun _ _ _ => Jf Jo XE3 (hS.ro hy) rfl rfl o59 rfl <| Ja ⟨rfl, rfl⟩, og hS fun _ _ hS => Jj XU3 rfl rfl (JH (hS.ro hy) o59) rfl <| Ja ⟨rfl, Jd _⟩, trivial⟩
   intro w61 hT; have hS := hS.grow hT; refine Jl 11 rfl ?_; obtain ⟨o62, hv⟩ := hv; refine Jf Jo XE3 (hS.rd (i := 0) rfl) rfl rfl o62 rfl <| Ja <| Jl 12 rfl <| Jy (cs' := is (si x41 ((z42 + z28).tmod (y.length : Int)) (gi y z42))) 0 ((z42 + z28).tmod (y.length : Int)).toNat hS rfl XE3 rfl rfl rfl (Qp (hS.rd (i := 0) rfl) o62) (J9 _ _ _) ?_; intro w63 hS; refine Ja <| JK <| Jc 2 ?_; obtain ⟨o64, hv⟩ := hv; refine WL.add (r := (z42 + 1)) rfl rfl (wr o64) rfl <| Jb 2 ?_; exact ⟨(si x41 ((z42 + z28).tmod (y.length : Int)) (gi y z42), (z42 + 1)), sp rfl, hv.2, rfl, hv.1, hS⟩
  have hv := hv.2 (oF c46); refine Jv <| Jc 3 <| Q4 (vs := [.slice A34 ((y.length : Int).toNat) ((y.length : Int).toNat)]) hS JA Ju rfl rfl rfl rfl (by simp [Value.oneCell']) rfl ?_; intro A65 w66 hS; obtain ⟨o68, hv⟩ := hv; have hS := hS.pick [2, 0, 1] rfl; have hS := hS.pick [1, 2, 0] rfl; have hS := Jig (hS.rd (i := 1) rfl).ilen.symm hS
  change St _ _ _ _ [_, _] at hS
  refine Jb1 hS JA Ju rfl rfl (apk o68).1 (apk o68).2 rfl ?_; intro A69 k70 w71 hS; refine Jb 2 <| Jc 2 ?_; obtain ⟨o72, hv⟩ := hv; refine WL.add (r := (z28 + 1)) rfl rfl (wr o72) rfl <| Jb 2 ?_; exact ⟨(x24 ++ [x41], (z28 + 1), A69, k70, (Jb5 x24.length hs27 (fun _ => (A34, (y.length : Int).toNat)))), sp rfl, hv.2, rfl, hv.1, hS⟩
 have hv := hv.2 (oF c32); refine Jv <| Jc 5 <| W.ret <| ⟨_, rfl, Fin.nil ?_⟩
 exact (hS.pick [0] rfl).fin rfl ⟨x24, A25, k26, hs27, rfl, rfl, hv⟩
def Yx (n : Int) (Q : Bool -> Prop) : Prop :=
  ((n < 3) -> Q false) /\ (¬ (n < 3) -> ((((64 : Int) < n) -> Q false) /\ (¬ ((64 : Int) < n) -> ((((n.tmod (8 : Int)) ≠ 1) -> ((((n.tmod (8 : Int)) ≠ 7) -> Q false) /\ (¬ ((n.tmod (8 : Int)) ≠ 7) -> (∃ (I18 : Int -> Prop) (μ19 : Int -> Nat), I18 2 /\ ∀ (z17 : Int), (I18 z17 -> (((z17 < n) -> ((z17 ≠ 0) /\ ((((n.tmod z17) = (0 : Int)) -> Q false) /\ (¬ ((n.tmod z17) = (0 : Int)) -> ((I64 (z17 + 1)) /\ (I18 (z17 + 1) /\ μ19 (z17 + 1) < μ19 z17)))))) /\ (¬ (z17 < n) -> Q true))))))) /\ (¬ ((n.tmod (8 : Int)) ≠ 1) -> (∃ (I29 : Int -> Prop) (μ30 : Int -> Nat), I29 2 /\ ∀ (z28 : Int), (I29 z28 -> (((z28 < n) -> ((z28 ≠ 0) /\ ((((n.tmod z28) = (0 : Int)) -> Q false) /\ (¬ ((n.tmod z28) = (0 : Int)) -> ((I64 (z28 + 1)) /\ (I29 (z28 + 1) /\ μ30 (z28 + 1) < μ30 z28)))))) /\ (¬ (z28 < n) -> Q true)))))))))
theorem Jfi {w : World} {Q : Bool -> Prop} {n : Int}  (hv : Yx n Q) :
   Calls Try.prog 37 #[.int .i64 n] w <| Rt w fun v Qr => ∃ (r0 : Bool), v = .bool r0 /\ Qr = [] /\ Q r0 := by
 refine Ji <| Jh (vs := [nI n]) [2] XF37 rfl rfl rfl rfl ?_; have hS := Jp w; unfold Yx at hv; refine Jc 9 <| Jk rfl rfl ?_; by_cases g11 : n < 3
 .have hv := hv.1 g11; rw [decide_eq_true g11]; refine Jb 8 <| J1 rfl rfl <| J1 rfl rfl <| J1 rfl rfl <| Jb 3 <| Qb rfl <| Jc 4 <| W.ret <| ⟨_, rfl, Fin.nil ?_⟩
  exact (hS.pick [] rfl).fin rfl ⟨false, rfl, rfl, hv⟩
 have hv := hv.2 g11; rw [decide_eq_false g11]; refine Jb 5 <| Jk rfl rfl ?_; by_cases g12 : (64 : Int) < n
 .have hv := hv.1 g12; rw [decide_eq_true g12]; refine Jb 4 <| J1 rfl rfl <| J1 rfl rfl <| J1 rfl rfl <| Jb 3 <| Qb rfl <| Jc 4 <| W.ret <| ⟨_, rfl, Fin.nil ?_⟩
  exact (hS.pick [] rfl).fin rfl ⟨false, rfl, rfl, hv⟩
 have hv := hv.2 g12; rw [decide_eq_false g12]; refine Jb 3 <| J6 (r := (n.tmod (8 : Int))) rfl rfl (by decide) rfl rfl <| Jb 3 <| Jk rfl rfl ?_; by_cases g13 : (n.tmod (8 : Int)) ≠ 1
 .have hv := hv.1 g13; rw [decide_eq_true g13]; refine Jb 3 <| J6 (r := (n.tmod (8 : Int))) rfl rfl (by decide) rfl rfl <| Jb 6 <| Jg rfl (fun c14 => ?_) (fun c14 => ?_)
  .have hv := hv.1 (oT c14); refine Jc 4 <| W.ret <| ⟨_, rfl, Fin.nil ?_⟩
   exact (hS.pick [] rfl).fin rfl ⟨false, rfl, rfl, hv⟩
  have hv := hv.2 (oF c14); refine Jm <| Jc 5 <| W.block ?_; obtain ⟨I18, μ19, hv, hk25⟩ := hv; refine JB (σ := Int) (fun z17 w1 => I18 z17 /\ St TT w none w1 []) (fun z17 => [(0, nI n), (2, .bool false), (3, nI z17)]) (fun z17 => μ19 z17) (2 : Int) ⟨hv, hS⟩ ⟨rfl, rfl, rfl, trivial⟩ ?_; rintro z17 w20 ⟨hv, hS⟩; have hv := hk25 z17 hv; refine Jc 7 <| Jg rfl (fun c21 => ?_) (fun c21 => ?_)
  .have hv := hv.1 (oT c21); refine Jm <| Jr <| W.block <| Jc 4 ?_; obtain ⟨o22, hv⟩ := hv; refine J6 (r := (n.tmod z17)) rfl rfl o22 rfl rfl <| Jb 2 <| Jg rfl (fun c23 => ?_) (fun c23 => ?_)
   .have hv := hv.1 (oT c23); refine Jc 4 <| W.ret <| ⟨_, rfl, Fin.nil ?_⟩
    exact (hS.pick [] rfl).fin rfl ⟨false, rfl, rfl, hv⟩
   have hv := hv.2 (oF c23); refine Jm <| Jc 2 ?_; obtain ⟨o24, hv⟩ := hv; refine WL.add (r := (z17 + 1)) rfl rfl (wr o24) rfl <| Jb 2 ?_; exact ⟨(z17 + 1), sp rfl, hv.2, rfl, hv.1, hS⟩
  have hv := hv.2 (oF c21); refine Jv <| Jc 4 <| W.ret <| ⟨_, rfl, Fin.nil ?_⟩
  exact (hS.pick [] rfl).fin rfl ⟨true, rfl, rfl, hv⟩
 have hv := hv.2 g13; rw [decide_eq_false g13]; refine Jb 7 <| QF rfl <| Jm <| Jc 5 <| W.block ?_; obtain ⟨I29, μ30, hv, hk36⟩ := hv; refine JB (σ := Int) (fun z28 w1 => I29 z28 /\ St TT w none w1 []) (fun z28 => [(0, nI n), (2, .bool false), (3, nI z28)]) (fun z28 => μ30 z28) (2 : Int) ⟨hv, hS⟩ ⟨rfl, rfl, rfl, trivial⟩ ?_; rintro z28 w31 ⟨hv, hS⟩; have hv := hk36 z28 hv; refine Jc 7 <| Jg rfl (fun c32 => ?_) (fun c32 => ?_)
 .have hv := hv.1 (oT c32); refine Jm <| Jr <| W.block <| Jc 4 ?_; obtain ⟨o33, hv⟩ := hv; refine J6 (r := (n.tmod z28)) rfl rfl o33 rfl rfl <| Jb 2 <| Jg rfl (fun c34 => ?_) (fun c34 => ?_)
  .have hv := hv.1 (oT c34); refine Jc 4 <| W.ret <| ⟨_, rfl, Fin.nil ?_⟩
   exact (hS.pick [] rfl).fin rfl ⟨false, rfl, rfl, hv⟩
  have hv := hv.2 (oF c34); refine Jm <| Jc 2 ?_; obtain ⟨o35, hv⟩ := hv; refine WL.add (r := (z28 + 1)) rfl rfl (wr o35) rfl <| Jb 2 ?_; exact ⟨(z28 + 1), sp rfl, hv.2, rfl, hv.1, hS⟩
 have hv := hv.2 (oF c32); refine Jv <| Jc 4 <| W.ret <| ⟨_, rfl, Fin.nil ?_⟩
 exact (hS.pick [] rfl).fin rfl ⟨true, rfl, rfl, hv⟩
def Y6 (n : Int) (Q : LI -> Prop) : Prop :=
  (0 <= n /\ n * 8 <= 281474976710656 /\ n <= 281474976710656) /\ (∃ (I21 : LI -> Int -> Prop) (μ22 : LI -> Int -> Nat), I21 (List.replicate n.toNat (0 : Int)) (1 : Int) /\ ∀ (x19 : LI) (z20 : Int), (I21 x19 z20 -> (((z20 < n) -> ((I64 (z20 * z20)) /\ ((n ≠ 0) /\ ((0 <= ((z20 * z20).tmod n) /\ ((z20 * z20).tmod n) < (n.toNat : Nat)) /\ ((I64 (z20 + 1)) /\ (I21 (si x19 ((z20 * z20).tmod n) (1 : Int)) (z20 + 1) /\ μ22 (si x19 ((z20 * z20).tmod n) (1 : Int)) (z20 + 1) < μ22 x19 z20)))))) /\ (¬ (z20 < n) -> Q x19))))
theorem Jg5 {w : World} {Q : LI -> Prop} {n : Int}  (hv : Y6 n Q) :
  Calls Try.prog 69 #[.int .i64 n] w <| Rt w fun v Qr => ∃ (x : LI)  (A : Option Addr) (c : Nat), v = .slice A x.length c /\ Qr = [.row 3 1 A x.length c (is x)] /\ Q x := by
 refine Ji <| Jh (vs := [nI n]) [2] XF69 rfl rfl rfl rfl ?_; have hS := Jp w; unfold Y6 at hv; refine Jc 7 ?_; obtain ⟨o11, hv⟩ := hv; refine Qn (J := n) hS Jo XE3 rfl rfl o11 (Qt _) rfl ?_; intro A12 w13 hS; refine Jb 2 <| Jc 5 <| W.block ?_; obtain ⟨I21, μ22, hv, hk30⟩ := hv; refine JB (σ := LI × Int) (fun q w1 => match q with | (x19, z20) => I21 x19 z20 /\ St TT w none w1 [.row 3 1 A12 n.toNat n.toNat (is x19)]) (fun (x19, z20) => [(0, nI n), (2, .slice none 0 0), (3, .slice A12 n.toNat n.toNat), (4, nI z20)]) (fun (x19, z20) => μ22 x19 z20) (List.replicate n.toNat (0 : Int), (1 : Int)) ⟨hv, hS⟩ ⟨rfl, rfl, rfl, rfl, trivial⟩ ?_; rintro ⟨x19, z20⟩ w23 ⟨hv, hS⟩; have hv := hk30 x19 z20 hv; refine Jc 7 <| Jg rfl (fun c24 => ?_) (fun c24 => ?_)
 .have hv := hv.1 (oT c24); refine Jm <| Jr <| W.block <| Jc 4 ?_; obtain ⟨o25, hv⟩ := hv; refine WL.mul (r := (z20 * z20)) rfl rfl (wr o25) rfl <| Jk rfl rfl ?_; obtain ⟨o26, hv⟩ := hv; refine J6 (r := ((z20 * z20).tmod n)) rfl rfl o26 rfl rfl ?_; obtain ⟨o27, hv⟩ := hv; refine Jf Jo XE3 (hS.rd (i := 0) rfl) rfl rfl o27 rfl <| Jy (cs' := is (si x19 ((z20 * z20).tmod n) (1 : Int))) 0 ((z20 * z20).tmod n).toNat hS rfl XE3 rfl rfl rfl (Qp (hS.rd (i := 0) rfl) o27) (J9 _ _ _) ?_; intro w28 hS; refine Ja <| Jc 2 ?_; obtain ⟨o29, hv⟩ := hv; refine WL.add (r := (z20 + 1)) rfl rfl (wr o29) rfl <| Jb 2 ?_; exact ⟨(si x19 ((z20 * z20).tmod n) (1 : Int), (z20 + 1)), sp rfl, hv.2, rfl, hv.1, hS⟩
 have hv := hv.2 (oF c24); refine Jv <| Jc 5 <| W.ret ?_; have hm := (hS.rd (i := 0) rfl).ilen; have hS := hS.relen (i := 0) rfl hm.symm; refine ⟨_, rfl, Fin.nil ?_⟩; exact ⟨_, hS.ext, (hS.pick [0] rfl).rows, J7 (hS.pick [0] rfl).rows rfl, ⟨x19, A12, n.toNat, (by rw [hm]), rfl, hv⟩⟩
def Y7 (n : Int) (Q : Int × Int × LI × Int × LL × Int -> Prop) : Prop :=
  Yx n (fun r14 => (((!r14) = true) -> (Q ((0 : Int), (0 : Int), ([] : LI), (0 : Int), ([] : LL), (6 : Int)))) /\ ((!r14) = false -> (Y6 n (fun x19 => ∃ J24 : LI -> Prop, ((((n.tmod (8 : Int)) = 1) -> ((0 <= (0 : Int) /\ (0 : Int) < (x19.length : Nat)) /\ (J24 (si x19 (0 : Int) (1 : Int))))) /\ (¬ ((n.tmod (8 : Int)) = 1) -> J24 x19)) /\ ∀ (x23 : LI), (J24 x23 -> (Jre  (fun (r30, r31, x32) => ZJ x23 (fun x37 => Jax r30 r31 x32 x37 n (fun (r43, r44, x45, c46, x47) => Q (r43, r44, x45, c46, x47, (0 : Int)))))))))))
theorem Jg6 {w : World} {Q : Int × Int × LI × Int × LL × Int -> Prop} {n : Int}  (hv : Y7 n Q) :
   Calls Try.prog 36 #[.int .i64 n] w <| Rt w fun v Qr => ∃ (p0 : Int) (m0 : Int) (f0 : LI) (c0 : Int) (r0 : LL) (r1 : Int) (A0f : Option Addr) (k0f : Nat) (A0 : Option Addr) (k0 : Nat) (hs0 : Hs), v = .tuple #[.agg #[.int .i64 p0, .int .i64 m0, .slice A0f f0.length k0f, .int .i64 c0, .slice A0 r0.length k0], .int .i64 r1] /\ Qr = [.row 3 1 A0f f0.length k0f (is f0), mx 22 3 A0 r0.length k0 hs0 r0] /\ Q (p0, m0, f0, c0, r0, r1) := by
 refine Ji <| J4 (vs := [nI n]) [.cell 2 33, .tmp 3] XF36 rfl rfl rfl rfl ?_; have hS := Jp w; unfold Y7 at hv; refine Jc 2 <| SL.alloc (cs := [nI 0, nI 0, .slice none 0 0, nI 0, .slice none 0 0]) hS Qm rfl rfl ?_; intro g11 w12 hS; refine Jb 2 <| Jc 4 <| SL.call hS (Jfi  hv) XF37 rfl XN37 rfl rfl ?_; rintro _ _ w13 ⟨r14, rfl, rfl, hv⟩ hGw13 hS; have hS := hS.n0; refine Jb 2 <| Jg rfl (fun c15 => ?_) (fun c15 => ?_)
 .have hv := hv.1 (c15); refine Jc 2 <| J5 (cells := #[nI 0, nI 0, .slice none 0 0, nI 0, .slice none 0 0]) Jkc rfl rfl rfl <| Jz (cs := [nI 0, nI 0, .slice none 0 0, nI 0, .slice none 0 0]) 0 hS rfl Qm rfl rfl rfl rfl rfl ?_; intro w16 hS; refine Jb 2 <| W.ret ?_; have hS := hS.nil (e := 3) (z := 1); have hS := hS.mxNil 22 3; have hm4 := hS.mxlen (i := 0) rfl; have hS := hS.relenMx (i := 0) rfl hm4.symm
  change St _ _ _ _ [_, _, _] at hS
  repeat with_reducible first | refine blk.ret ?_ | refine exits.retI ?_
  refine endC.mk ⟨[.agg #[nI 0, nI 0, .slice none 0 0, nI 0, .slice none 0 0], nI 6], ⟨_, _, _, rfl, rfl, JE (cs := [nI 0, nI 0, .slice none 0 0, nI 0, .slice none 0 0]) Qm Y4 rfl (Jw (hS.own (i := 2) rfl)), ⟨_, _, rfl, rfl, rfl⟩⟩, ?_⟩; exact ⟨_, hS.ext, (hS.pick [1, 0] rfl).rows, J7 (hS.pick [1, 0] rfl).rows rfl, ⟨(0 : Int), (0 : Int), ([] : LI), (0 : Int), ([] : LL), (6 : Int), none, 0, none, 0, (fun _ => (none, 0)), (by (try unfold nS); first | (rw [show (Value.slice none 0 0) = Value.slice none (([] : LL)).length 0 from sm0 hm4.symm]; done) | (rw [show (Value.slice none 0 0) = Value.slice none (([] : LL)).length 0 from sm0 hm4.symm]; rfl)), rfl, hv⟩⟩
 have hv := hv.2 (c15); refine Jm <| Jc 3 <| SL.call hS (Jg5  hv) XF69 rfl XN69 rfl rfl ?_; rintro _ _ w18 ⟨x19, A20, k21, rfl, rfl, hv⟩ hGw18 hS; have hS := hS.n1; refine Jb 2 <| Jc 4 <| J6 (r := (n.tmod (8 : Int))) rfl rfl (by decide) rfl rfl <| Jb 2 ?_; obtain ⟨J24, hv, hk56⟩ := hv; refine Qe (σ := LI) (fun x23 w1 => J24 x23 /\ St TT w none w1 [.row 3 1 A20 x19.length k21 (is x23), .row 33 5 (nA g11) 1 1 [nI 0, nI 0, .slice none 0 0, nI 0, .slice none 0 0]]) (fun x23 => [(0, nI n), (2, nP g11), (3, nI 0), (4, nS A20 x19 k21)]) ?_ ?_
 .refine Jg rfl (fun c25 => ?_) (fun c25 => ?_)
  .have hv := hv.1 (oT c25); refine Jc 2 ?_; obtain ⟨o26, hv⟩ := hv; refine Jf Jo XE3 (hS.rd (i := 0) rfl) rfl rfl o26 rfl <| Jy (cs' := is (si x19 (0 : Int) (1 : Int))) 0 (0 : Int).toNat hS rfl XE3 rfl rfl rfl (Qp (hS.rd (i := 0) rfl) o26) (J9 _ _ _) ?_; intro w27 hS; refine Ja ?_; exact ⟨si x19 (0 : Int) (1 : Int), sp rfl, rfl, hv, hS⟩
  have hv := hv.2 (oF c25); refine Jm ?_; exact ⟨x19, sp rfl, rfl, hv, hS⟩
 rintro x23 w28 ⟨hv, hS⟩; have hv := hk56 x23 hv; refine Jc 2 <| SL.call hS (ok_Two  hv) XF34 rfl XN34 rfl rfl ?_; rintro _ _ w29 ⟨r30, r31, x32, A33, k34, rfl, rfl, hv⟩ hGw29 hS; have hS := hS.n1; refine Jk rfl rfl <| SL.call hS (Ji9 (hS.rd (i := 1) rfl) hv) XF70 rfl XN70 rfl rfl ?_; rintro _ _ w36 ⟨x37, A38, k39, hs40, rfl, rfl, hv⟩ hGw36 hS; have hS := hS.n1; refine Jk rfl rfl <| SL.call hS (Jmr (hS.rd (i := 1) rfl) (hS.rl (i := 0) rfl) hv) XF61 rfl XN61 rfl rfl ?_; rintro _ _ w42 ⟨r43, r44, x45, c46, x47, A48, k49, A51, k52, hs53, rfl, rfl, hv⟩ hGw42 hS; have hS := hS.n2; refine Jz (cs := [nI r43, nI r44, nS A48 x45 k49, nI c46, nS A51 x47 k52]) 5 hS rfl Qm rfl rfl rfl rfl rfl ?_; intro w55 hS; refine Jb 2 <| W.ret ?_; have hS := hS.pick [1, 0, 2, 3, 4, 5] rfl
 change St _ _ _ _ [_, _, _, _, _, _] at hS
 repeat with_reducible first | refine blk.ret ?_ | refine exits.retI ?_
 refine endC.mk ⟨[.agg #[nI r43, nI r44, nS A48 x45 k49, nI c46, nS A51 x47 k52], nI 0], ⟨_, _, _, rfl, rfl, JE (cs := [nI r43, nI r44, nS A48 x45 k49, nI c46, nS A51 x47 k52]) Qm Y4 rfl (Jw (hS.own (i := 5) rfl)), ⟨_, _, rfl, rfl, rfl⟩⟩, ?_⟩; exact (hS.pick [1, 0] rfl).fin rfl ⟨r43, r44, x45, c46, x47, (0 : Int), A48, k49, A51, k52, hs53, rfl, rfl, hv⟩
end Go.Proofs.Ytjgpkljepgcekaa
namespace Go.Proofs.Ytjgpkljepgcekaa
open Go.RowKit
end Go.Proofs.Ytjgpkljepgcekaa
namespace Go.Proofs.Ytjgpkljepgcekaa
open Go.RowKit
/-! ### append of zeros onto nil; lists joined -/
section
variable {P : Program} {n : Nat} {ro : Option Nat} {df : List Deferred} {N : J0} {L : Fr} {w w0 : World} {ops : Array Oper} {rest : List Oper}
variable {d : Nat} {ty : TypeId} {pos : String} {af : Array Edge} {X : World -> Prop} {mr : Option Nat} {R : List Rw}
/-- 'append' of new zero elements onto nil; of what it makes, only the room is Jmj. -/
theorem Jkk {x y : Operand} {t tn e by_ : Nat} {zero : Value} {k : Nat} (hS : St X w0 mr w R) (ht : P.underlying t = some (.slice e)) (htn : P.underlying tn = some (.int .i64)) (he : Elem P e 1 by_ zero)
    (hx : ev L x = some (.slice none 0 0)) (hy : ev L y = some (.int .i64 (k : Int))) (h0 : 0 < k) (hk : k <= 1000000) (hby : by_ <= 1000) (hn : Nat.blt d n = true)
    (h : ∀ A c w', k <= c -> St X w0 mr w' (.row e 1 A 0 c [] :: R) -> WL P n ro df ops rest N ((d, .slice A k c) :: L) w') :
    WL P n ro df ops (⟨some d, .call ⟨.builtin .append, #[x, y], #[t, tn]⟩, ty, pos, af, none⟩ :: rest) N L w := by
  obtain ⟨inf, i1, i2, i3, i4⟩ := he.ex
  have hr := Lib.run_append_nil_zeros (P := P) w t tn ty e inf zero .i64 .i64 ht htn i1 i2 k h0 (by omega) (by omega) (by
    have : k * inf.bytes <= 1000000 * 1000 := Nat.mul_le_mul hk (by omega)
    omega)
  generalize hcap : grownCap w k 0 e = cap at hr
  have hge : k <= cap := by rw [<- hcap]; exact grownCap_ge w k 0 e
  have hle : cap <= maxLen := by rw [<- hcap]; exact grownCap_le_maxLen w k 0 e (by simp only [maxLen]; omega)
  have hG : w.grownBy (w.drew.alloc (.cells (Builtin.zeroCells zero.cells k ++ Builtin.zeroCells zero.cells (cap - k)) e)) none := ⟨rfl, rfl, rfl, by simp, fun q hq _ => heap_alloc_old w.drew _ hq⟩
  have hz := he.zs
  have key := h (some ⟨w.heap.size, 0, none⟩) cap _ hge (hS.push hG (r := .row e 1 (some ⟨w.heap.size, 0, none⟩) 0 cap []) ⟨⟨rfl, .inr ⟨w.heap.size, _, _, rfl, Nat.zero_le _, heap_alloc_new w.drew _, Nat.zero_le _, hle, (by simp only [Array.size_append, size_zeroCells, hz]; omega), (by simp)⟩⟩, fun g hg => .inl (by cases hg; exact hS.size)⟩ fun g hg => by cases hg; exact Nat.le_refl _)
  exact WL.val rfl rfl hn (fun a ha => by simp [execOp, resolve, invoke, builtin, ha.ev hx, ha.ev hy, hr]) key
theorem Jl1 {x : Operand} {A : Option Addr} {m c : Nat} {t e : TypeId} (ht : P.underlying t = some (.slice e)) (hx : ev L x = some (.slice A m c)) (hn : Nat.blt d n = true) (h : WL P n ro df ops rest N ((d, .int .i64 c) :: L) w) :
  WL P n ro df ops (⟨some d, .call ⟨.builtin .cap, #[x], #[t]⟩, ty, pos, af, none⟩ :: rest) N L w :=
 WL.val rfl rfl hn (fun a ha => by simp [execOp, resolve, invoke, builtin, Builtin.cap_, ha.ev hx, run_underlying ht, goInt]) h
end
theorem Jc2 {zs : LL} {k : Nat} (h : k < zs.length) : (zs.take (k + 1)).flatten = (zs.take k).flatten ++ zs.getD k [] := by
 rw [List.take_add_one, Yr (d := []) h, List.flatten_append]; simp
def Jb2 (zs : LL) (i : Nat) : Nat := ((zs.take i).flatten).length
theorem Jee {zs : LL} {i : Nat} (h : i < zs.length) : Jb2 zs (i + 1) = Jb2 zs i + (zs.getD i []).length := by
 unfold Jb2; rw [Jc2 h, List.length_append]
theorem Je2 {zs : LL} (i : Nat) : Jb2 zs i <= zs.flatten.length := by
 unfold Jb2
 conv => rhs; rw [<- List.take_append_drop i zs, List.flatten_append, List.length_append]
 omega
end Go.Proofs.Ytjgpkljepgcekaa
namespace Go.Proofs.Ytjgpkljepgcekaa
open Go.RowKit
/-! ### slices.Concat of lists of ints -/
theorem Jpk {w : World} {k : Nat} (hk : k <= 1000000) :
    Calls Try.prog 125 #[.slice none 0 0, .int .i64 (k : Int)] w fun e w' => ∃ v Qr, e = .returned v /\ w.grownBy w' none /\ Rows w.heap.size none w' Qr /\ News w.heap.size Qr /\ ∃ (A0 : Option Addr) (k0 : Nat), v = .slice A0 0 k0 /\ Qr = [.row 3 1 A0 0 k0 []] := by
  refine Ji <| Jh (vs := [.slice none 0 0, .int .i64 (k : Int)]) [4] Try.func125 rfl rfl rfl rfl ?_
  have hS := Jp w
  refine Jr <| Js <| JQ rfl rfl <| Ja <| Jr <| Jr <| Js <| Jk rfl rfl <| Q1 rfl rfl rfl <| Ja <| Jg rfl (fun c => ?_) (fun c => ?_)
  . have := of_decide_eq_true c; omega
  refine Jm <| Jr <| Jr <| Js <| Jk rfl rfl <| Jk rfl rfl <| Jl1 Try.underlying22 rfl rfl <| Jk rfl rfl <| WL.len Try.underlying22 rfl rfl <| WL.sub (r := 0) rfl rfl (by decide) rfl <| WL.sub (r := (k : Int)) rfl rfl (by rw [IntKind.wrap_i64]; omega) rfl <| JQ rfl rfl <| Ja <| ?_
  refine Jr <| Js <| Jk rfl rfl <| Jgc rfl rfl rfl <| Ja <| Jg rfl (fun c => ?_) (fun c => ?_)
  . have h0 : 0 < k := by have := of_decide_eq_true c; omega
    refine Js <| Jk rfl rfl <| Jk rfl rfl <| Jl1 Try.underlying22 rfl rfl <| Jf9 0 Try.underlying22 Try.el3 rfl rfl rfl (Nat.le_refl 0) rfl <| Jk rfl rfl <| Jkk hS Try.underlying22 Try.underlying3 Try.el3 rfl rfl h0 hk (by omega) rfl ?_
    intro A c w' hc hS
    refine Jk rfl rfl <| WL.len Try.underlying22 rfl rfl <| Jf9 0 Try.underlying22 Try.el3 rfl rfl rfl (Nat.zero_le _) rfl <| JQ rfl rfl <| Ja <| Jr <| Js <| Jk rfl rfl <| JQ rfl rfl <| Ja <| W.ret <| ⟨_, rfl, Fin.nil ?_⟩
    exact ⟨_, hS.ext, hS.rows, J7 hS.rows rfl, A, c, rfl, rfl⟩
  have h0 : k = 0 := by have := of_decide_eq_false c; omega
  subst h0
  have hS := hS.nil (e := 3) (z := 1)
  refine Jm <| Jr <| Js <| Jk rfl rfl <| JQ rfl rfl <| Ja <| W.ret <| ⟨_, rfl, Fin.nil ?_⟩
  exact ⟨_, hS.ext, hS.rows, J7 hS.rows rfl, none, 0, rfl, rfl⟩
def Jif (zs : LL) (Q : LI -> Prop) : Prop := zs.flatten.length <= 1000000 /\ zs.length <= 1000 /\ Q zs.flatten
theorem Jmz {w : World} {Q : LI -> Prop} {zs : LL} {A : Option Addr} {n k : Nat} (h0 : Rl w A n k zs) (hv : Jif zs Q) :
  Calls Try.prog 100 #[.slice A n k] w fun e w' => ∃ v Qr, e = .returned v /\ w.grownBy w' none /\ Rows w.heap.size none w' Qr /\ News w.heap.size Qr /\ ∃ (r0 : LI) (A0 : Option Addr) (k0 : Nat), v = .slice A0 r0.length k0 /\ Qr = [.row 3 1 A0 r0.length k0 (is r0)] /\ Q r0 := by
 obtain rfl := h0.len; obtain ⟨hs, h⟩ := h0.heads; obtain ⟨hb, hz, hv⟩ := hv; refine Ji <| Jh (vs := [.slice A zs.length k]) [2] Try.func100 rfl rfl rfl rfl ?_; have hS := Jp w; refine Jr <| Js <| JQ rfl rfl <| Ja <| Jr <| Js <| JQ rfl rfl <| Ja <| Jr <| Jr <| Js <| Jk rfl rfl <| WL.len Try.underlying25 rfl rfl <| Jk rfl rfl <| Ja <| W.block ?_; refine JB (σ := Nat) (fun i w1 => i <= zs.length /\ St TT w none w1 []) (fun i => [(0, .slice A zs.length k), (2, .slice none 0 0), (3, .int .i64 (Jb2 zs i : Int)), (9, .slice A zs.length k), (10, .int .i64 (zs.length : Int)), (11, .int .i64 (i : Int))]) (fun i => zs.length - i) 0 ⟨Nat.zero_le _, hS⟩ ⟨rfl, rfl, rfl, rfl, rfl, rfl, trivial⟩ ?_; rintro i w1 ⟨hi, hS⟩; have hle := Je2 (zs := zs) i; refine Jr <| Js <| Q1 rfl rfl rfl <| Ja <| Jr <| Jg rfl (fun c => ?_) (fun c => ?_)
 .have hlt : i < zs.length := by have := of_decide_eq_true c; omega
  have hle2 := Je2 (zs := zs) (i + 1); have hsu := Jee hlt; obtain ⟨B, hR⟩ := h.out; have hc := (hR.ext hS.ext).at_ (QR hs zs hlt); refine Jm <| Jr <| W.block <| Jr <| Js <| ZI i Try.underlying25 Try.el22 rfl rfl rfl hlt (hR.ext hS.ext) rfl <| Jj Try.underlying22 rfl rfl hc rfl <| JQ rfl rfl <| Ja <| Jr <| Js <| Jk rfl rfl <| Jk rfl rfl <| WL.len Try.underlying22 rfl rfl <| WL.add (r := (Jb2 zs (i + 1) : Int)) rfl rfl (by rw [hsu, IntKind.wrap_i64]; omega) rfl <| JQ rfl rfl <| Ja <| Jr <| Js <| Jk rfl rfl <| Q1 rfl rfl rfl <| Ja <| Jg rfl (fun c => ?_) (fun c => ?_)
  .have := of_decide_eq_true c; omega
  refine Jm <| Js <| WL.add (r := ((i + 1 : Nat) : Int)) rfl rfl (by rw [IntKind.wrap_i64]; omega) rfl <| Jk rfl rfl <| Ja <| ⟨i + 1, ⟨rfl, rfl, rfl, rfl, rfl, rfl, trivial⟩, by omega, rfl, hlt, hS⟩
 have hge : i = zs.length := by have := of_decide_eq_false c; omega
 subst hge; have hsum : Jb2 zs zs.length = zs.flatten.length := by unfold Jb2; rw [List.take_length]
 rw [hsum]; refine Jv <| Jr <| Js <| Jk rfl rfl <| SL.call hS (Jpk hb) Try.func125 rfl Try.nm125 rfl rfl ?_; rintro _ _ w2 ⟨A0, k0, rfl, rfl⟩ hGw hS; have hS := hS.n1; refine JQ rfl rfl <| Ja <| Jr <| Jr <| Js <| Jk rfl rfl <| WL.len Try.underlying25 rfl rfl <| Jk rfl rfl <| Ja <| W.block ?_; refine JB (σ := Nat × Option Addr × Nat) (fun q w1 => q.1 <= zs.length /\ St TT w none w1 [.row 3 1 q.2.1 (Jb2 zs q.1) q.2.2 (is ((zs.take q.1).flatten))]) (fun q => [(0, .slice A zs.length k), (6, .slice q.2.1 (Jb2 zs q.1) q.2.2), (25, .slice A zs.length k), (26, .int .i64 (zs.length : Int)), (27, .int .i64 (q.1 : Int))]) (fun q => zs.length - q.1) (0, A0, k0) ⟨Nat.zero_le _, hS⟩ ⟨rfl, rfl, rfl, rfl, rfl, trivial⟩ ?_; rintro ⟨i, A1, k1⟩ w3 ⟨hi, hS⟩; dsimp only at hi hS; refine Jr <| Js <| Q1 rfl rfl rfl <| Ja <| Jr <| Jg rfl (fun c => ?_) (fun c => ?_)
 .have hlt : i < zs.length := by have := of_decide_eq_true c; omega
  have hsu := Jee hlt; have hle2 := Je2 (zs := zs) (i + 1); obtain ⟨B, hR⟩ := h.out; have hc := (hR.ext hS.ext).at_ (QR hs zs hlt); obtain ⟨B', hY⟩ := (h.ext hS.ext).at__ i hlt; refine Jm <| Jr <| W.block <| Jr <| Js <| ZI i Try.underlying25 Try.el22 rfl rfl rfl hlt (hR.ext hS.ext) rfl <| Jj Try.underlying22 rfl rfl hc rfl <| JQ rfl rfl <| Ja <| Js <| Jk rfl rfl <| Jk rfl rfl <| ?_; refine SL.append (cs := is ((zs.take i).flatten)) (cs' := is (zs.getD i [])) 0 (Jb2 zs (i + 1)) (is ((zs.take (i + 1)).flatten)) hS rfl Try.underlying22 Try.el3 hY (Qq _) rfl rfl (by simp only [maxLen]; omega) (by omega) hsu.symm (by rw [Jc2 hlt]; exact Qo _ _) rfl ?_; intro A2 c2 w4 hS; refine JQ rfl rfl <| Ja <| Js <| WL.add (r := ((i + 1 : Nat) : Int)) rfl rfl (by rw [IntKind.wrap_i64]; omega) rfl <| Jk rfl rfl <| Ja <| ⟨(i + 1, A2, c2), ⟨rfl, rfl, rfl, rfl, rfl, trivial⟩, (by dsimp only; omega), rfl, hlt, hS⟩
 have hge : i = zs.length := by have := of_decide_eq_false c; omega
 subst hge; rw [hsum, List.take_length] at hS; rw [hsum]; refine Jv <| Jr <| Js <| Jk rfl rfl <| JQ rfl rfl <| Ja <| W.ret <| ⟨_, rfl, Fin.nil ?_⟩
 exact ⟨_, hS.ext, hS.rows, J7 hS.rows rfl, zs.flatten, A1, k1, rfl, rfl, hv⟩
end Go.Proofs.Ytjgpkljepgcekaa
namespace Go.Proofs.Ytjgpkljepgcekaa
open Go.RowKit
def Ja2 (n : Int) (Q : Int -> Prop) : Prop :=
  ∃ (I14 : Int -> Prop) (μ15 : Int -> Nat), I14 0 /\ ∀ (z13 : Int), (I14 z13 -> (((z13 < 3) -> ((0 <= z13 /\ z13 < (3 : Nat)) /\ (((gi ([(2 : Int), (3 : Int), (5 : Int)] : LI) z13) ≠ 0) /\ ((((n.tmod (gi ([(2 : Int), (3 : Int), (5 : Int)] : LI) z13)) = 0) -> (Q (gi ([(2 : Int), (3 : Int), (5 : Int)] : LI) z13))) /\ (¬ ((n.tmod (gi ([(2 : Int), (3 : Int), (5 : Int)] : LI) z13)) = 0) -> ((I64 (z13 + 1)) /\ (I14 (z13 + 1) /\ μ15 (z13 + 1) < μ15 z13))))))) /\ (¬ (z13 < 3) -> (∃ J23 : Int -> Prop, (∃ (I27 : Int -> Prop) (μ28 : Int -> Nat), I27 0 /\ ∀ (z26 : Int), (I27 z26 -> ((I64 (z26 * z26)) /\ ((((z26 * z26) <= n) -> (∃ (I35 : Int -> Prop) (μ36 : Int -> Nat), I35 0 /\ ∀ (z34 : Int), (I35 z34 -> (((z34 < 8) -> ((0 <= z34 /\ z34 < (8 : Nat)) /\ ((I64 (z26 + (gi ([(7 : Int), (11 : Int), (13 : Int), (17 : Int), (19 : Int), (23 : Int), (29 : Int), (31 : Int)] : LI) z34))) /\ (((z26 + (gi ([(7 : Int), (11 : Int), (13 : Int), (17 : Int), (19 : Int), (23 : Int), (29 : Int), (31 : Int)] : LI) z34)) ≠ 0) /\ ((((n.tmod (z26 + (gi ([(7 : Int), (11 : Int), (13 : Int), (17 : Int), (19 : Int), (23 : Int), (29 : Int), (31 : Int)] : LI) z34))) = 0) -> ((I64 (z26 + (gi ([(7 : Int), (11 : Int), (13 : Int), (17 : Int), (19 : Int), (23 : Int), (29 : Int), (31 : Int)] : LI) z34))) /\ (J23 (z26 + (gi ([(7 : Int), (11 : Int), (13 : Int), (17 : Int), (19 : Int), (23 : Int), (29 : Int), (31 : Int)] : LI) z34))))) /\ (¬ ((n.tmod (z26 + (gi ([(7 : Int), (11 : Int), (13 : Int), (17 : Int), (19 : Int), (23 : Int), (29 : Int), (31 : Int)] : LI) z34))) = 0) -> ((I64 (z34 + 1)) /\ (I35 (z34 + 1) /\ μ36 (z34 + 1) < μ36 z34)))))))) /\ (¬ (z34 < 8) -> ((I64 (z26 + 30)) /\ (I27 (z26 + 30) /\ μ28 (z26 + 30) < μ28 z26))))))) /\ (¬ ((z26 * z26) <= n) -> J23 n))))) /\ ∀ (z22 : Int), (J23 z22 -> Q z22)))))
theorem Jmw {w : World} {Q : Int -> Prop} {n : Int}  (hv : Ja2 n Q) :
   Calls Try.prog 99 #[.int .i64 n] w <| Rt w fun v Qr => ∃ (r0 : Int), v = .int .i64 r0 /\ Qr = [] /\ Q r0 := by
 refine Ji <| Jh (vs := [nI n]) [2] XF99 rfl rfl rfl rfl ?_; have hS := Jp w; unfold Ja2 at hv; refine Jc 4 <| Jte <| Jc 3 <| Jeq (vs := [nI 2, nI 3, nI 5]) (cells := #[nI 2, nI 3, nI 5]) rfl (by kernel_rfl) rfl <| Jb 2 <| W.block ?_; obtain ⟨I14, μ15, hv, hk50⟩ := hv; refine JB (σ := Int) (fun z13 w1 => I14 z13 /\ St TT w none w1 []) (fun z13 => [(0, nI n), (2, nI 0), (9, .agg #[nI 2, nI 3, nI 5]), (10, nI z13)]) (fun z13 => μ15 z13) (0 : Int) ⟨hv, hS⟩ ⟨rfl, rfl, rfl, rfl, trivial⟩ ?_; rintro z13 w16 ⟨hv, hS⟩; have hv := hk50 z13 hv; refine Jc 5 <| Jg rfl (fun c17 => ?_) (fun c17 => ?_)
 .have hv := hv.1 (oT c17); refine Jm <| Jr <| W.block <| Jc 2 ?_; obtain ⟨o18, hv⟩ := hv; refine Jdt (l := ([(2 : Int), (3 : Int), (5 : Int)] : LI)) Try.arr132 rfl rfl rfl o18 rfl <| Jb 2 <| Jc 4 ?_; obtain ⟨o19, hv⟩ := hv; refine J6 (r := (n.tmod (gi ([(2 : Int), (3 : Int), (5 : Int)] : LI) z13))) rfl rfl o19 rfl rfl <| Jb 2 <| Jg rfl (fun c20 => ?_) (fun c20 => ?_)
  .have hv := hv.1 (oT c20); refine Jc 5 <| W.ret <| ⟨_, rfl, Fin.nil ?_⟩
   exact (hS.pick [] rfl).fin rfl ⟨(gi ([(2 : Int), (3 : Int), (5 : Int)] : LI) z13), rfl, rfl, hv⟩
  have hv := hv.2 (oF c20); refine Jm <| Js ?_; obtain ⟨o21, hv⟩ := hv; refine WL.add (r := (z13 + 1)) rfl rfl (wr o21) rfl <| Jb 2 ?_; exact ⟨(z13 + 1), sp rfl, hv.2, rfl, hv.1, hS⟩
 have hv := hv.2 (oF c17); refine Jv <| Jc 6 <| Jth <| Jc 5 ?_; obtain ⟨J23, hv, hk49⟩ := hv; refine Qe (σ := Int) (fun z22 w1 => J23 z22 /\ St TT w none w1 []) (fun z22 => [(2, nI 0), (5, nI z22)]) ?_ ?_
 .refine W.block ?_; obtain ⟨I27, μ28, hv, hk47⟩ := hv; refine JB (σ := Int) (fun z26 w1 => I27 z26 /\ St TT w none w1 []) (fun z26 => [(0, nI n), (2, nI 0), (5, nI n), (6, nI z26)]) (fun z26 => μ28 z26) (0 : Int) ⟨hv, hS⟩ ⟨rfl, rfl, rfl, rfl, trivial⟩ ?_; rintro z26 w29 ⟨hv, hS⟩; have hv := hk47 z26 hv; refine Jc 5 ?_; obtain ⟨o30, hv⟩ := hv; refine WL.mul (r := (z26 * z26)) rfl rfl (wr o30) rfl <| Jb 3 <| Jg rfl (fun c31 => ?_) (fun c31 => ?_)
  .have hv := hv.1 (oT c31); refine Jm <| Jr <| W.block <| Jc 2 <| Jeq (vs := [nI 7, nI 11, nI 13, nI 17, nI 19, nI 23, nI 29, nI 31]) (cells := #[nI 7, nI 11, nI 13, nI 17, nI 19, nI 23, nI 29, nI 31]) rfl (by kernel_rfl) rfl <| Jb 2 <| W.block ?_; obtain ⟨I35, μ36, hv, hk46⟩ := hv; refine JB (σ := Int) (fun z34 w1 => I35 z34 /\ St TT w none w1 []) (fun z34 => [(0, nI n), (2, nI 0), (5, nI n), (6, nI z26), (24, .bool (decide ((z26 * z26) <= n))), (27, .agg #[nI 7, nI 11, nI 13, nI 17, nI 19, nI 23, nI 29, nI 31]), (28, nI z34)]) (fun z34 => μ36 z34) (0 : Int) ⟨hv, hS⟩ ⟨rfl, rfl, rfl, rfl, rfl, rfl, rfl, trivial⟩ ?_; rintro z34 w37 ⟨hv, hS⟩; have hv := hk46 z34 hv; refine Jc 5 <| Jg rfl (fun c38 => ?_) (fun c38 => ?_)
   .have hv := hv.1 (oT c38); refine Jm <| Jr <| W.block <| Jc 2 ?_; obtain ⟨o39, hv⟩ := hv; refine Jdt (l := ([(7 : Int), (11 : Int), (13 : Int), (17 : Int), (19 : Int), (23 : Int), (29 : Int), (31 : Int)] : LI)) Try.arr133 rfl rfl rfl o39 rfl <| Jb 2 <| Jc 5 ?_; obtain ⟨o40, hv⟩ := hv; refine WL.add (r := (z26 + (gi ([(7 : Int), (11 : Int), (13 : Int), (17 : Int), (19 : Int), (23 : Int), (29 : Int), (31 : Int)] : LI) z34))) rfl rfl (wr o40) rfl ?_; obtain ⟨o41, hv⟩ := hv; refine J6 (r := (n.tmod (z26 + (gi ([(7 : Int), (11 : Int), (13 : Int), (17 : Int), (19 : Int), (23 : Int), (29 : Int), (31 : Int)] : LI) z34)))) rfl rfl o41 rfl rfl <| Jb 2 <| Jg rfl (fun c42 => ?_) (fun c42 => ?_)
    .have hv := hv.1 (oT c42); refine Jc 4 ?_; obtain ⟨o43, hv⟩ := hv; refine WL.add (r := (z26 + (gi ([(7 : Int), (11 : Int), (13 : Int), (17 : Int), (19 : Int), (23 : Int), (29 : Int), (31 : Int)] : LI) z34))) rfl rfl (wr o43) rfl <| Jb 2 <| Jv ?_; exact ⟨(z26 + (gi ([(7 : Int), (11 : Int), (13 : Int), (17 : Int), (19 : Int), (23 : Int), (29 : Int), (31 : Int)] : LI) z34)), ⟨rfl, rfl, trivial⟩, rfl, hv, hS⟩
    have hv := hv.2 (oF c42); refine Jm <| Js ?_; obtain ⟨o44, hv⟩ := hv; refine WL.add (r := (z34 + 1)) rfl rfl (wr o44) rfl <| Jb 2 ?_; exact ⟨(z34 + 1), sp rfl, hv.2, rfl, hv.1, hS⟩
   have hv := hv.2 (oF c38); refine Jv <| Jc 2 ?_; obtain ⟨o45, hv⟩ := hv; refine WL.add (r := (z26 + 30)) rfl rfl (wr o45) rfl <| Jb 2 ?_; exact ⟨(z26 + 30), sp rfl, hv.2, rfl, hv.1, hS⟩
  have hv := hv.2 (oF c31); refine Jv ?_; exact ⟨n, ⟨rfl, rfl, trivial⟩, rfl, hv, hS⟩
 rintro z22 w48 ⟨hv, hS⟩; have hv := hk49 z22 hv; refine Jc 5 <| W.ret <| ⟨_, rfl, Fin.nil ?_⟩
 exact (hS.pick [] rfl).fin rfl ⟨z22, rfl, rfl, hv⟩
def Jcr (n : Int) (Q : Bool -> Prop) : Prop :=
  (((2 : Int) <= n) -> (((n <= 2147483647) -> (Ja2 n (fun r14 => Q (decide (r14 = n))))) /\ (¬ (n <= 2147483647) -> Q false))) /\ (¬ ((2 : Int) <= n) -> Q false)
theorem Jpi {w : World} {Q : Bool -> Prop} {n : Int}  (hv : Jcr n Q) :
   Calls Try.prog 67 #[.int .i64 n] w <| Rt w fun v Qr => ∃ (r0 : Bool), v = .bool r0 /\ Qr = [] /\ Q r0 := by
 refine Ji <| Jh (vs := [nI n]) [2] XF67 rfl rfl rfl rfl ?_; have hS := Jp w; unfold Jcr at hv; refine Jc 8 <| Jk rfl rfl ?_; by_cases g11 : (2 : Int) <= n
 .have hv := hv.1 g11; rw [decide_eq_true g11]; refine Jb 5 <| Jk rfl rfl ?_; by_cases g12 : n <= 2147483647
  .have hv := hv.1 g12; rw [decide_eq_true g12]; refine Jb 3 <| SL.call hS (Jmw  hv) XF99 rfl XN99 rfl rfl ?_; rintro _ _ w13 ⟨r14, rfl, rfl, hv⟩ hGw13 hS; have hS := hS.n0; refine Jb 7 <| W.ret <| ⟨_, rfl, Fin.nil ?_⟩
   exact (hS.pick [] rfl).fin rfl ⟨(decide (r14 = n)), rfl, rfl, hv⟩
  have hv := hv.2 g12; rw [decide_eq_false g12]; refine Jb 7 <| W.ret <| ⟨_, rfl, Fin.nil ?_⟩
  exact (hS.pick [] rfl).fin rfl ⟨false, rfl, rfl, hv⟩
 have hv := hv.2 g11; rw [decide_eq_false g11]; refine Jb 11 <| W.ret <| ⟨_, rfl, Fin.nil ?_⟩
 exact (hS.pick [] rfl).fin rfl ⟨false, rfl, rfl, hv⟩
def Yf (Pf : Int) (Mf : Int) (mf : LI) (y : LI) (Q : Int × Int × LI × Int × LL × Int -> Prop) : Prop :=
  (0 <= (y.length : Int) /\ (y.length : Int) * 24 <= 281474976710656 /\ (y.length : Int) <= 281474976710656) /\ (∃ (I31 : LL -> Int -> Prop) (μ32 : LL -> Int -> Nat), I31 (List.replicate (y.length : Int).toNat ([] : LI)) (0 : Int) /\ ∀ (x28 : LL) (z30 : Int), (I31 x28 z30 -> (((z30 < (((y.length : Int).toNat : Nat) : Int)) -> ((0 <= z30 /\ z30 <= (y.length : Nat)) /\ ((0 <= z30 /\ z30 <= (y.length : Nat)) /\ (∃ (x54 : LI), Jif ([y.drop z30.toNat, y.take z30.toNat] : LL) (fun q => q = x54) /\ ((0 <= z30 /\ z30 < ((y.length : Int).toNat : Nat)) /\ ((I64 (z30 + 1)) /\ (I31 (sll x28 z30 x54) (z30 + 1) /\ μ32 (sll x28 z30 x54) (z30 + 1) < μ32 x28 z30))))))) /\ (¬ (z30 < (((y.length : Int).toNat : Nat) : Int)) -> (Jgh Pf Mf mf (y.length : Int) x28 (fun (r68, r69, x70, c71, x72, r73) => Q (r68, r69, x70, c71, x72, r73)))))))
theorem Jc8 {w : World} {Q : Int × Int × LI × Int × LL × Int -> Prop} {Pf : Int} {Mf : Int} {mf : LI} {y : LI} {Bf : Nat} {Af : Option Addr} {nf kf : Nat} (hf : Rd Bf w 1 Af nf kf (is mf)) {By : Nat} {Ay : Option Addr} {ny ky : Nat} (hy : Rd By w 1 Ay ny ky (is y)) (hv : Yf Pf Mf mf y Q) :
   Calls Try.prog 68 #[.agg #[.int .i64 Pf, .int .i64 Mf, .slice Af nf kf], .slice Ay ny ky] w <| Rt w fun v Qr => ∃ (p0 : Int) (m0 : Int) (f0 : LI) (c0 : Int) (r0 : LL) (r1 : Int) (A0f : Option Addr) (k0f : Nat) (A0 : Option Addr) (k0 : Nat) (hs0 : Hs), v = .tuple #[.agg #[.int .i64 p0, .int .i64 m0, .slice A0f f0.length k0f, .int .i64 c0, .slice A0 r0.length k0], .int .i64 r1] /\ Qr = [.row 3 1 A0f f0.length k0f (is f0), mx 22 3 A0 r0.length k0 hs0 r0] /\ Q (p0, m0, f0, c0, r0, r1) := by
 have hnf := hf.ilen; subst hnf; have hny := hy.ilen; subst hny; refine Ji <| J4 (vs := [.agg #[nI Pf, nI Mf, nS Af mf kf], nS Ay y ky]) [.cell 4 33, .tmp 5] XF68 rfl rfl rfl rfl ?_; have hS := Jp w; unfold Yf at hv; refine Jc 2 <| JG (z := 3) (cs := [nI Pf, nI Mf, nS Af mf kf]) hS rfl rfl rfl rfl ?_; intro g11 w12 hS; refine SL.alloc (cs := [nI 0, nI 0, .slice none 0 0, nI 0, .slice none 0 0]) hS Qm rfl rfl ?_; intro g13 w14 hS; refine Jb 2 <| Jc 3 <| WL.len Jo rfl rfl <| Jk rfl rfl <| WL.len Jo rfl rfl ?_; obtain ⟨o17, hv⟩ := hv; refine Qn (J := (y.length : Int)) hS JA Ju rfl rfl o17 (Jfo _) rfl ?_; intro A15 w16 hS; have hS := Jih (eI := 3) hS; refine J5 (cells := #[nI (y.length : Int), .slice A15 ((y.length : Int).toNat) ((y.length : Int).toNat)]) XB70 rfl rfl rfl <| SL.alloc (cs := [nI 0, .slice none 0 0]) hS Qf rfl rfl ?_; intro g19 w20 hS; refine Jz (cs := [nI (y.length : Int), .slice A15 ((y.length : Int).toNat) ((y.length : Int).toNat)]) 0 hS rfl Qf rfl rfl rfl rfl rfl ?_; intro w21 hS; refine Ja <| Jc 3 <| Je (off := 1) Zv rfl rfl <| Jn 0 1 JA hS rfl rfl rfl ⟨rfl, rfl⟩ <| WL.len JA rfl rfl <| Jb 2 <| W.block ?_; obtain ⟨I31, μ32, hv, hk82⟩ := hv; refine JB (σ := LL × Int × Hs) (fun q w1 => match q with | (x28, z30, hs29) => I31 x28 z30 /\ St TT w none w1 [.row 70 2 (nA g19) 1 1 [nI (y.length : Int), .slice A15 ((y.length : Int).toNat) ((y.length : Int).toNat)], mx 22 3 A15 ((y.length : Int).toNat) ((y.length : Int).toNat) hs29 x28, .row 33 5 (nA g13) 1 1 [nI 0, nI 0, .slice none 0 0, nI 0, .slice none 0 0], .row 24 3 (nA g11) 1 1 [nI Pf, nI Mf, nS Af mf kf]]) (fun (x28, z30, hs29) => [(1, nS Ay y ky), (2, nP g11), (4, nP g13), (5, nI 0), (6, nP g19), (16, nI (((y.length : Int).toNat : Nat) : Int)), (17, nI z30)]) (fun (x28, z30, hs29) => μ32 x28 z30) (List.replicate (y.length : Int).toNat ([] : LI), (0 : Int), (fun _ => (none, 0))) ⟨hv, hS⟩ ⟨rfl, rfl, rfl, rfl, rfl, rfl, rfl, trivial⟩ ?_; rintro ⟨x28, z30, hs29⟩ w33 ⟨hv, hS⟩; have hv := hk82 x28 z30 hv; refine Jc 5 <| Jg rfl (fun c34 => ?_) (fun c34 => ?_)
 .have hv := hv.1 (oT c34); refine Jm <| Jr <| W.block <| Jc 5 ?_; obtain ⟨o41, hv⟩ := hv; obtain ⟨o45, hv⟩ := hv; obtain ⟨x54, o61, hv⟩ := hv; have hS0 := hS; refine QB 11 (fun iA => [false, false, false, false, false, false, false, false, false, true, true].getD iA false) (fun _ => none) (fun _ v u => u = v) [⟨[], [6], true⟩, ⟨[0], [], false⟩, ⟨[], [7], true⟩, ⟨[], [1], true⟩, ⟨[], [7], true⟩, ⟨[3, 4], [], true⟩, ⟨[], [1], true⟩, ⟨[], [7], true⟩, ⟨[6, 7], [], true⟩, ⟨[5, 8], [], false⟩, ⟨[9], [], false⟩] [.k 20 (.pointer (some ((⟨g19, 0, none⟩ : Addr).add 1))), .k 21 (.slice A15 ((y.length : Int).toNat) ((y.length : Int).toNat)), .k 22 (nI z30), .k 23 (nS Ay y ky), .k 24 (nI z30), .k 25 (.slice (if ky = z30.toNat then Ay else Ay.map (·.add (z30.toNat * 1))) ((y.drop z30.toNat).length) (ky - z30.toNat)), .k 26 (nS Ay y ky), .k 27 (nI z30), .k 28 (.slice Ay ((y.take z30.toNat).length) ky), eS w33 29 22 2 [.slice (if ky = z30.toNat then Ay else Ay.map (·.add (z30.toNat * 1))) ((y.drop z30.toNat).length) (ky - z30.toNat), .slice Ay ((y.take z30.toNat).length) ky], eS w33 30 3 x54.length (is x54)] (fun _ => vbD) Try.mixed (by kernel_rfl) rfl rfl (fun _ _ _ _ _ _ _ h => h) ?_ ?_
  . refine ⟨fun _ _ _ => Je (off := 1) Zv rfl rfl <| Ja ⟨rfl, rfl⟩, og hS fun _ _ hS => Jn 0 1 JA hS rfl rfl rfl ⟨rfl, rfl⟩ <| Ja ⟨rfl, Jd _⟩, oC, oC, oC, fun _ _ _ => Jkj Jo XE3 (hS.ro hy) rfl rfl o41 rfl <| Ja ⟨rfl, rfl⟩, oC, oC, fun _ _ _ => Zc Jo XE3 (hS.ro hy) rfl rfl o45 rfl (y.take z30.toNat).length (Jcf (hS.ro hy) o45) <| Ja ⟨rfl, rfl⟩, ?_, ?_, trivial⟩
    .intro w46 hE; have hE := hE rfl; have hS := hS.grow hE; intro RR; refine Jtn (vs := [.slice (if ky = z30.toNat then Ay else Ay.map (·.add (z30.toNat * 1))) ((y.drop z30.toNat).length) (ky - z30.toNat), .slice Ay ((y.take z30.toNat).length) ky]) JA Ju rfl rfl rfl rfl (by simp [Value.oneCell']) rfl ?_; intro A47 k50 w48 hO51 hN52g hGw48; have hN52 : ∀ g, bl A47 = some g -> _ <= g := fun g hg => Nat.le_trans hE.size (hN52g g hg); exact Ja ⟨_, rfl, hGw48, ⟨A47, k50, rfl, hO51, hN52⟩, (fun _ => fun g hg => ⟨hN52g g hg, (hO51.bl_ge g hg).2⟩), (fun j h => by cases h)⟩
    intro w53 hE; have hE := hE rfl; have hS := hS.grow hE; rintro _ ⟨A47_9, k50_9, rfl, hO51_9, hN52_9⟩; intro RR; refine WL.call XF100 rfl XN100 rfl rfl (JR (Jmz (⟨_, _, hO51_9.rd, ⟨⟨_, _, _, rfl, (Jl9 (Rd.win (hS.ro hy) o41))⟩, ⟨_, _, _, rfl, (Jl9 (Jkm (hS.ro hy) o45))⟩, trivial⟩⟩ : Rl _ _ _ _ ([y.drop z30.toNat, y.take z30.toNat] : LL)) o61)) ?_; rintro _ w58 ⟨_, hGw58, hRww58, hNww58, x54q, A55, k56, rfl, rfl, he⟩; subst he; have hO59 := (hRww58.get (i := 0) rfl).1; have hN60 : ∀ g, bl A55 = some g -> _ <= g := fun g hg => Nat.le_trans hE.size (hNww58.1 g hg); exact Ja ⟨_, rfl, hGw58, ⟨A55, k56, rfl, hO59, hN60⟩, (fun _ => fun g hg => ⟨hNww58.1 g hg, (hO59.bl_ge g hg).2⟩), (fun j h => by cases h)⟩
  intro vals w62 hT hVs hAp hCp; have hS := hS.grow hT; obtain ⟨A47_9, k50_9, hv9, hO51_9, hN52_9⟩ := hVs 9 (by decide); obtain ⟨A55_10, k56_10, hv10, hO59_10, hN60_10⟩ := hVs 10 (by decide); have hS := Qg [] hS0 hS hO59_10 hN60_10 (fun s hs => by cases hs); refine YK [(9, .slice A47_9 2 k50_9), (10, nS A55_10 x54 k56_10)] ⟨hv9, hv10, trivial⟩ <| Jl 11 rfl ?_; obtain ⟨o64, hv⟩ := hv; refine JC 2 JA Ju hS rfl rfl rfl o64 rfl <| Ja <| Jl 12 rfl ?_; have hS := hS.pick [0, 2, 1, 3, 4] rfl; refine Yg hS Ju o64 (hS.rd (i := 0) rfl).ilen.symm rfl rfl ?_; intro w65 hS; refine Ja <| JK <| Js ?_; obtain ⟨o66, hv⟩ := hv; refine WL.add (r := (z30 + 1)) rfl rfl (wr o66) rfl <| Jb 2 ?_; have hS := hS.pick [1, 0, 2, 3] rfl; exact ⟨(sll x28 z30 x54, (z30 + 1), (up hs29 z30.toNat (A55_10, k56_10))), sp rfl, hv.2, rfl, hv.1, hS⟩
 have hv := hv.2 (oF c34); refine Jv <| Jc 2 <| JM 3 J3 Qd hS rfl ⟨rfl, rfl⟩ rfl <| JM 0 Qf Yq hS rfl ⟨rfl, rfl⟩ rfl <| SL.call hS (Jsf (hS.ro hf) (hS.rl (i := 1) rfl) hv) XF52 rfl XN52 rfl rfl ?_; rintro _ _ w67 ⟨r68, r69, x70, c71, x72, r73, A74, k75, A77, k78, hs79, rfl, rfl, hv⟩ hGw67 hS; have hS := hS.n2; refine Jb 2 <| Jz (cs := [nI r68, nI r69, nS A74 x70 k75, nI c71, nS A77 x72 k78]) 4 hS rfl Qm rfl rfl rfl rfl rfl ?_; intro w81 hS; refine Jb 2 <| W.ret ?_; have hS := hS.pick [1, 0, 2, 3, 4, 5] rfl
 change St _ _ _ _ [_, _, _, _, _, _] at hS
 repeat with_reducible first | refine blk.ret ?_ | refine exits.retI ?_
 refine endC.mk ⟨[.agg #[nI r68, nI r69, nS A74 x70 k75, nI c71, nS A77 x72 k78], nI r73], ⟨_, _, _, rfl, rfl, JE (cs := [nI r68, nI r69, nS A74 x70 k75, nI c71, nS A77 x72 k78]) Qm Y4 rfl (Jw (hS.own (i := 4) rfl)), ⟨_, _, rfl, rfl, rfl⟩⟩, ?_⟩; exact (hS.pick [1, 0] rfl).fin rfl ⟨r68, r69, x70, c71, x72, r73, A74, k75, A77, k78, hs79, rfl, rfl, hv⟩
def ZO (n : Int) (Q : Int × Int × LI × Int × LL × Int -> Prop) : Prop :=
  (((64 : Int) < n) -> (Q ((0 : Int), (0 : Int), ([] : LI), (0 : Int), ([] : LL), (6 : Int)))) /\ (¬ ((64 : Int) < n) -> (Jcr n (fun r17 => (((!r17) = true) -> (Q ((0 : Int), (0 : Int), ([] : LI), (0 : Int), ([] : LL), (6 : Int)))) /\ ((!r17) = false -> ((((n.tmod (8 : Int)) ≠ 1) -> ((((n.tmod (8 : Int)) ≠ 7) -> (Q ((0 : Int), (0 : Int), ([] : LI), (0 : Int), ([] : LL), (6 : Int)))) /\ (¬ ((n.tmod (8 : Int)) ≠ 7) -> ((0 <= n /\ n * 8 <= 281474976710656 /\ n <= 281474976710656) /\ (∃ (I35 : LI -> Int -> Prop) (μ36 : LI -> Int -> Nat), I35 (List.replicate n.toNat (0 : Int)) (1 : Int) /\ ∀ (x33 : LI) (z34 : Int), (I35 x33 z34 -> (((z34 < n) -> ((I64 (z34 * z34)) /\ ((n ≠ 0) /\ ((0 <= ((z34 * z34).tmod n) /\ ((z34 * z34).tmod n) < (n.toNat : Nat)) /\ ((I64 (z34 + 1)) /\ (I35 (si x33 ((z34 * z34).tmod n) (1 : Int)) (z34 + 1) /\ μ36 (si x33 ((z34 * z34).tmod n) (1 : Int)) (z34 + 1) < μ36 x33 z34)))))) /\ (¬ (z34 < n) -> (∃ J45 : LI -> Prop, ((((n.tmod (8 : Int)) = 1) -> ((0 <= (0 : Int) /\ (0 : Int) < (n.toNat : Nat)) /\ (J45 (si x33 (0 : Int) (1 : Int))))) /\ (¬ ((n.tmod (8 : Int)) = 1) -> J45 x33)) /\ ∀ (x44 : LI), (J45 x44 -> (Zz  (fun (r51, r52, x53) => Yf r51 r52 x53 x44 (fun (r58, r59, x60, c61, x62, r63) => Q (r58, r59, x60, c61, x62, r63)))))))))))))) /\ (¬ ((n.tmod (8 : Int)) ≠ 1) -> ((0 <= n /\ n * 8 <= 281474976710656 /\ n <= 281474976710656) /\ (∃ (I84 : LI -> Int -> Prop) (μ85 : LI -> Int -> Nat), I84 (List.replicate n.toNat (0 : Int)) (1 : Int) /\ ∀ (x82 : LI) (z83 : Int), (I84 x82 z83 -> (((z83 < n) -> ((I64 (z83 * z83)) /\ ((n ≠ 0) /\ ((0 <= ((z83 * z83).tmod n) /\ ((z83 * z83).tmod n) < (n.toNat : Nat)) /\ ((I64 (z83 + 1)) /\ (I84 (si x82 ((z83 * z83).tmod n) (1 : Int)) (z83 + 1) /\ μ85 (si x82 ((z83 * z83).tmod n) (1 : Int)) (z83 + 1) < μ85 x82 z83)))))) /\ (¬ (z83 < n) -> (∃ J94 : LI -> Prop, ((((n.tmod (8 : Int)) = 1) -> ((0 <= (0 : Int) /\ (0 : Int) < (n.toNat : Nat)) /\ (J94 (si x82 (0 : Int) (1 : Int))))) /\ (¬ ((n.tmod (8 : Int)) = 1) -> J94 x82)) /\ ∀ (x93 : LI), (J94 x93 -> (Zz  (fun (r100, r101, x102) => Yf r100 r101 x102 x93 (fun (r107, r108, x109, c110, x111, r112) => Q (r107, r108, x109, c110, x111, r112)))))))))))))))))
theorem Jjf {w : World} {Q : Int × Int × LI × Int × LL × Int -> Prop} {n : Int}  (hv : ZO n Q) :
   Calls Try.prog 35 #[.int .i64 n] w <| Rt w fun v Qr => ∃ (p0 : Int) (m0 : Int) (f0 : LI) (c0 : Int) (r0 : LL) (r1 : Int) (A0f : Option Addr) (k0f : Nat) (A0 : Option Addr) (k0 : Nat) (hs0 : Hs), v = .tuple #[.agg #[.int .i64 p0, .int .i64 m0, .slice A0f f0.length k0f, .int .i64 c0, .slice A0 r0.length k0], .int .i64 r1] /\ Qr = [.row 3 1 A0f f0.length k0f (is f0), mx 22 3 A0 r0.length k0 hs0 r0] /\ Q (p0, m0, f0, c0, r0, r1) := by
 refine Ji <| J4 (vs := [nI n]) [.cell 2 33, .tmp 3] XF35 rfl rfl rfl rfl ?_; have hS := Jp w; unfold ZO at hv; refine Jc 2 <| SL.alloc (cs := [nI 0, nI 0, .slice none 0 0, nI 0, .slice none 0 0]) hS Qm rfl rfl ?_; intro g11 w12 hS; refine Jb 2 <| Jc 5 <| Jk rfl rfl ?_; by_cases g13 : (64 : Int) < n
 .have hv := hv.1 g13; rw [decide_eq_true g13]; refine Jb 9 <| J1 rfl rfl <| J1 rfl rfl <| J1 rfl rfl <| Jb 3 <| Qb rfl <| Jc 2 <| J5 (cells := #[nI 0, nI 0, .slice none 0 0, nI 0, .slice none 0 0]) Jkc rfl rfl rfl <| Jz (cs := [nI 0, nI 0, .slice none 0 0, nI 0, .slice none 0 0]) 0 hS rfl Qm rfl rfl rfl rfl rfl ?_; intro w14 hS; refine Jb 2 <| W.ret ?_; have hS := hS.nil (e := 3) (z := 1); have hS := hS.mxNil 22 3; have hm4 := hS.mxlen (i := 0) rfl; have hS := hS.relenMx (i := 0) rfl hm4.symm
  change St _ _ _ _ [_, _, _] at hS
  repeat with_reducible first | refine blk.ret ?_ | refine exits.retI ?_
  refine endC.mk ⟨[.agg #[nI 0, nI 0, .slice none 0 0, nI 0, .slice none 0 0], nI 6], ⟨_, _, _, rfl, rfl, JE (cs := [nI 0, nI 0, .slice none 0 0, nI 0, .slice none 0 0]) Qm Y4 rfl (Jw (hS.own (i := 2) rfl)), ⟨_, _, rfl, rfl, rfl⟩⟩, ?_⟩; exact ⟨_, hS.ext, (hS.pick [1, 0] rfl).rows, J7 (hS.pick [1, 0] rfl).rows rfl, ⟨(0 : Int), (0 : Int), ([] : LI), (0 : Int), ([] : LL), (6 : Int), none, 0, none, 0, (fun _ => (none, 0)), (by (try unfold nS); first | (rw [show (Value.slice none 0 0) = Value.slice none (([] : LL)).length 0 from sm0 hm4.symm]; done) | (rw [show (Value.slice none 0 0) = Value.slice none (([] : LL)).length 0 from sm0 hm4.symm]; rfl)), rfl, hv⟩⟩
 have hv := hv.2 g13; rw [decide_eq_false g13]; refine Jb 3 <| SL.call hS (Jpi  hv) XF67 rfl XN67 rfl rfl ?_; rintro _ _ w16 ⟨r17, rfl, rfl, hv⟩ hGw16 hS; have hS := hS.n0; refine Jb 3 <| Jk rfl rfl ?_; rcases g18 : (!r17) with _ | _
 .have hv := hv.2 g18; refine Jb 3 <| J6 (r := (n.tmod (8 : Int))) rfl rfl (by decide) rfl rfl <| Jb 3 <| Jk rfl rfl ?_; by_cases g21 : (n.tmod (8 : Int)) ≠ 1
  .have hv := hv.1 g21; rw [decide_eq_true g21]; refine Jb 3 <| J6 (r := (n.tmod (8 : Int))) rfl rfl (by decide) rfl rfl <| Jb 6 <| Jg rfl (fun c22 => ?_) (fun c22 => ?_)
   .have hv := hv.1 (oT c22); refine Jc 2 <| J5 (cells := #[nI 0, nI 0, .slice none 0 0, nI 0, .slice none 0 0]) Jkc rfl rfl rfl <| Jz (cs := [nI 0, nI 0, .slice none 0 0, nI 0, .slice none 0 0]) 0 hS rfl Qm rfl rfl rfl rfl rfl ?_; intro w23 hS; refine Jb 2 <| W.ret ?_; have hS := hS.nil (e := 3) (z := 1); have hS := hS.mxNil 22 3; have hm4 := hS.mxlen (i := 0) rfl; have hS := hS.relenMx (i := 0) rfl hm4.symm
    change St _ _ _ _ [_, _, _] at hS
    repeat with_reducible first | refine blk.ret ?_ | refine exits.retI ?_
    refine endC.mk ⟨[.agg #[nI 0, nI 0, .slice none 0 0, nI 0, .slice none 0 0], nI 6], ⟨_, _, _, rfl, rfl, JE (cs := [nI 0, nI 0, .slice none 0 0, nI 0, .slice none 0 0]) Qm Y4 rfl (Jw (hS.own (i := 2) rfl)), ⟨_, _, rfl, rfl, rfl⟩⟩, ?_⟩; exact ⟨_, hS.ext, (hS.pick [1, 0] rfl).rows, J7 (hS.pick [1, 0] rfl).rows rfl, ⟨(0 : Int), (0 : Int), ([] : LI), (0 : Int), ([] : LL), (6 : Int), none, 0, none, 0, (fun _ => (none, 0)), (by (try unfold nS); first | (rw [show (Value.slice none 0 0) = Value.slice none (([] : LL)).length 0 from sm0 hm4.symm]; done) | (rw [show (Value.slice none 0 0) = Value.slice none (([] : LL)).length 0 from sm0 hm4.symm]; rfl)), rfl, hv⟩⟩
   have hv := hv.2 (oF c22); refine Jm <| Jc 3 ?_; obtain ⟨o25, hv⟩ := hv; refine Qn (J := n) hS Jo XE3 rfl rfl o25 (Qt _) rfl ?_; intro A26 w27 hS; refine Jb 2 <| Jc 5 <| W.block ?_; obtain ⟨I35, μ36, hv, hk73⟩ := hv; refine JB (σ := LI × Int) (fun q w1 => match q with | (x33, z34) => I35 x33 z34 /\ St TT w none w1 [.row 3 1 A26 n.toNat n.toNat (is x33), .row 33 5 (nA g11) 1 1 [nI 0, nI 0, .slice none 0 0, nI 0, .slice none 0 0]]) (fun (x33, z34) => [(0, nI n), (2, nP g11), (3, nI 0), (4, .slice A26 n.toNat n.toNat), (5, nI z34)]) (fun (x33, z34) => μ36 x33 z34) (List.replicate n.toNat (0 : Int), (1 : Int)) ⟨hv, hS⟩ ⟨rfl, rfl, rfl, rfl, rfl, trivial⟩ ?_; rintro ⟨x33, z34⟩ w37 ⟨hv, hS⟩; have hv := hk73 x33 z34 hv; refine Jc 7 <| Jg rfl (fun c38 => ?_) (fun c38 => ?_)
   .have hv := hv.1 (oT c38); refine Jm <| Jr <| W.block <| Jc 4 ?_; obtain ⟨o39, hv⟩ := hv; refine WL.mul (r := (z34 * z34)) rfl rfl (wr o39) rfl <| Jk rfl rfl ?_; obtain ⟨o40, hv⟩ := hv; refine J6 (r := ((z34 * z34).tmod n)) rfl rfl o40 rfl rfl ?_; obtain ⟨o41, hv⟩ := hv; refine Jf Jo XE3 (hS.rd (i := 0) rfl) rfl rfl o41 rfl <| Jy (cs' := is (si x33 ((z34 * z34).tmod n) (1 : Int))) 0 ((z34 * z34).tmod n).toNat hS rfl XE3 rfl rfl rfl (Qp (hS.rd (i := 0) rfl) o41) (J9 _ _ _) ?_; intro w42 hS; refine Ja <| Jc 2 ?_; obtain ⟨o43, hv⟩ := hv; refine WL.add (r := (z34 + 1)) rfl rfl (wr o43) rfl <| Jb 2 ?_; exact ⟨(si x33 ((z34 * z34).tmod n) (1 : Int), (z34 + 1)), sp rfl, hv.2, rfl, hv.1, hS⟩
   have hv := hv.2 (oF c38); refine Jv <| Jc 4 <| J6 (r := (n.tmod (8 : Int))) rfl rfl (by decide) rfl rfl <| Jb 2 ?_; obtain ⟨J45, hv, hk72⟩ := hv; refine Qe (σ := LI) (fun x44 w1 => J45 x44 /\ St TT w none w1 [.row 3 1 A26 n.toNat n.toNat (is x44), .row 33 5 (nA g11) 1 1 [nI 0, nI 0, .slice none 0 0, nI 0, .slice none 0 0]]) (fun x44 => [(2, nP g11), (3, nI 0), (4, .slice A26 n.toNat n.toNat)]) ?_ ?_
   .refine Jg rfl (fun c46 => ?_) (fun c46 => ?_)
    .have hv := hv.1 (oT c46); refine Jc 2 ?_; obtain ⟨o47, hv⟩ := hv; refine Jf Jo XE3 (hS.rd (i := 0) rfl) rfl rfl o47 rfl <| Jy (cs' := is (si x33 (0 : Int) (1 : Int))) 0 (0 : Int).toNat hS rfl XE3 rfl rfl rfl (Qp (hS.rd (i := 0) rfl) o47) (J9 _ _ _) ?_; intro w48 hS; refine Ja ?_; exact ⟨si x33 (0 : Int) (1 : Int), sp rfl, rfl, hv, hS⟩
    have hv := hv.2 (oF c46); refine Jm ?_; exact ⟨x33, sp rfl, rfl, hv, hS⟩
   rintro x44 w49 ⟨hv, hS⟩; have hv := hk72 x44 hv; refine Jc 2 <| SL.call hS (Jeh  hv) XF60 rfl XN60 rfl rfl ?_; rintro _ _ w50 ⟨r51, r52, x53, A54, k55, rfl, rfl, hv⟩ hGw50 hS; have hS := hS.n1; refine Jk rfl rfl <| SL.call hS (Jc8 (hS.rd (i := 0) rfl) (hS.rd (i := 1) rfl) hv) XF68 rfl XN68 rfl rfl ?_; rintro _ _ w57 ⟨r58, r59, x60, c61, x62, r63, A64, k65, A67, k68, hs69, rfl, rfl, hv⟩ hGw57 hS; have hS := hS.n2; refine Jb 2 <| Jz (cs := [nI r58, nI r59, nS A64 x60 k65, nI c61, nS A67 x62 k68]) 4 hS rfl Qm rfl rfl rfl rfl rfl ?_; intro w71 hS; refine Jb 2 <| W.ret ?_; have hS := hS.pick [1, 0, 2, 3, 4] rfl
   change St _ _ _ _ [_, _, _, _, _] at hS
   repeat with_reducible first | refine blk.ret ?_ | refine exits.retI ?_
   refine endC.mk ⟨[.agg #[nI r58, nI r59, nS A64 x60 k65, nI c61, nS A67 x62 k68], nI r63], ⟨_, _, _, rfl, rfl, JE (cs := [nI r58, nI r59, nS A64 x60 k65, nI c61, nS A67 x62 k68]) Qm Y4 rfl (Jw (hS.own (i := 4) rfl)), ⟨_, _, rfl, rfl, rfl⟩⟩, ?_⟩; exact (hS.pick [1, 0] rfl).fin rfl ⟨r58, r59, x60, c61, x62, r63, A64, k65, A67, k68, hs69, rfl, rfl, hv⟩
  have hv := hv.2 g21; rw [decide_eq_false g21]; refine Jb 7 <| QF rfl <| Jm <| Jc 3 ?_; obtain ⟨o74, hv⟩ := hv; refine Qn (J := n) hS Jo XE3 rfl rfl o74 (Qt _) rfl ?_; intro A75 w76 hS; refine Jb 2 <| Jc 5 <| W.block ?_; obtain ⟨I84, μ85, hv, hk122⟩ := hv; refine JB (σ := LI × Int) (fun q w1 => match q with | (x82, z83) => I84 x82 z83 /\ St TT w none w1 [.row 3 1 A75 n.toNat n.toNat (is x82), .row 33 5 (nA g11) 1 1 [nI 0, nI 0, .slice none 0 0, nI 0, .slice none 0 0]]) (fun (x82, z83) => [(0, nI n), (2, nP g11), (3, nI 0), (4, .slice A75 n.toNat n.toNat), (5, nI z83)]) (fun (x82, z83) => μ85 x82 z83) (List.replicate n.toNat (0 : Int), (1 : Int)) ⟨hv, hS⟩ ⟨rfl, rfl, rfl, rfl, rfl, trivial⟩ ?_; rintro ⟨x82, z83⟩ w86 ⟨hv, hS⟩; have hv := hk122 x82 z83 hv; refine Jc 7 <| Jg rfl (fun c87 => ?_) (fun c87 => ?_)
  .have hv := hv.1 (oT c87); refine Jm <| Jr <| W.block <| Jc 4 ?_; obtain ⟨o88, hv⟩ := hv; refine WL.mul (r := (z83 * z83)) rfl rfl (wr o88) rfl <| Jk rfl rfl ?_; obtain ⟨o89, hv⟩ := hv; refine J6 (r := ((z83 * z83).tmod n)) rfl rfl o89 rfl rfl ?_; obtain ⟨o90, hv⟩ := hv; refine Jf Jo XE3 (hS.rd (i := 0) rfl) rfl rfl o90 rfl <| Jy (cs' := is (si x82 ((z83 * z83).tmod n) (1 : Int))) 0 ((z83 * z83).tmod n).toNat hS rfl XE3 rfl rfl rfl (Qp (hS.rd (i := 0) rfl) o90) (J9 _ _ _) ?_; intro w91 hS; refine Ja <| Jc 2 ?_; obtain ⟨o92, hv⟩ := hv; refine WL.add (r := (z83 + 1)) rfl rfl (wr o92) rfl <| Jb 2 ?_; exact ⟨(si x82 ((z83 * z83).tmod n) (1 : Int), (z83 + 1)), sp rfl, hv.2, rfl, hv.1, hS⟩
  have hv := hv.2 (oF c87); refine Jv <| Jc 4 <| J6 (r := (n.tmod (8 : Int))) rfl rfl (by decide) rfl rfl <| Jb 2 ?_; obtain ⟨J94, hv, hk121⟩ := hv; refine Qe (σ := LI) (fun x93 w1 => J94 x93 /\ St TT w none w1 [.row 3 1 A75 n.toNat n.toNat (is x93), .row 33 5 (nA g11) 1 1 [nI 0, nI 0, .slice none 0 0, nI 0, .slice none 0 0]]) (fun x93 => [(2, nP g11), (3, nI 0), (4, .slice A75 n.toNat n.toNat)]) ?_ ?_
  .refine Jg rfl (fun c95 => ?_) (fun c95 => ?_)
   .have hv := hv.1 (oT c95); refine Jc 2 ?_; obtain ⟨o96, hv⟩ := hv; refine Jf Jo XE3 (hS.rd (i := 0) rfl) rfl rfl o96 rfl <| Jy (cs' := is (si x82 (0 : Int) (1 : Int))) 0 (0 : Int).toNat hS rfl XE3 rfl rfl rfl (Qp (hS.rd (i := 0) rfl) o96) (J9 _ _ _) ?_; intro w97 hS; refine Ja ?_; exact ⟨si x82 (0 : Int) (1 : Int), sp rfl, rfl, hv, hS⟩
   have hv := hv.2 (oF c95); refine Jm ?_; exact ⟨x82, sp rfl, rfl, hv, hS⟩
  rintro x93 w98 ⟨hv, hS⟩; have hv := hk121 x93 hv; refine Jc 2 <| SL.call hS (Jeh  hv) XF60 rfl XN60 rfl rfl ?_; rintro _ _ w99 ⟨r100, r101, x102, A103, k104, rfl, rfl, hv⟩ hGw99 hS; have hS := hS.n1; refine Jk rfl rfl <| SL.call hS (Jc8 (hS.rd (i := 0) rfl) (hS.rd (i := 1) rfl) hv) XF68 rfl XN68 rfl rfl ?_; rintro _ _ w106 ⟨r107, r108, x109, c110, x111, r112, A113, k114, A116, k117, hs118, rfl, rfl, hv⟩ hGw106 hS; have hS := hS.n2; refine Jb 2 <| Jz (cs := [nI r107, nI r108, nS A113 x109 k114, nI c110, nS A116 x111 k117]) 4 hS rfl Qm rfl rfl rfl rfl rfl ?_; intro w120 hS; refine Jb 2 <| W.ret ?_; have hS := hS.pick [1, 0, 2, 3, 4] rfl
  change St _ _ _ _ [_, _, _, _, _] at hS
  repeat with_reducible first | refine blk.ret ?_ | refine exits.retI ?_
  refine endC.mk ⟨[.agg #[nI r107, nI r108, nS A113 x109 k114, nI c110, nS A116 x111 k117], nI r112], ⟨_, _, _, rfl, rfl, JE (cs := [nI r107, nI r108, nS A113 x109 k114, nI c110, nS A116 x111 k117]) Qm Y4 rfl (Jw (hS.own (i := 4) rfl)), ⟨_, _, rfl, rfl, rfl⟩⟩, ?_⟩; exact (hS.pick [1, 0] rfl).fin rfl ⟨r107, r108, x109, c110, x111, r112, A113, k114, A116, k117, hs118, rfl, rfl, hv⟩
 have hv := hv.1 g18; refine Jb 4 <| J1 rfl rfl <| J1 rfl rfl <| J1 rfl rfl <| Jb 3 <| Qb rfl <| Jc 2 <| J5 (cells := #[nI 0, nI 0, .slice none 0 0, nI 0, .slice none 0 0]) Jkc rfl rfl rfl <| Jz (cs := [nI 0, nI 0, .slice none 0 0, nI 0, .slice none 0 0]) 0 hS rfl Qm rfl rfl rfl rfl rfl ?_; intro w19 hS; refine Jb 2 <| W.ret ?_; have hS := hS.nil (e := 3) (z := 1); have hS := hS.mxNil 22 3; have hm4 := hS.mxlen (i := 0) rfl; have hS := hS.relenMx (i := 0) rfl hm4.symm
 change St _ _ _ _ [_, _, _] at hS
 repeat with_reducible first | refine blk.ret ?_ | refine exits.retI ?_
 refine endC.mk ⟨[.agg #[nI 0, nI 0, .slice none 0 0, nI 0, .slice none 0 0], nI 6], ⟨_, _, _, rfl, rfl, JE (cs := [nI 0, nI 0, .slice none 0 0, nI 0, .slice none 0 0]) Qm Y4 rfl (Jw (hS.own (i := 2) rfl)), ⟨_, _, rfl, rfl, rfl⟩⟩, ?_⟩; exact ⟨_, hS.ext, (hS.pick [1, 0] rfl).rows, J7 (hS.pick [1, 0] rfl).rows rfl, ⟨(0 : Int), (0 : Int), ([] : LI), (0 : Int), ([] : LL), (6 : Int), none, 0, none, 0, (fun _ => (none, 0)), (by (try unfold nS); first | (rw [show (Value.slice none 0 0) = Value.slice none (([] : LL)).length 0 from sm0 hm4.symm]; done) | (rw [show (Value.slice none 0 0) = Value.slice none (([] : LL)).length 0 from sm0 hm4.symm]; rfl)), rfl, hv⟩⟩
end Go.Proofs.Ytjgpkljepgcekaa
namespace Go.Proofs.Ytjgpkljepgcekaa
open Go.RowKit
def Jab (n : Int) (Q : Bool -> Prop) : Prop :=
  ZO n (fun (r12, r13, x14, c15, x16, r17) => Y7 n (fun (r29, r30, x31, c32, x33, r34) => Zw r12 r13 x14 c15 x16 r17 r29 r30 x31 c32 x33 r34 (fun r46 => ((r46 = true) -> (((r34 ≠ 0) -> (YP  (fun r50 => Q r50))) /\ (¬ (r34 ≠ 0) -> ((I64 (n + 1)) /\ (((2 : Int) ≠ 0 /\ I64 ((n + 1).tdiv (2 : Int))) /\ ((((x16.length : Int) = ((n + 1).tdiv (2 : Int))) -> (YP  (fun r55 => Q r55))) /\ (¬ ((x16.length : Int) = ((n + 1).tdiv (2 : Int))) -> Q false))))))) /\ (r46 = false -> Q false))))
theorem Jhc {w : World} {Q : Bool -> Prop} {n : Int}  (hv : Jab n Q) :
   Calls Try.prog 10 #[.int .i64 n] w <| Rt w fun v Qr => ∃ (r0 : Bool), v = .bool r0 /\ Qr = [] /\ Q r0 := by
 refine Ji <| Jh (vs := [nI n]) [2] XF10 rfl rfl rfl rfl ?_; have hS := Jp w; unfold Jab at hv; refine Jc 7 <| SL.call hS (Jjf  hv) XF35 rfl XN35 rfl rfl ?_; rintro _ _ w11 ⟨r12, r13, x14, c15, x16, r17, A18, k19, A21, k22, hs23, rfl, rfl, hv⟩ hGw11 hS; have hS := hS.n2; refine Jb 3 <| SL.alloc (cs := [nI 0, nI 0, .slice none 0 0, nI 0, .slice none 0 0]) hS Qm rfl rfl ?_; intro g25 w26 hS; refine Jz (cs := [nI r12, nI r13, nS A18 x14 k19, nI c15, nS A21 x16 k22]) 0 hS rfl Qm rfl rfl rfl rfl rfl ?_; intro w27 hS; refine Jb 2 <| Jc 3 <| SL.call hS (Jg6  hv) XF36 rfl XN36 rfl rfl ?_; rintro _ _ w28 ⟨r29, r30, x31, c32, x33, r34, A35, k36, A38, k39, hs40, rfl, rfl, hv⟩ hGw28 hS; have hS := hS.n2; refine Jb 3 <| SL.alloc (cs := [nI 0, nI 0, .slice none 0 0, nI 0, .slice none 0 0]) hS Qm rfl rfl ?_; intro g42 w43 hS; refine Jz (cs := [nI r29, nI r30, nS A35 x31 k36, nI c32, nS A38 x33 k39]) 0 hS rfl Qm rfl rfl rfl rfl rfl ?_; intro w44 hS; refine Jb 2 <| Jc 2 <| JM 3 Qm Y4 hS rfl ⟨rfl, rfl⟩ rfl <| Jk rfl rfl <| JM 0 Qm Y4 hS rfl ⟨rfl, rfl⟩ rfl <| Jk rfl rfl <| SL.call hS (Jmo (hS.rd (i := 4) rfl) (hS.rl (i := 5) rfl) (hS.rd (i := 1) rfl) (hS.rl (i := 2) rfl) hv) XF31 rfl XN31 rfl rfl ?_; rintro _ _ w45 ⟨r46, rfl, rfl, hv⟩ hGw45 hS; have hS := hS.n0; refine Jk rfl rfl ?_; cases g47 : r46
 .have hv := hv.2 g47; refine Jb 3 <| J1 rfl rfl <| J1 rfl rfl <| J1 rfl rfl <| J1 rfl rfl <| J1 rfl rfl <| J1 rfl rfl <| J1 rfl rfl <| Jb 7 <| W.ret <| ⟨_, rfl, Fin.nil ?_⟩
  exact (hS.pick [] rfl).fin rfl ⟨false, rfl, rfl, hv⟩
 have hv := hv.1 g47; refine Jb 5 <| Jk rfl rfl ?_; by_cases g48 : r34 ≠ 0
 .have hv := hv.1 g48; rw [decide_eq_true g48]; refine Jb 12 <| SL.call hS (Jdb  hv) XF16 rfl XN16 rfl rfl ?_; rintro _ _ w49 ⟨r50, rfl, rfl, hv⟩ hGw49 hS; have hS := hS.n0; refine Jb 3 <| W.ret <| ⟨_, rfl, Fin.nil ?_⟩
  exact (hS.pick [] rfl).fin rfl ⟨r50, rfl, rfl, hv⟩
 have hv := hv.2 g48; rw [decide_eq_false g48]; refine WL.take rfl <| Je (off := 4) Jkf rfl rfl <| WL.take rfl <| Jn 3 4 JA hS rfl rfl rfl ⟨rfl, rfl⟩ <| WL.take rfl <| WL.len JA rfl rfl <| Jb 3 ?_; obtain ⟨o51, hv⟩ := hv; refine WL.add (r := (n + 1)) rfl rfl (wr o51) rfl <| WL.take rfl ?_; obtain ⟨o52, hv⟩ := hv; refine Jga (r := ((n + 1).tdiv (2 : Int))) rfl rfl o52.1 (wr o52.2) rfl <| Jb 5 <| Jk rfl rfl ?_; by_cases g53 : (x16.length : Int) = ((n + 1).tdiv (2 : Int))
 .have hv := hv.1 g53; rw [decide_eq_true g53]; refine WL.take rfl <| SL.call hS (Jdb  hv) XF16 rfl XN16 rfl rfl ?_; rintro _ _ w54 ⟨r55, rfl, rfl, hv⟩ hGw54 hS; have hS := hS.n0; refine Jb 3 <| W.ret <| ⟨_, rfl, Fin.nil ?_⟩
  exact (hS.pick [] rfl).fin rfl ⟨r55, rfl, rfl, hv⟩
 have hv := hv.2 g53; rw [decide_eq_false g53]; refine Jb 4 <| W.ret <| ⟨_, rfl, Fin.nil ?_⟩
 exact (hS.pick [] rfl).fin rfl ⟨false, rfl, rfl, hv⟩
end Go.Proofs.Ytjgpkljepgcekaa
namespace Go.Proofs.Ytjgpkljepgcekaa
abbrev Vec := Nat -> Int
def tX (m : Nat) (c : Vec) (v : Vec) : Vec := fun i => if i < m then (if i = 0 then 0 else v (i - 1)) - c i * v (m - 1) else 0
def JP (u v : Vec) : Vec := fun i => u i + v i
def vsm (a : Int) (v : Vec) : Vec := fun i => a * v i
def vz : Vec := fun _ => 0
def e0 : Vec := fun i => if i = 0 then 1 else 0
def tXn (m : Nat) (c : Vec) : Nat -> Vec -> Vec
  | 0, v => v
  | n + 1, v => tX m c (tXn m c n v)
def opr (m : Nat) (c b : Vec) : Nat -> Vec -> Vec
  | 0, _ => vz
  | n + 1, v => JP (opr m c b n v) (vsm (b n) (tXn m c n v))
def Q5 (m : Nat) (c a b : Vec) : Vec := opr m c b m a
section
variable (m : Nat) (c : Vec)
theorem tX_add (u v : Vec) : tX m c (JP u v) = JP (tX m c u) (tX m c v) := by
 funext i; simp only [tX, JP]; split
 .split <;> grind
 .rfl
theorem tX_sm (a : Int) (v : Vec) : tX m c (vsm a v) = vsm a (tX m c v) := by
 funext i; simp only [tX, vsm]; split
 .split <;> grind
 .grind
theorem tX_z : tX m c vz = vz := by funext i; simp [tX, vz]
theorem ZX (u : Vec) : JP u vz = u := by funext i; simp [JP, vz]
theorem z_vadd (u : Vec) : JP vz u = u := by funext i; simp [JP, vz]
theorem Jea (u v : Vec) : JP u v = JP v u := by funext i; simp only [JP]; omega
theorem YQ (u v w : Vec) : JP (JP u v) w = JP u (JP v w) := by funext i; simp only [JP]; omega
theorem Jb7 (a : Int) (u v : Vec) : vsm a (JP u v) = JP (vsm a u) (vsm a v) := by funext i; simp only [JP, vsm]; grind
theorem Jex (a b : Int) (u : Vec) : vsm a (vsm b u) = vsm (a * b) u := by funext i; simp only [vsm]; grind
theorem Jkq (a : Int) : vsm a vz = vz := by funext i; simp [vsm, vz]
theorem Jag (n : Nat) (u v : Vec) : tXn m c n (JP u v) = JP (tXn m c n u) (tXn m c n v) := by
 induction n with
 | zero => rfl
 | succ n ih => simp only [tXn, ih, tX_add]
theorem Ja5 (n : Nat) (a : Int) (v : Vec) : tXn m c n (vsm a v) = vsm a (tXn m c n v) := by
 induction n with
 | zero => rfl
 | succ n ih => simp only [tXn, ih, tX_sm]
theorem Jgs (n : Nat) : tXn m c n vz = vz := by
 induction n with
 | zero => rfl
 | succ n ih => simp only [tXn, ih, tX_z]
theorem Jop (n : Nat) (v : Vec) : tXn m c n (tX m c v) = tX m c (tXn m c n v) := by
 induction n with
 | zero => rfl
 | succ n ih => simp only [tXn, ih]
theorem Jca (n k : Nat) (v : Vec) : tXn m c n (tXn m c k v) = tXn m c (n + k) v := by
 induction n with
 | zero => simp [tXn]
 | succ n ih => rw [Nat.succ_add]; simp only [tXn, ih]
variable (b : Vec)
theorem Jk6 (n : Nat) (u v : Vec) : opr m c b n (JP u v) = JP (opr m c b n u) (opr m c b n v) := by
 induction n with
 | zero => simp [opr, ZX]
 | succ n ih => simp only [opr, ih, Jag, Jb7]; funext i; simp only [JP]; omega
theorem Ji8 (n : Nat) (a : Int) (v : Vec) : opr m c b n (vsm a v) = vsm a (opr m c b n v) := by
 induction n with
 | zero => simp [opr, Jkq]
 | succ n ih => simp only [opr, ih, Ja5, Jb7, Jex]; rw [Int.mul_comm (b n) a]
theorem opr_z (n : Nat) : opr m c b n vz = vz := by
 induction n with
 | zero => rfl
 | succ n ih => simp only [opr, ih, Jgs, Jkq, ZX]
theorem Jk5 (n k : Nat) (v : Vec) : opr m c b n (tXn m c k v) = tXn m c k (opr m c b n v) := by
 induction n with
 | zero => simp [opr, Jgs]
 | succ n ih => simp only [opr, ih, Jag, Ja5, Jca]; rw [Nat.add_comm n k]
theorem Jg3 (d : Vec) (n k : Nat) (v : Vec) : opr m c b n (opr m c d k v) = opr m c d k (opr m c b n v) := by
 induction n with
 | zero => simp only [opr, opr_z]
 | succ n ih => simp only [opr, ih, Jk6, Ji8, Jk5]
theorem Jpd (d : Vec) (n : Nat) (v : Vec) : opr m c (JP b d) n v = JP (opr m c b n v) (opr m c d n v) := by
 induction n with
 | zero => simp [opr, ZX]
 | succ n ih => simp only [opr, ih]; funext i; simp only [JP, vsm]; grind
end
def vei (k : Nat) : Vec := fun i => if i = k then 1 else 0
theorem Jix {m : Nat} {c : Vec} : ∀ {k : Nat}, k < m -> tXn m c k e0 = vei k
 | 0, _ => rfl
 | k + 1, h => by
  have ih : tXn m c k e0 = vei k := Jix (by omega); simp only [tXn, ih]; funext i; simp only [tX, vei]; split
  .rw [if_neg (show ¬ m - 1 = k by omega)]; by_cases h0 : i = 0
   .subst h0; simp
   .simp only [h0, if_false]; by_cases h1 : i = k + 1
    .subst h1; simp
    .rw [if_neg (by omega), if_neg h1]; simp
  .rw [if_neg (by omega)]
theorem Jfc {m : Nat} {c a : Vec} : ∀ {n : Nat}, n <= m -> ∀ i, opr m c a n e0 i = if i < n then a i else 0
  | 0, _, i => by simp [opr, vz]
  | n + 1, h, i => by
    simp only [opr, JP, vsm]
    rw [Jfc (n := n) (by omega) i, Jix (by omega)]
    simp only [vei]
    by_cases h1 : i = n
    . subst h1; simp
    . by_cases h2 : i < n
      . simp [h2, h1, show i < n + 1 by omega]
      . simp [h2, h1, show ¬ i < n + 1 by omega]
def Sup (m : Nat) (v : Vec) : Prop := ∀ i, m <= i -> v i = 0
theorem YH {m : Nat} {c a : Vec} (h : Sup m a) : opr m c a m e0 = a := by
 funext i; rw [Jfc (Nat.le_refl m)]; split
 .rfl
 .exact (h i (by omega)).symm
theorem Sup.z {m : Nat} : Sup m vz := fun _ _ => rfl
theorem Sup.tX {m : Nat} {c v : Vec} : Sup m (tX m c v) := fun i h => by simp [Go.Proofs.Ytjgpkljepgcekaa.tX, show ¬ i < m by omega]
theorem Sup.add {m : Nat} {u v : Vec} (hu : Sup m u) (hv : Sup m v) : Sup m (JP u v) := fun i h => by simp [JP, hu i h, hv i h]
theorem Sup.sm {m : Nat} {a : Int} {v : Vec} (hv : Sup m v) : Sup m (vsm a v) := fun i h => by simp [vsm, hv i h]
theorem Sup.tXn {m : Nat} {c v : Vec} (hv : Sup m v) : ∀ n, Sup m (tXn m c n v)
 | 0 => hv
 | _ + 1 => Sup.tX
theorem Sup.opr {m : Nat} {c b v : Vec} (hv : Sup m v) : ∀ n, Sup m (opr m c b n v)
 | 0 => Sup.z
 | n + 1 => (Sup.opr hv n).add (hv.tXn n).sm
theorem ZA {m : Nat} {c a b : Vec} (ha : Sup m a) (hb : Sup m b) : Q5 m c a b = Q5 m c b a := by
 unfold Q5
 calc opr m c b m a = opr m c b m (opr m c a m e0) := by rw [YH ha]
  _ = opr m c a m (opr m c b m e0) := Jg3 ..
  _ = opr m c a m b := by rw [YH hb]
theorem Jiu {m : Nat} {c a b d : Vec} (ha : Sup m a) (hb : Sup m b) (hd : Sup m d) : Q5 m c (Q5 m c a b) d = Q5 m c a (Q5 m c b d) := by
 rw [ZA (a := a) (b := Q5 m c b d) ha (Sup.opr hb m)]; show opr m c d m (opr m c b m a) = opr m c a m (opr m c d m b); rw [<- Jg3 m c d a m m b]; show opr m c d m (Q5 m c a b) = opr m c d m (Q5 m c b a); rw [ZA ha hb]
theorem Jof {m : Nat} {c a b d : Vec} : Q5 m c a (JP b d) = JP (Q5 m c a b) (Q5 m c a d) := Jpd ..
theorem Joe {m : Nat} {c a : Vec} (hm : 0 < m) : Q5 m c a e0 = a := by
 have key : ∀ n, 0 < n -> opr m c e0 n a = a := by
  intro n
  induction n with
  | zero => intro h; omega
  | succ n ih =>
   intro _; rcases Nat.eq_zero_or_pos n with h | h
   .subst h; funext i; simp [opr, e0, JP, vsm, vz, tXn]
   .simp only [opr, ih h]; funext i; simp [e0, JP, vsm, show n ≠ 0 by omega]
 exact key m hm
def vcg (p : Int) (u v : Vec) : Prop := ∀ i, u i % p = v i % p
section
variable {p : Int} {m : Nat} {c c' u u' v v' b b' : Vec}
theorem vcg.refl (u : Vec) : vcg p u u := fun _ => rfl
theorem vcg.symm (h : vcg p u v) : vcg p v u := fun i => (h i).symm
theorem vcg.trans {w : Vec} (h : vcg p u v) (k : vcg p v w) : vcg p u w := fun i => (h i).trans (k i)
theorem Jbe {a a' d d' : Int} (h : a % p = a' % p) (k : d % p = d' % p) : (a * d) % p = (a' * d') % p := by
 rw [Int.mul_emod, h, k, <- Int.mul_emod]
theorem Jbm {a a' d d' : Int} (h : a % p = a' % p) (k : d % p = d' % p) : (a + d) % p = (a' + d') % p := by
 rw [Int.add_emod, h, k, <- Int.add_emod]
theorem Jiy {a a' d d' : Int} (h : a % p = a' % p) (k : d % p = d' % p) : (a - d) % p = (a' - d') % p := by
 rw [Int.sub_emod, h, k, <- Int.sub_emod]
theorem vcg.add (h : vcg p u u') (k : vcg p v v') : vcg p (JP u v) (JP u' v') := fun i => Jbm (h i) (k i)
theorem vcg.sm {a a' : Int} (ha : a % p = a' % p) (h : vcg p u u') : vcg p (vsm a u) (vsm a' u') := fun i => Jbe ha (h i)
theorem vcg.tX (hc : vcg p c c') (h : vcg p u u') : vcg p (tX m c u) (tX m c' u') := fun i => by
 simp only [Go.Proofs.Ytjgpkljepgcekaa.tX]; split
 .split
  .exact Jiy rfl (Jbe (hc i) (h _))
  .exact Jiy (h _) (Jbe (hc i) (h _))
 .rfl
theorem vcg.tXn (hc : vcg p c c') (h : vcg p u u') : ∀ n, vcg p (tXn m c n u) (tXn m c' n u')
 | 0 => h
 | n + 1 => vcg.tX hc (vcg.tXn hc h n)
theorem vcg.opr (hc : vcg p c c') (hb : vcg p b b') (h : vcg p u u') : ∀ n, vcg p (opr m c b n u) (opr m c' b' n u')
 | 0 => .refl _
 | n + 1 => (vcg.opr hc hb h n).add (vcg.sm (hb n) (vcg.tXn hc h n))
theorem vcg.mul (hc : vcg p c c') (h : vcg p u u') (hb : vcg p b b') : vcg p (Q5 m c u b) (Q5 m c' u' b') := vcg.opr hc hb h m
end
end Go.Proofs.Ytjgpkljepgcekaa
namespace Go.Proofs.Ytjgpkljepgcekaa
def dv (p x : Nat) : Vec := fun i => ((x / p ^ i % p : Nat) : Int)
def vl (p : Nat) : Nat -> Vec -> Int
  | 0, _ => 0
  | n + 1, v => v 0 + (p : Int) * vl p n (fun i => v (i + 1))
def Cn (p n : Nat) (v : Vec) : Prop := ∀ i, i < n -> 0 <= v i /\ v i < p
def nm (p m : Nat) (v : Vec) : Nat := (vl p m (fun i => v i % (p : Int))).toNat
theorem YZ (p x i : Nat) : dv p x (i + 1) = dv p (x / p) i := by
 simp only [dv]; rw [Nat.pow_succ', <- Nat.div_div_eq_div_mul]
theorem Ys (p x : Nat) : dv p x 0 = ((x % p : Nat) : Int) := by simp [dv]
theorem Cn.tl {p n : Nat} {v : Vec} (h : Cn p (n + 1) v) : Cn p n (fun i => v (i + 1)) := fun i hi => h (i + 1) (by omega)
theorem Jkr {p : Nat} (hp : 0 < p) : ∀ {n : Nat} {v : Vec}, Cn p n v -> 0 <= vl p n v /\ vl p n v < ((p ^ n : Nat) : Int)
 | 0, v, _ => by simp [vl]
 | n + 1, v, h => by
  have ih := Jkr hp h.tl; have h0 := h 0 (by omega); simp only [vl]; have h1 : (p : Int) * vl p n (fun i => v (i + 1)) <= p * (((p ^ n : Nat) : Int) - 1) := Int.mul_le_mul_of_nonneg_left (by omega) (by omega); have h2 : 0 <= (p : Int) * vl p n (fun i => v (i + 1)) := Int.mul_nonneg (by omega) ih.1; have h3 : ((p ^ (n + 1) : Nat) : Int) = p * ((p ^ n : Nat) : Int) := by rw [Nat.pow_succ']; push_cast; rfl
  have h4 : (p : Int) * (((p ^ n : Nat) : Int) - 1) = p * ((p ^ n : Nat) : Int) - p := by rw [Int.mul_sub, Int.mul_one]
  omega
theorem Jcv {p : Nat} : ∀ {n : Nat} {u v : Vec}, (∀ i, i < n -> u i = v i) -> vl p n u = vl p n v
 | 0, _, _, _ => rfl
 | n + 1, u, v, h => by simp only [vl]; rw [h 0 (by omega), Jcv (n := n) fun i hi => h (i + 1) (by omega)]
theorem Jog {p : Nat} (hp : 0 < p) : ∀ {n x : Nat}, x < p ^ n -> vl p n (dv p x) = x
 | 0, x, h => by simp at h; subst h; rfl
 | n + 1, x, h => by
  simp only [vl]; have : (fun i => dv p x (i + 1)) = dv p (x / p) := by funext i; exact YZ p x i
  rw [this, Jog hp (n := n) (by rw [Nat.div_lt_iff_lt_mul hp, <- Nat.pow_succ]; exact h), Ys]; have := Nat.mod_add_div x p; have h2 : ((x % p + p * (x / p) : Nat) : Int) = (x : Int) := by rw [this]
  push_cast at h2 ⊢; exact h2
theorem dv_vl {p : Nat} (hp : 0 < p) : ∀ {n : Nat} {v : Vec}, Cn p n v -> ∀ i, i < n -> dv p (vl p n v).toNat i = v i
 | 0, _, _, i, hi => by omega
 | n + 1, v, h, i, hi => by
  have ih := Jkr hp h.tl; have h0 := h 0 (by omega); obtain ⟨t, ht⟩ := Int.eq_ofNat_of_zero_le ih.1; obtain ⟨a, ha⟩ := Int.eq_ofNat_of_zero_le h0.1; have hv : (vl p (n + 1) v).toNat = a + p * t := by
   simp only [vl]; rw [ht, ha]; have : (a : Int) + (p : Int) * (t : Int) = ((a + p * t : Nat) : Int) := by push_cast; rfl
   rw [this]; rfl
  have hap : a < p := by have := h0.2; rw [ha] at this; omega
  rw [hv]; cases i with
  | zero => rw [Ys, Nat.add_mul_mod_self_left, Nat.mod_eq_of_lt hap, ha]
  | succ i =>
   rw [YZ]; have h2 : (a + p * t) / p = t := by rw [Nat.add_mul_div_left _ _ hp, Nat.div_eq_of_lt hap, Nat.zero_add]
   have ih2 := dv_vl hp h.tl i (by omega); rw [ht] at ih2; rw [h2]; exact ih2
section
variable {p m : Nat}
theorem md_cn (hp : 0 < p) (v : Vec) (n : Nat) : Cn p n (fun i => v i % (p : Int)) := fun i _ => ⟨Int.emod_nonneg _ (by omega), Int.emod_lt_of_pos _ (by omega)⟩
theorem ZV (hp : 0 < p) (v : Vec) : nm p m v < p ^ m := by
 have := Jkr hp (md_cn hp v m); unfold nm; omega
theorem Jlm (hp : 0 < p) (v : Vec) {i : Nat} (hi : i < m) : dv p (nm p m v) i = v i % (p : Int) := dv_vl hp (md_cn hp v m) i hi
theorem Jel (hp : 0 < p) (x n : Nat) : Cn p n (dv p x) := fun i _ => by
 have := Nat.mod_lt (x / p ^ i) hp; simp only [dv]; omega
theorem Jp9 {x i : Nat} (hx : x < p ^ m) (hi : m <= i) : dv p x i = 0 := by
 rcases Nat.eq_zero_or_pos p with rfl | hp
 .simp only [dv]; cases m with
  | zero =>
   have : x = 0 := by simpa using hx
   subst this; simp
  | succ m => simp at hx
 .have : x / p ^ i = 0 := Nat.div_eq_of_lt (Nat.lt_of_lt_of_le hx (Nat.pow_le_pow_right hp hi)); simp [dv, this]
theorem Q0 {x : Nat} (hx : x < p ^ m) : Sup m (dv p x) := fun i hi => Jp9 hx hi
theorem Z2 (x i : Nat) : dv p x i % (p : Int) = dv p x i := by
 simp only [dv]; rw [<- Int.natCast_emod, Nat.mod_mod]
theorem ZW (hp : 0 < p) {x : Nat} (hx : x < p ^ m) : nm p m (dv p x) = x := by
 unfold nm; rw [Jcv (v := dv p x) fun i _ => Z2 x i, Jog hp hx]; rfl
theorem Jpn {u v : Vec} (h : ∀ i, i < m -> u i % (p : Int) = v i % (p : Int)) : nm p m u = nm p m v := by
 unfold nm; rw [Jcv h]
theorem YD {u v : Vec} (h : vcg p u v) : nm p m u = nm p m v := Jpn fun i _ => h i
theorem Jh0 (hp : 0 < p) {v : Vec} (hv : Sup m v) : vcg p (dv p (nm p m v)) v := fun i => by
 rcases Nat.lt_or_ge i m with h | h
 .rw [Jlm hp v h, Int.emod_emod]
 .rw [Jp9 (ZV hp v) h, hv i h]
theorem nm_eq (hp : 0 < p) {x : Nat} {v : Vec} (hx : x < p ^ m) (h : ∀ i, i < m -> dv p x i = v i % (p : Int)) : nm p m v = x := by
 rw [<- ZW hp hx]; exact Jpn fun i hi => by rw [h i hi, Int.emod_emod]
end
def JU (p m x y : Nat) : Nat := nm p m (JP (dv p x) (dv p y))
def Yd (p m x : Nat) : Nat := nm p m (vsm (-1) (dv p x))
def Jt (p m : Nat) (c : Vec) (x y : Nat) : Nat := nm p m (Q5 m c (dv p x) (dv p y))
section
variable {p m : Nat} {c : Vec}
theorem Jll (hp : 0 < p) (x y : Nat) : JU p m x y < p ^ m := ZV hp _
theorem Jck (hp : 0 < p) (x : Nat) : Yd p m x < p ^ m := ZV hp _
theorem Jfw (hp : 0 < p) (x y : Nat) : Jt p m c x y < p ^ m := ZV hp _
theorem Jf1 (hp : 0 < p) {x y : Nat} (hx : x < p ^ m) (hy : y < p ^ m) : vcg p (dv p (JU p m x y)) (JP (dv p x) (dv p y)) := Jh0 hp ((Q0 hx).add (Q0 hy))
theorem Js0 (hp : 0 < p) {x : Nat} (hx : x < p ^ m) : vcg p (dv p (Yd p m x)) (vsm (-1) (dv p x)) := Jh0 hp (Q0 hx).sm
theorem Jod {a b : Vec} (ha : Sup m a) : Sup m (Q5 m c a b) := Sup.opr ha m
theorem Jaq (hp : 0 < p) {x y : Nat} (hx : x < p ^ m) : vcg p (dv p (Jt p m c x y)) (Q5 m c (dv p x) (dv p y)) := Jh0 hp (Jod (Q0 hx))
theorem Jm9 (x y : Nat) : JU p m x y = JU p m y x := by unfold JU; rw [Jea]
theorem Jjx (hp : 0 < p) {x y z : Nat} (hx : x < p ^ m) (hy : y < p ^ m) (hz : z < p ^ m) : JU p m (JU p m x y) z = JU p m x (JU p m y z) := by
 show nm p m (JP (dv p (JU p m x y)) (dv p z)) = nm p m (JP (dv p x) (dv p (JU p m y z))); rw [YD ((Jf1 hp hx hy).add (vcg.refl _)), YD ((vcg.refl (p := p) (dv p x)).add (Jf1 hp hy hz)), YQ]
theorem Jdl (p : Nat) : dv p 0 = vz := by funext i; simp [dv, vz]
theorem Jm8 (hp : 0 < p) {x : Nat} (hx : x < p ^ m) : JU p m x 0 = x := by unfold JU; rw [Jdl, ZX, ZW hp hx]
theorem Zq (hp : 0 < p) {x : Nat} (hx : x < p ^ m) : JU p m x (Yd p m x) = 0 := by
 show nm p m (JP (dv p x) (dv p (Yd p m x))) = 0; rw [YD ((vcg.refl (p := p) (dv p x)).add (Js0 hp hx))]; have : JP (dv p x) (vsm (-1) (dv p x)) = vz := by funext i; simp only [JP, vsm, vz]; omega
 rw [this, <- Jdl p, ZW hp (by exact Nat.pow_pos hp)]
theorem Jbg {x y : Nat} (hx : x < p ^ m) (hy : y < p ^ m) : Jt p m c x y = Jt p m c y x := by
 unfold Jt; rw [ZA (Q0 hx) (Q0 hy)]
theorem Jjv (hp : 0 < p) {x y z : Nat} (hx : x < p ^ m) (hy : y < p ^ m) (hz : z < p ^ m) : Jt p m c (Jt p m c x y) z = Jt p m c x (Jt p m c y z) := by
 show nm p m (Q5 m c (dv p (Jt p m c x y)) (dv p z)) = nm p m (Q5 m c (dv p x) (dv p (Jt p m c y z))); rw [YD (vcg.mul (vcg.refl c) (Jaq hp hx) (vcg.refl _)), YD (vcg.mul (vcg.refl c) (vcg.refl (dv p x)) (Jaq hp hy)), Jiu (Q0 hx) (Q0 hy) (Q0 hz)]
theorem Jf0 (hp : 2 <= p) : dv p 1 = e0 := by
 funext i; cases i with
 | zero => rw [Ys, Nat.mod_eq_of_lt (by omega)]; rfl
 | succ i =>
  have : (1 : Nat) / p ^ (i + 1) = 0 := Nat.div_eq_of_lt (Nat.one_lt_pow (by omega) (by omega)); simp [dv, this, e0]
theorem Jdi (hp : 2 <= p) (hm : 0 < m) {x : Nat} (hx : x < p ^ m) : Jt p m c x 1 = x := by
 unfold Jt; rw [Jf0 hp, Joe hm, ZW (by omega) hx]
theorem Jm6 (hp : 0 < p) {x : Nat} (hx : x < p ^ m) : Jt p m c x 0 = 0 := by
 rw [Jbg hx (Nat.pow_pos hp)]; unfold Jt; rw [Jdl]; have : Q5 m c vz (dv p x) = vz := opr_z ..; rw [this, <- Jdl p, ZW hp (Nat.pow_pos hp)]
theorem Jp0 (hp : 0 < p) {x y z : Nat} (hx : x < p ^ m) (hy : y < p ^ m) (hz : z < p ^ m) : Jt p m c x (JU p m y z) = JU p m (Jt p m c x y) (Jt p m c x z) := by
 show nm p m (Q5 m c (dv p x) (dv p (JU p m y z))) = nm p m (JP (dv p (Jt p m c x y)) (dv p (Jt p m c x z))); rw [YD (vcg.mul (vcg.refl c) (vcg.refl (dv p x)) (Jf1 hp hy hz)), YD ((Jaq (c := c) hp hx).add (Jaq hp hx)), Jof]
end
structure CR (q : Nat) (A M : Nat -> Nat -> Nat) : Prop where
  q2 : 2 <= q
  Al : ∀ x y, A x y < q
  Ml : ∀ x y, M x y < q
  Ac : ∀ x y, A x y = A y x
  Aa : ∀ {x y z}, x < q -> y < q -> z < q -> A (A x y) z = A x (A y z)
  Az : ∀ {x}, x < q -> A x 0 = x
  An : ∀ {x}, x < q -> ∃ y, y < q /\ A x y = 0
  Mc : ∀ {x y}, x < q -> y < q -> M x y = M y x
  Ma : ∀ {x y z}, x < q -> y < q -> z < q -> M (M x y) z = M x (M y z)
  M1 : ∀ {x}, x < q -> M x 1 = x
  M0 : ∀ {x}, x < q -> M x 0 = 0
  Md : ∀ {x y z}, x < q -> y < q -> z < q -> M x (A y z) = A (M x y) (M x z)
theorem Jko {p m : Nat} (c : Vec) (hp : 2 <= p) (hm : 0 < m) : CR (p ^ m) (JU p m) (Jt p m c) where
 q2 := Nat.le_trans hp (by have := Nat.pow_le_pow_right (n := p) (by omega) hm; simpa using this)
 Al := Jll (by omega)
 Ml := Jfw (by omega)
 Ac := Jm9
 Aa := Jjx (by omega)
 Az := Jm8 (by omega)
 An := fun {x} hx => ⟨Yd p m x, Jck (by omega) x, Zq (by omega) hx⟩
 Mc := Jbg
 Ma := Jjv (by omega)
 M1 := Jdi hp hm
 M0 := Jm6 (by omega)
 Md := Jp0 (by omega)
end Go.Proofs.Ytjgpkljepgcekaa
namespace Go.Proofs.Ytjgpkljepgcekaa
def pw (M : Nat -> Nat -> Nat) (g : Nat) : Nat -> Nat
  | 0 => 1
  | k + 1 => M (pw M g k) g
theorem php : ∀ (n : Nat) (f : Nat -> Nat), (∀ i, i < n + 1 -> f i < n) -> ∃ i j, i < j /\ j < n + 1 /\ f i = f j
 | 0, f, h => absurd (h 0 (by omega)) (by omega)
 | n + 1, f, h => by
  by_cases hc : ∃ i, i < n + 1 /\ f i = f (n + 1)
  .obtain ⟨i, hi, he⟩ := hc; exact ⟨i, n + 1, hi, by omega, he⟩
  .have hv := h (n + 1) (by omega); obtain ⟨i, j, hij, hj, he⟩ := php n (fun i => if f i = n then f (n + 1) else f i) (fun i hi => by
    have hne : f i ≠ f (n + 1) := fun e => hc ⟨i, hi, e⟩; have := h i (by omega); show (if f i = n then f (n + 1) else f i) < n; split
    .omega
    .omega)
   refine ⟨i, j, hij, by omega, ?_⟩; have hi1 : f i ≠ f (n + 1) := fun e => hc ⟨i, by omega, e⟩; have hj1 : f j ≠ f (n + 1) := fun e => hc ⟨j, by omega, e⟩; split at he <;> split at he <;> omega
theorem Jgu {n : Nat} {f : Nat -> Nat} (hb : ∀ i, i < n -> f i < n) (hi : ∀ i j, i < j -> j < n -> f i ≠ f j) {y : Nat} (hy : y < n) : ∃ i, i < n /\ f i = y := by
 obtain ⟨i, j, hij, hj, he⟩ := php n (fun i => if i < n then f i else y) (fun i _ => by
  show (if i < n then f i else y) < n; split
  .rename_i h; exact hb i h
  .exact hy)
 rcases Nat.lt_or_ge j n with h | h
 .rw [if_pos h, if_pos (show i < n by omega)] at he; exact absurd he (hi i j hij h)
 .rw [if_neg (show ¬ j < n by omega), if_pos (show i < n by omega)] at he; exact ⟨i, by omega, he⟩
section
variable {q : Nat} {A M : Nat -> Nat -> Nat} (R : CR q A M)
include R
namespace CR
theorem one_lt : 1 < q := R.q2
theorem pos : 0 < q := by have := R.q2; omega
theorem I1 {x : Nat} (hx : x < q) : M 1 x = x := by rw [R.Mc R.one_lt hx, R.M1 hx]
theorem Z0 {x : Nat} (hx : x < q) : M 0 x = 0 := by rw [R.Mc R.pos hx, R.M0 hx]
theorem zA {x : Nat} (hx : x < q) : A 0 x = x := by rw [R.Ac, R.Az hx]
theorem pw_lt (g : Nat) : ∀ k, pw M g k < q
 | 0 => R.one_lt
 | k + 1 => R.Ml _ _
theorem pw_one {g : Nat} (hg : g < q) : pw M g 1 = g := R.I1 hg
theorem pw_add {g : Nat} (hg : g < q) (i : Nat) : ∀ j, pw M g (i + j) = M (pw M g i) (pw M g j)
 | 0 => (R.M1 (R.pw_lt g i)).symm
 | j + 1 => by
  show M (pw M g (i + j)) g = M (pw M g i) (M (pw M g j) g); rw [pw_add hg i j, R.Ma (R.pw_lt g i) (R.pw_lt g j) hg]
theorem pw_pw {g : Nat} (hg : g < q) (i : Nat) : ∀ j, pw M (pw M g i) j = pw M g (i * j)
 | 0 => rfl
 | j + 1 => by
  show M (pw M (pw M g i) j) (pw M g i) = _; rw [pw_pw hg i j, <- R.pw_add hg]; rfl
theorem one_pw : ∀ j, pw M 1 j = 1
 | 0 => rfl
 | j + 1 => by show M (pw M 1 j) 1 = 1; rw [one_pw j, R.M1 R.one_lt]
theorem zero_pw {n : Nat} (h : 0 < n) : pw M 0 n = 0 := by
 cases n with
 | zero => omega
 | succ n => exact R.M0 (R.pw_lt 0 n)
end CR
end
structure Gn (q : Nat) (M : Nat -> Nat -> Nat) (g : Nat) : Prop where
  lt : g < q
  one : pw M g (q - 1) = 1
  no : ∀ k, 0 < k -> k < q - 1 -> pw M g k ≠ 1
namespace Gn
variable {q g : Nat} {A M : Nat -> Nat -> Nat}
theorem per (G : Gn q M g) (R : CR q A M) (i k : Nat) : pw M g (i + (q - 1) * k) = pw M g i := by
 rw [R.pw_add G.lt, <- R.pw_pw G.lt, G.one, R.one_pw, R.M1 (R.pw_lt g i)]
theorem ne0 (G : Gn q M g) (R : CR q A M) (k : Nat) : pw M g k ≠ 0 := fun h => by
 have h1 := G.per R 0 (k + 1); have hq := R.q2; rw [Nat.zero_add] at h1; have : (q - 1) * (k + 1) = k + ((q - 1) * (k + 1) - k) := by
  have : k + 1 <= (q - 1) * (k + 1) := Nat.le_mul_of_pos_left _ (by omega); omega
 rw [this, R.pw_add G.lt, h, R.Z0 (R.pw_lt g _)] at h1; exact absurd h1 (by show ¬ (0 : Nat) = 1; omega)
theorem inj (G : Gn q M g) (R : CR q A M) {i j : Nat} (hij : i < j) (hj : j < q - 1) : pw M g i ≠ pw M g j := fun h => by
 have e1 : M (pw M g i) (pw M g (q - 1 - i)) = 1 := by rw [<- R.pw_add G.lt, show i + (q - 1 - i) = q - 1 by omega, G.one]
 have e2 : M (pw M g j) (pw M g (q - 1 - i)) = pw M g (j - i) := by
  rw [<- R.pw_add G.lt, show j + (q - 1 - i) = (j - i) + (q - 1) * 1 by omega, G.per R]
 rw [h] at e1; exact G.no (j - i) (by omega) (by omega) (e2.symm.trans e1)
theorem surj (G : Gn q M g) (R : CR q A M) {x : Nat} (h0 : 0 < x) (hx : x < q) : ∃ k, k < q - 1 /\ pw M g k = x := by
 obtain ⟨i, hi, he⟩ := Jgu (n := q - 1) (f := fun k => pw M g k - 1) (fun i hi => by
  have := R.pw_lt g i; have := G.ne0 R i; show pw M g i - 1 < q - 1; omega) (fun i j hij hj he => by
  have h1 := G.ne0 R i; have h2 := G.ne0 R j; exact G.inj R hij hj (by omega)) (y := x - 1) (by omega)
 have := G.ne0 R i; exact ⟨i, hi, by omega⟩
open Classical in
noncomputable def lg (q : Nat) (M : Nat -> Nat -> Nat) (g x : Nat) : Nat := if h : ∃ k, k < q - 1 /\ pw M g k = x then Classical.choose h else 0
theorem xone (G : Gn q M g) (R : CR q A M) {x : Nat} (h0 : 0 < x) (hx : x < q) : pw M x (q - 1) = 1 := by
  obtain ⟨k, hk, rfl⟩ := G.surj R h0 hx
  rw [R.pw_pw G.lt, Nat.mul_comm, <- R.pw_pw G.lt, G.one, R.one_pw]
end Gn
end Go.Proofs.Ytjgpkljepgcekaa
namespace Go.Proofs.Ytjgpkljepgcekaa
structure IsLf (n d : Nat) : Prop where
  two : 2 <= d
  dvd : n % d = 0
  min : ∀ e, 2 <= e -> n % e = 0 -> d <= e
def Jqb : Nat -> Nat -> Nat
  | _, 0 => 1
  | 0, _ + 1 => 0
  | n + 1, k + 1 => Jqb n k + Jqb n (k + 1)
section
variable {q : Nat} {A M : Nat -> Nat -> Nat} (R : CR q A M)
include R
namespace CR
theorem Aac {a b c : Nat} (ha : a < q) (hb : b < q) (hc : c < q) : A (A a b) c = A (A a c) b := by
 rw [R.Aa ha hb hc, R.Ac b c, <- R.Aa ha hc hb]
theorem A4 {a b c d : Nat} (ha : a < q) (hb : b < q) (hc : c < q) (hd : d < q) : A (A a b) (A c d) = A (A a c) (A b d) := by
 rw [<- R.Aa (R.Al a b) hc hd, R.Aac ha hb hc, R.Aa (R.Al a c) hb hd]
end CR
end
end Go.Proofs.Ytjgpkljepgcekaa
namespace Go.Proofs.Ytjgpkljepgcekaa
def hz (m : Nat) (c b y : Vec) (n : Nat) : Nat -> Vec
  | 0 => vz
  | k + 1 => JP (tX m c (hz m c b y n k)) (vsm (b (n - 1 - k)) y)
theorem Jpv {m : Nat} {c b y : Vec} {n : Nat} : ∀ {k : Nat}, k <= n -> JP (tXn m c (n - k) (hz m c b y n k)) (opr m c b (n - k) y) = opr m c b n y
 | 0, _ => by simp only [hz, Nat.sub_zero]; rw [Jgs, z_vadd]
 | k + 1, h => by
  have ih := Jpv (m := m) (c := c) (b := b) (y := y) (n := n) (k := k) (by omega); obtain ⟨r, hr⟩ : ∃ r, n - k = r + 1 := ⟨n - k - 1, by omega⟩
  rw [show n - (k + 1) = r by omega]; rw [hr] at ih; rw [<- ih]; show JP (tXn m c r (JP (tX m c (hz m c b y n k)) (vsm (b (n - 1 - k)) y))) (opr m c b r y) = JP (tX m c (tXn m c r (hz m c b y n k))) (JP (opr m c b r y) (vsm (b r) (tXn m c r y))); rw [Jag, Ja5, Jop, show n - 1 - k = r by omega, YQ, Jea (vsm _ _)]
theorem hz_all (m : Nat) (c b y : Vec) (n : Nat) : hz m c b y n n = opr m c b n y := by
 have := Jpv (m := m) (c := c) (b := b) (y := y) (n := n) (k := n) (Nat.le_refl n); rw [Nat.sub_self] at this; rw [<- this]; exact (ZX _).symm
def dgl (p : Nat) : Nat -> Nat -> List Nat
  | 0, _ => []
  | n + 1, x => (x % p) :: dgl p n (x / p)
theorem QO (p : Nat) : ∀ n x, (dgl p n x).length = n
 | 0, _ => rfl
 | n + 1, x => by simp [dgl, QO p n]
theorem Jbl (p : Nat) : ∀ n x i, i < n -> (((dgl p n x).getD i 0 : Nat) : Int) = dv p x i
 | 0, _, i, h => by omega
 | n + 1, x, 0, _ => by rw [Ys]; rfl
 | n + 1, x, i + 1, h => by
  show (((dgl p n (x / p)).getD i 0 : Nat) : Int) = _; rw [Jbl p n (x / p) i (by omega), YZ]
@[reducible] noncomputable def hd0 (l : List Nat) : Nat := List.rec (motive := fun _ => Nat) 0 (fun x _ _ => x) l
@[reducible] noncomputable def tl0 (l : List Nat) : List Nat := List.rec (motive := fun _ => List Nat) [] (fun _ l _ => l) l
noncomputable def go (p a top : Nat) (cs : List Nat) : Nat -> List Nat -> List Nat -> List Nat :=
  List.rec (motive := fun _ => Nat -> List Nat -> List Nat -> List Nat) (fun _ _ _ => [])
    (fun c _ ih prev us ys => ((prev + (p - c) * top + a * hd0 ys) % p) :: ih (hd0 us) (tl0 us) (tl0 ys)) cs
noncomputable def tp (l : List Nat) : Nat -> Nat := List.rec (motive := fun _ => Nat -> Nat) (fun d => d) (fun x _ ih _ => ih x) l
noncomputable def Jjh (p : Nat) (cs ys gs : List Nat) : List Nat -> List Nat :=
  List.rec (motive := fun _ => List Nat -> List Nat) (fun acc => acc) (fun g _ ih acc => ih (go p g (tp acc 0) cs 0 acc ys)) gs
noncomputable def az (l : List Nat) : Bool := List.rec (motive := fun _ => Bool) true (fun x _ ih => bif Nat.beq x 0 then ih else false) l
noncomputable def is1 (l : List Nat) : Bool := List.rec (motive := fun _ => Bool) false (fun x t _ => bif Nat.beq x 1 then az t else false) l
noncomputable def run (p : Nat) (cs gs : List Nat) (n : Nat) : List Nat -> Bool :=
  Nat.rec (motive := fun _ => List Nat -> Bool) (fun y => is1 y) (fun _ ih y => bif is1 y then false else ih (Jjh p cs y gs y)) n
noncomputable def Jgw (p c : Nat) (al : List Nat) : List Nat -> List Nat :=
  List.rec (motive := fun _ => List Nat -> List Nat) (fun bs => bs) (fun a _ ih bs => ((hd0 bs + (p - a) * c) % p) :: ih (tl0 bs)) al
noncomputable def dvg (p : Nat) (low : List Nat) (k : Nat) : List Nat -> Bool :=
  Nat.rec (motive := fun _ => List Nat -> Bool) (fun r => az r) (fun _ ih r => ih (Jgw p (hd0 r) low (tl0 r))) k
noncomputable def nob (f : Nat -> Bool) (n : Nat) : Bool := Nat.rec (motive := fun _ => Bool) true (fun i ih => bif f i then false else ih) n
noncomputable def irrB (p m : Nat) (ml : List Nat) : Bool :=
  nob (fun d => !nob (fun w => dvg p (dgl p (d + 1) w).reverse (m - d) (1 :: ml.reverse)) (p ^ (d + 1))) (m / 2)
noncomputable def cand (p c : Nat) : List Nat := bif Nat.blt c p then [c] else bif Nat.blt c (p + p * p) then [(c - p) / p, (c - p) % p] else [(c - p - p * p) / (p * p), (c - p - p * p) / p % p, (c - p - p * p) % p]
noncomputable def gen1 (p m : Nat) (cs gs : List Nat) : Bool := run p cs gs (p ^ m - 2) (Jjh p cs (dgl p m 1) gs (dgl p m 1))
noncomputable def Jjs (p m : Nat) (cs : List Nat) : Bool := !nob (fun c => gen1 p m cs (cand p (p + p * p + p * p * p - 1 - c))) (p + p * p + p * p * p)
noncomputable def chk (p m lo n : Nat) : Bool := nob (fun v => bif irrB p m (dgl p m (lo + v)) then !Jjs p m (dgl p m (lo + v)) else false) n

theorem Jfu (l : List Nat) : hd0 l = l.getD 0 0 := by cases l <;> rfl
theorem Jc1 (l : List Nat) (i : Nat) : (tl0 l).getD i 0 = l.getD (i + 1) 0 := by cases l <;> rfl
theorem Jrx (l : List Nat) : (tl0 l).length = l.length - 1 := by cases l <;> simp [tl0]
theorem Jfv (p a top c : Nat) (cs : List Nat) (prev : Nat) (us ys : List Nat) : go p a top (c :: cs) prev us ys = ((prev + (p - c) * top + a * hd0 ys) % p) :: go p a top cs (hd0 us) (tl0 us) (tl0 ys) := rfl
theorem Jpx (p a top : Nat) : ∀ (cs : List Nat) (prev : Nat) (us ys : List Nat), (go p a top cs prev us ys).length = cs.length
 | [], _, _, _ => rfl
 | c :: cs, prev, us, ys => by rw [Jfv, List.length_cons, Jpx p a top cs, List.length_cons]
theorem go_at (p a top : Nat) : ∀ (cs : List Nat) (prev : Nat) (us ys : List Nat) (i : Nat), i < cs.length -> (go p a top cs prev us ys).getD i 0 = ((if i = 0 then prev else us.getD (i - 1) 0) + (p - cs.getD i 0) * top + a * ys.getD i 0) % p
 | [], _, _, _, i, h => by simp at h
 | c :: cs, prev, us, ys, 0, _ => by rw [Jfv, Jfu]; rfl
 | c :: cs, prev, us, ys, i + 1, h => by
  rw [Jfv]; show (go p a top cs (hd0 us) (tl0 us) (tl0 ys)).getD i 0 = _; rw [go_at p a top cs _ _ _ i (by simpa using h)]; cases i with
  | zero => rw [if_pos rfl, if_neg (by omega), Jfu, Jc1]; rfl
  | succ i => rw [if_neg (by omega), if_neg (by omega), Jc1, Jc1]; rfl
theorem tp_eq : ∀ (l : List Nat) (d : Nat), 0 < l.length -> tp l d = l.getD (l.length - 1) 0
 | [], _, h => by simp at h
 | [x], d, _ => rfl
 | x :: y :: l, d, _ => by
  show tp (y :: l) x = _; rw [tp_eq (y :: l) x (by simp)]; simp
def Rep (p m : Nat) (L : List Nat) (v : Vec) : Prop := L.length = m /\ ∀ i, i < m -> ((L.getD i 0 : Nat) : Int) = v i % (p : Int)
def hl (m : Nat) (c y : Vec) : List Nat -> Vec -> Vec
  | [], u => u
  | g :: gs, u => hl m c y gs (JP (tX m c u) (vsm g y))
theorem Rep.step {p m : Nat} {cs us ys : List Nat} {c u y : Vec} (hp : 0 < p) (hm : 0 < m) (hc : Rep p m cs c) (hu : Rep p m us u) (hy : Rep p m ys y) (g : Nat) :
  Rep p m (go p g (tp us 0) cs 0 us ys) (JP (tX m c u) (vsm g y)) := by
 refine ⟨by rw [Jpx, hc.1], fun i hi => ?_⟩; rw [go_at _ _ _ _ _ _ _ _ (by rw [hc.1]; exact hi), tp_eq _ _ (by rw [hu.1]; exact hm), hu.1]; have h1 := hu.2 (m - 1) (by omega); have h2 := hc.2 i hi; have h3 := hy.2 i hi; have hlt : cs.getD i 0 <= p := by
  have := Int.emod_lt_of_pos (c i) (show (0 : Int) < p by omega); omega
 have e : (((if i = 0 then 0 else us.getD (i - 1) 0) : Nat) : Int) % p = (if i = 0 then (0 : Int) else u (i - 1)) % p := by
  split
  .rfl
  .rw [hu.2 (i - 1) (by omega), Int.emod_emod]
 simp only [JP, vsm, tX, if_pos hi]; generalize (if i = 0 then 0 else us.getD (i - 1) 0 : Nat) = A at *
 generalize (if i = 0 then (0 : Int) else u (i - 1)) = B at *
 generalize us.getD (m - 1) 0 = T at *
 generalize cs.getD i 0 = C at *
 generalize ys.getD i 0 = Y at *
 have hT : ((T : Nat) : Int) % p = u (m - 1) % p := by rw [h1, Int.emod_emod]
 have hC : ((C : Nat) : Int) % p = c i % p := by rw [h2, Int.emod_emod]
 have hY : ((Y : Nat) : Int) % p = y i % p := by rw [h3, Int.emod_emod]
 obtain ⟨D, hD⟩ : ∃ D, p = C + D := ⟨p - C, by omega⟩
 have hsub : p - C = D := by omega
 rw [hsub]; have hcast : ((A + D * T + g * Y : Nat) : Int) = ((A : Int) - C * T + g * Y) + p * T := by
  have : (p : Int) = C + D := by omega
  rw [this]; push_cast; rw [Int.add_mul]; omega
 rw [Int.natCast_emod, hcast, Int.add_mul_emod_self_left]; exact Jbm (Jiy e (Jbe hC hT)) (Jbe rfl hY)
theorem Jm3 (p : Nat) (cs ys : List Nat) (g : Nat) (gs acc : List Nat) : Jjh p cs ys (g :: gs) acc = Jjh p cs ys gs (go p g (tp acc 0) cs 0 acc ys) := rfl
theorem Rep.mul {p m : Nat} {cs ys : List Nat} {c y : Vec} (hp : 0 < p) (hm : 0 < m) (hc : Rep p m cs c) (hy : Rep p m ys y) : ∀ {gs us : List Nat} {u : Vec}, Rep p m us u -> Rep p m (Jjh p cs ys gs us) (hl m c y gs u)
 | [], _, _, h => h
 | g :: gs, us, u, h => by rw [Jm3]; exact Rep.mul hp hm hc hy (Rep.step hp hm hc h hy g)
theorem Jjo {m : Nat} {c y : Vec} (hy : Sup m y) : ∀ {gs : List Nat} {u : Vec}, Sup m u -> Sup m (hl m c y gs u)
 | [], _, h => h
 | g :: gs, u, h => Jjo (gs := gs) (u := JP (tX m c u) (vsm g y)) hy (Sup.add Sup.tX hy.sm)
theorem Jpw {m : Nat} {c y : Vec} (hy : Sup m y) : ∀ {gs : List Nat} {U : Vec}, hl m c y gs (opr m c y m U) = opr m c y m (hl m c e0 gs U)
  | [], _ => rfl
  | g :: gs, U => by
    show hl m c y gs (JP (tX m c (opr m c y m U)) (vsm g y)) = opr m c y m (hl m c e0 gs (JP (tX m c U) (vsm g e0)))
    rw [<- Jpw hy, Jk6, Ji8, YH hy]
    have := Jk5 m c y m 1 U
    rw [show tXn m c 1 U = tX m c U from rfl, show tXn m c 1 (opr m c y m U) = tX m c (opr m c y m U) from rfl] at this
    rw [this]
theorem Jfz {m : Nat} (hm : 0 < m) : Sup m e0 := fun i hi => by simp [e0, show i ≠ 0 by omega]
theorem hl_mul {m : Nat} {c y : Vec} (hm : 0 < m) (hy : Sup m y) (gs : List Nat) : hl m c y gs y = Q5 m c y (hl m c e0 gs e0) := by
 rw [ZA hy (Jjo (Jfz hm) (Jfz hm))]; show _ = opr m c y m (hl m c e0 gs e0); rw [<- Jpw hy, YH hy]
theorem Jrn {p m x : Nat} : Rep p m (dgl p m x) (dv p x) := ⟨QO p m x, fun i hi => by rw [Jbl p m x i hi, Z2]⟩
theorem Rep.cg {p m : Nat} {L : List Nat} {u v : Vec} (h : Rep p m L u) (hv : ∀ i, i < m -> u i % (p : Int) = v i % (p : Int)) : Rep p m L v := ⟨h.1, fun i hi => by rw [h.2 i hi, hv i hi]⟩
theorem Js4 (x : Nat) (l : List Nat) : az (x :: l) = bif Nat.beq x 0 then az l else false := rfl
theorem Jf5 : ∀ l : List Nat, az l = true ↔ ∀ i, i < l.length -> l.getD i 0 = 0
 | [] => ⟨fun _ i h => by simp at h, fun _ => rfl⟩
 | x :: l => by
  rw [Js4]; cases hx : Nat.beq x 0 with
  | true =>
   have := Nat.eq_of_beq_eq_true hx; subst this; rw [show (bif true then az l else false) = az l from rfl, Jf5 l]; constructor
   .intro h i hi; cases i with
    | zero => rfl
    | succ i => exact h i (by simpa using hi)
   .intro h i hi; exact h (i + 1) (by simpa using hi)
  | false =>
   rw [show (bif false then az l else false) = false from rfl]; constructor
   .intro h; cases h
   .intro h; have := h 0 (by simp); simp only [List.getD_cons_zero] at this; subst this; cases hx
theorem Jlj {p m x : Nat} {L : List Nat} (hp : 2 <= p) (hm : 0 < m) (hx : x < p ^ m) (h : Rep p m L (Go.Proofs.Ytjgpkljepgcekaa.dv p x)) : is1 L = true ↔ x = 1 := by
 obtain ⟨a, l, rfl⟩ : ∃ a l, L = a :: l := by
  cases L with
  | nil => have := h.1; simp at this; omega
  | cons a l => exact ⟨a, l, rfl⟩
 have hlen : l.length + 1 = m := h.1; have h0 := h.2 0 hm; have e : is1 (a :: l) = bif Nat.beq a 1 then az l else false := rfl; rw [e]; constructor
 .intro hb; cases ha : Nat.beq a 1 with
  | false => rw [ha] at hb; cases hb
  | true =>
   rw [ha] at hb; have hz := (Jf5 l).1 hb; have ha1 := Nat.eq_of_beq_eq_true ha; subst ha1; rw [<- ZW (p := p) (m := m) (by omega) hx, <- ZW (p := p) (m := m) (x := 1) (by omega) (Nat.one_lt_pow (by omega) (by omega))]; refine Jpn fun i hi => ?_; rw [Jf0 hp, Z2, <- Z2, <- h.2 i hi]; cases i with
   | zero =>
    show (1 : Int) = e0 0 % p; simp only [e0, if_pos]; exact (Int.emod_eq_of_lt (by omega) (by omega)).symm
   | succ i =>
    show ((l.getD i 0 : Nat) : Int) = e0 (i + 1) % p; rw [hz i (by omega)]; simp [e0]
 .intro hx1; subst hx1; have ha : a = 1 := by
   have : ((a : Nat) : Int) = Go.Proofs.Ytjgpkljepgcekaa.dv p 1 0 % p := h0; rw [Z2, Jf0 hp] at this; simp [e0] at this; omega
  subst ha; show az l = true; refine (Jf5 l).2 fun i hi => ?_; have : ((l.getD i 0 : Nat) : Int) = Go.Proofs.Ytjgpkljepgcekaa.dv p 1 (i + 1) % p := h.2 (i + 1) (by omega); rw [Z2, Jf0 hp] at this; simp only [e0] at this; rw [if_neg (by omega)] at this; exact Int.ofNat_eq_zero.1 this
def gel (p m : Nat) (c : Vec) (gs : List Nat) : Nat := nm p m (hl m c e0 gs e0)
theorem Jil {p m x : Nat} {cs L gs : List Nat} {c : Vec} (hp : 2 <= p) (hm : 0 < m) (hx : x < p ^ m) (hc : Rep p m cs c) (h : Rep p m L (Go.Proofs.Ytjgpkljepgcekaa.dv p x)) : Rep p m (Jjh p cs L gs L) (Go.Proofs.Ytjgpkljepgcekaa.dv p (Jt p m c x (gel p m c gs))) := by
 have h1 := Rep.mul (gs := gs) (by omega) hm hc h h; rw [hl_mul hm (Q0 hx)] at h1; refine h1.cg fun i hi => ?_; have hs := Jjo (c := c) (gs := gs) (Jfz hm) (Jfz hm); have e1 := Jaq (p := p) (m := m) (c := c) (by omega) hx (y := gel p m c gs); have e2 := vcg.mul (m := m) (vcg.refl (p := p) c) (vcg.refl (Go.Proofs.Ytjgpkljepgcekaa.dv p x)) (Jh0 (p := p) (m := m) (by omega) hs); exact ((e1.trans e2) i).symm
theorem Jo0 (p : Nat) (cs gs : List Nat) (n : Nat) (y : List Nat) : run p cs gs (n + 1) y = bif is1 y then false else run p cs gs n (Jjh p cs y gs y) := rfl
theorem Jo1 {p m : Nat} {cs gs : List Nat} {c : Vec} (hp : 2 <= p) (hm : 0 < m) (hc : Rep p m cs c) : ∀ {n : Nat} {L : List Nat} {x : Nat}, x < p ^ m -> Rep p m L (Go.Proofs.Ytjgpkljepgcekaa.dv p x) -> run p cs gs n L = true ->
  (∀ k, k < n -> Jt p m c x (pw (Jt p m c) (gel p m c gs) k) ≠ 1) /\ Jt p m c x (pw (Jt p m c) (gel p m c gs) n) = 1
 | 0, L, x, hx, h, hr => by
  refine ⟨fun k hk => by omega, ?_⟩; show Jt p m c x 1 = 1; rw [Jdi hp hm hx]; exact (Jlj hp hm hx h).1 hr
 | n + 1, L, x, hx, h, hr => by
  rw [Jo0] at hr; cases h1 : is1 L with
  | true => rw [h1] at hr; cases hr
  | false =>
   rw [h1] at hr; have R := Jko (p := p) (m := m) c hp hm; have hg : gel p m c gs < p ^ m := ZV (by omega) _; have ih := Jo1 hp hm hc (Jfw (by omega) x _) (Jil (gs := gs) hp hm hx hc h) hr; have e : ∀ k, Jt p m c (Jt p m c x (gel p m c gs)) (pw (Jt p m c) (gel p m c gs) k) = Jt p m c x (pw (Jt p m c) (gel p m c gs) (k + 1)) := fun k => by
    rw [R.Ma hx hg (R.pw_lt _ k), R.Mc hg (R.pw_lt _ k)]; rfl
   refine ⟨fun k hk => ?_, by rw [<- e]; exact ih.2⟩; cases k with
   | zero =>
    show Jt p m c x 1 ≠ 1; rw [Jdi hp hm hx]; intro hx1; rw [(Jlj hp hm hx h).2 hx1] at h1; cases h1
   | succ k => rw [<- e]; exact ih.1 k (by omega)
theorem Jsy {p m : Nat} {cs gs : List Nat} {c : Vec} (hp : 2 <= p) (hm : 0 < m) (hc : Rep p m cs c) (h : gen1 p m cs gs = true) : Gn (p ^ m) (Jt p m c) (gel p m c gs) := by
 have R := Jko (p := p) (m := m) c hp hm; have hg : gel p m c gs < p ^ m := ZV (by omega) _; have h1 := Jil (gs := gs) hp hm R.one_lt hc Jrn; rw [R.I1 hg] at h1; obtain ⟨h2, h3⟩ := Jo1 hp hm hc hg h1 h; have hq := R.q2; have e : ∀ k, Jt p m c (gel p m c gs) (pw (Jt p m c) (gel p m c gs) k) = pw (Jt p m c) (gel p m c gs) (k + 1) := fun k => R.Mc hg (R.pw_lt _ k); refine ⟨hg, ?_, fun k h0 hk => ?_⟩
 .rw [show p ^ m - 1 = (p ^ m - 2) + 1 by omega, <- e]; exact h3
 .rw [show k = (k - 1) + 1 by omega, <- e]; exact h2 (k - 1) (by omega)
theorem Jpm (f : Nat -> Bool) (n : Nat) : nob f (n + 1) = bif f n then false else nob f n := rfl
theorem ZE (f : Nat -> Bool) : ∀ n, nob f n = true ↔ ∀ i, i < n -> f i = false
 | 0 => ⟨fun _ i h => by omega, fun _ => rfl⟩
 | n + 1 => by
  rw [Jpm]; cases h : f n with
  | true =>
   refine ⟨fun h' => ?_, fun h' => ?_⟩
   .cases h'
   .rw [h' n (by omega)] at h; cases h
  | false =>
   show nob f n = true ↔ _; rw [ZE f n]; refine ⟨fun h' i hi => ?_, fun h' i hi => h' i (by omega)⟩; rcases Nat.lt_or_ge i n with h1 | h1
   .exact h' i h1
   .rw [show i = n by omega]; exact h
theorem Jm1 (f : Nat -> Bool) (n : Nat) (h : nob f n = false) : ∃ i, i < n /\ f i = true := by
 have hn : ¬ ∀ i, i < n -> f i = false := fun h' => by rw [(ZE f n).2 h'] at h; cases h
 have := Classical.not_forall.1 hn; obtain ⟨i, hi⟩ := this; have h2 := Classical.not_imp.1 hi; exact ⟨i, h2.1, by cases hf : f i with | true => rfl | false => exact absurd hf h2.2⟩
theorem Jlk {p m : Nat} {cs : List Nat} {c : Vec} (hp : 2 <= p) (hm : 0 < m) (hc : Rep p m cs c) (h : Jjs p m cs = true) : ∃ g, Gn (p ^ m) (Jt p m c) g := by
 unfold Jjs at h; obtain ⟨i, _, hi⟩ := Jm1 _ _ (by simpa using h); exact ⟨_, Jsy hp hm hc hi⟩
def rst (p d i : Nat) (l R : Vec) : Vec := fun j => if i <= j + d /\ j < i then (R j - l (j + d - i) * R i) % (p : Int) else R j
def rem (p d : Nat) (l R : Vec) (n : Nat) : Nat -> Vec
  | 0 => R
  | k + 1 => rst p d (n - 1 - k) l (rem p d l R n k)
def Dvd (p d : Nat) (l R : Vec) (n : Nat) : Prop := ∀ j, j < d -> rem p d l R n (n - d) j = 0
def Irr (p m : Nat) (c : Vec) : Prop := ∀ d, 0 < d -> 2 * d <= m -> ∀ w, w < p ^ d -> ¬ Dvd p d (dv p w) (fun i => if i = m then 1 else c i) (m + 1)
theorem Ja6 (p c a : Nat) (al bs : List Nat) : Jgw p c (a :: al) bs = ((hd0 bs + (p - a) * c) % p) :: Jgw p c al (tl0 bs) := rfl
theorem Jgv (p c : Nat) : ∀ al bs : List Nat, al.length <= bs.length -> (Jgw p c al bs).length = bs.length
 | [], _, _ => rfl
 | a :: al, [], h => by simp at h
 | a :: al, b :: bs, h => by
  rw [Ja6, List.length_cons]; show (Jgw p c al bs).length + 1 = _; rw [Jgv p c al bs (by simpa using h)]; rfl
theorem Jky (p c : Nat) : ∀ (al bs : List Nat) (t : Nat), (Jgw p c al bs).getD t 0 = if t < al.length then (bs.getD t 0 + (p - al.getD t 0) * c) % p else bs.getD t 0
 | [], bs, t => by simp; rfl
 | a :: al, bs, 0 => by rw [Ja6, Jfu]; simp
 | a :: al, bs, t + 1 => by
  rw [Ja6]; show (Jgw p c al (tl0 bs)).getD t 0 = _; rw [Jky p c al (tl0 bs) t, Jc1]; simp
theorem Jp7 (p : Nat) (low : List Nat) (k : Nat) (r : List Nat) : dvg p low (k + 1) r = dvg p low k (Jgw p (hd0 r) low (tl0 r)) := rfl
theorem Jp8 {p d n : Nat} {l R : Vec} {low : List Nat} (hp : 0 < p) (hl : low.length = d) (hlow : ∀ t, t < d -> ((low.getD t 0 : Nat) : Int) = l (d - 1 - t)) (hlp : ∀ t, t < d -> low.getD t 0 <= p) : ∀ (s k : Nat) (r : List Nat), s + k + d = n -> r.length = n - k ->
  (∀ t, t < n - k -> ((r.getD t 0 : Nat) : Int) = rem p d l R n k (n - 1 - k - t)) -> (dvg p low s r = true ↔ Dvd p d l R n)
 | 0, k, r, hs, hr, hv => by
  have : n - k = d := by omega
  rw [this] at hr hv; show az r = true ↔ _; rw [Jf5, hr]; have hk : n - d = k := by omega
  unfold Dvd; rw [hk]; constructor
  .intro h j hj; have := hv (d - 1 - j) (by omega); rw [h (d - 1 - j) (by omega), show n - 1 - k - (d - 1 - j) = j by omega] at this; exact this.symm
  .intro h t ht; have := hv t ht; rw [h (n - 1 - k - t) (by omega)] at this; exact Int.ofNat_eq_zero.1 this
 | s + 1, k, r, hs, hr, hv => by
  rw [Jp7]; have htl : (tl0 r).length = n - (k + 1) := by rw [Jrx, hr]; omega
  refine Jp8 hp hl hlow hlp s (k + 1) _ (by omega) (by rw [Jgv _ _ _ _ (by rw [htl, hl]; omega), htl]) fun t ht => ?_; rw [Jky, hl, Jc1, Jfu]; have h0 := hv 0 (by omega); rw [Nat.sub_zero] at h0; have h1 := hv (t + 1) (by omega); rw [show n - 1 - k - (t + 1) = n - 1 - (k + 1) - t by omega] at h1; show _ = rst p d (n - 1 - k) l (rem p d l R n k) (n - 1 - (k + 1) - t); unfold rst; by_cases htd : t < d
  .rw [if_pos htd, if_pos (by omega)]; have h2 := hlow t htd; have h3 := hlp t htd; rw [show n - 1 - (k + 1) - t + d - (n - 1 - k) = d - 1 - t by omega, <- h0, <- h1, <- h2]; generalize r.getD (t + 1) 0 = X at *
   generalize low.getD t 0 = Y at *
   generalize r.getD 0 0 = Z at *
   obtain ⟨D, hD⟩ : ∃ D, p = Y + D := ⟨p - Y, by omega⟩
   rw [show p - Y = D by omega, Int.natCast_emod]; have hcast : ((X + D * Z : Nat) : Int) = ((X : Int) - Y * Z) + p * Z := by
    have : (p : Int) = Y + D := by omega
    rw [this]; push_cast; rw [Int.add_mul]; omega
   rw [hcast, Int.add_mul_emod_self_left]
  .rw [if_neg htd, if_neg (by omega)]; exact h1
theorem Jdh (l : List Nat) (t : Nat) (h : t < l.length) : l.reverse.getD t 0 = l.getD (l.length - 1 - t) 0 := by
 rw [List.getD_eq_getElem?_getD, List.getD_eq_getElem?_getD, List.getElem?_reverse h]
theorem Jdm {p : Nat} (hp : 0 < p) (x i : Nat) : 0 <= dv p x i /\ dv p x i < p := Jel hp x (i + 1) i (by omega)
theorem Jpt {p m v : Nat} (hp : 0 < p) (hv : v < p ^ m) : irrB p m (dgl p m v) = true ↔ Irr p m (dv p v) := by
 have key : ∀ d w, 0 < d -> 2 * d <= m -> (dvg p (dgl p d w).reverse (m + 1 - d) (1 :: (dgl p m v).reverse) = true ↔ Dvd p d (dv p w) (fun i => if i = m then 1 else dv p v i) (m + 1)) := fun d w hd h2 => by
  refine Jp8 hp (by rw [List.length_reverse, QO]) (fun t ht => ?_) (fun t ht => ?_) (m + 1 - d) 0 _ (by omega) (by simp [QO]) fun t ht => ?_
  .rw [Jdh _ _ (by rw [QO]; exact ht), QO, Jbl _ _ _ _ (by omega)]
  .rw [Jdh _ _ (by rw [QO]; exact ht), QO]; have := Jbl p d w (d - 1 - t) (by omega); have := Jdm hp w (d - 1 - t); omega
  .show _ = if m + 1 - 1 - 0 - t = m then (1 : Int) else dv p v (m + 1 - 1 - 0 - t)
   cases t with
   | zero => rw [if_pos (by omega)]; rfl
   | succ t =>
    rw [if_neg (by omega)]; show (((dgl p m v).reverse.getD t 0 : Nat) : Int) = _; rw [Jdh _ _ (by rw [QO]; omega), QO, Jbl _ _ _ _ (by omega), show m + 1 - 1 - 0 - (t + 1) = m - 1 - t by omega]
 unfold irrB; rw [ZE]; constructor
 .intro h d hd h2 w hw hD; have h3 := h (d - 1) (by omega); have h4 := (ZE _ _).1 (by simpa using h3) w (by rw [show d - 1 + 1 = d by omega]; exact hw); rw [show d - 1 + 1 = d by omega, show m - (d - 1) = m + 1 - d by omega, (key d w hd h2).2 hD] at h4; cases h4
 .intro h d hd; have : nob (fun w => dvg p (dgl p (d + 1) w).reverse (m - d) (1 :: (dgl p m v).reverse)) (p ^ (d + 1)) = true := (ZE _ _).2 fun w hw => by
   cases hb : dvg p (dgl p (d + 1) w).reverse (m - d) (1 :: (dgl p m v).reverse) with
   | false => rfl
   | true =>
    rw [show m - d = m + 1 - (d + 1) by omega] at hb; exact absurd ((key (d + 1) w (by omega) (by omega)).1 hb) (h (d + 1) (by omega) (by omega) w hw)
  rw [this]; rfl
theorem JL {p m lo n v : Nat} (hp : 2 <= p) (hm : 0 < m) (h : chk p m lo n = true) (h1 : lo <= v) (h2 : v < lo + n) (hv : v < p ^ m) (hi : Irr p m (dv p v)) : ∃ g, Gn (p ^ m) (Jt p m (dv p v)) g := by
 have h3 := (ZE _ _).1 h (v - lo) (by omega); simp only [show lo + (v - lo) = v by omega, (Jpt (by omega) hv).2 hi, cond_true] at h3; exact Jlk hp hm Jrn (by simpa using h3)
end Go.Proofs.Ytjgpkljepgcekaa
namespace Go.Proofs.Ytjgpkljepgcekaa
theorem Jnq : chk 2 2 0 4 = true := by decide +kernel
theorem Jnp : chk 2 3 0 8 = true := by decide +kernel
theorem Jno : chk 2 4 0 16 = true := by decide +kernel
theorem Jnn : chk 2 5 0 32 = true := by decide +kernel
theorem Jnm : chk 2 6 0 64 = true := by decide +kernel
theorem Jnl : chk 2 7 0 64 = true := by decide +kernel
theorem Jj8 : chk 2 7 64 64 = true := by decide +kernel
theorem Jnk : chk 2 8 0 24 = true := by decide +kernel
theorem Jj7 : chk 2 8 24 24 = true := by decide +kernel
theorem Jj6 : chk 2 8 48 24 = true := by decide +kernel
theorem Jj5 : chk 2 8 72 24 = true := by decide +kernel
theorem Jj4 : chk 2 8 96 24 = true := by decide +kernel
theorem Jhx : chk 2 8 120 24 = true := by decide +kernel
theorem Jhw : chk 2 8 144 24 = true := by decide +kernel
theorem Jhv : chk 2 8 168 24 = true := by decide +kernel
theorem Jhu : chk 2 8 192 24 = true := by decide +kernel
theorem Jht : chk 2 8 216 24 = true := by decide +kernel
theorem Jhs : chk 2 8 240 16 = true := by decide +kernel
theorem Jnj : chk 3 2 0 9 = true := by decide +kernel
theorem Jni : chk 3 3 0 27 = true := by decide +kernel
theorem Jnh : chk 3 4 0 64 = true := by decide +kernel
theorem Jj3 : chk 3 4 64 17 = true := by decide +kernel
theorem Jng : chk 3 5 0 24 = true := by decide +kernel
theorem Jj2 : chk 3 5 24 24 = true := by decide +kernel
theorem Jj1 : chk 3 5 48 24 = true := by decide +kernel
theorem Jj0 : chk 3 5 72 24 = true := by decide +kernel
theorem Jjz : chk 3 5 96 24 = true := by decide +kernel
theorem Jhr : chk 3 5 120 24 = true := by decide +kernel
theorem Jhq : chk 3 5 144 24 = true := by decide +kernel
theorem Jhp : chk 3 5 168 24 = true := by decide +kernel
theorem Jho : chk 3 5 192 24 = true := by decide +kernel
theorem Jhn : chk 3 5 216 24 = true := by decide +kernel
theorem Jhm : chk 3 5 240 3 = true := by decide +kernel
theorem Jnf : chk 5 2 0 25 = true := by decide +kernel
theorem Jne : chk 5 3 0 64 = true := by decide +kernel
theorem Jjy : chk 5 3 64 61 = true := by decide +kernel
theorem Jnd : chk 7 2 0 49 = true := by decide +kernel
theorem Jka : chk 11 2 0 64 = true := by decide +kernel
theorem Jhz : chk 11 2 64 57 = true := by decide +kernel
theorem Jj9 : chk 13 2 0 64 = true := by decide +kernel
theorem Jhy : chk 13 2 64 64 = true := by decide +kernel
theorem Jf2 : chk 13 2 128 41 = true := by decide +kernel
theorem chk1_0 : ([2, 3, 5, 7, 11, 13, 17, 19, 23, 29, 31, 37, 41, 43, 47, 53, 59, 61] : List Nat).all (fun p => Jjs p 1 [0]) = true := by decide +kernel
theorem chk1_1 : ([67, 71, 73, 79, 83, 89, 97, 101, 103, 107, 109, 113, 127, 131, 137, 139, 149, 151] : List Nat).all (fun p => Jjs p 1 [0]) = true := by decide +kernel
theorem chk1_2 : ([157, 163, 167, 173, 179, 181, 191, 193, 197, 199, 211, 223, 227, 229, 233, 239, 241, 251] : List Nat).all (fun p => Jjs p 1 [0]) = true := by decide +kernel
theorem gx_2_2 {v : Nat} (hv : v < 2 ^ 2) (hI : Irr 2 2 (dv 2 v)) : ∃ g, Gn (2 ^ 2) (Jt 2 2 (dv 2 v)) g := by
 have hv2 : v < 4 := hv; exact JL (by decide) (by decide) Jnq (by omega) (by omega) hv hI
theorem gx_2_3 {v : Nat} (hv : v < 2 ^ 3) (hI : Irr 2 3 (dv 2 v)) : ∃ g, Gn (2 ^ 3) (Jt 2 3 (dv 2 v)) g := by
 have hv2 : v < 8 := hv; exact JL (by decide) (by decide) Jnp (by omega) (by omega) hv hI
theorem gx_2_4 {v : Nat} (hv : v < 2 ^ 4) (hI : Irr 2 4 (dv 2 v)) : ∃ g, Gn (2 ^ 4) (Jt 2 4 (dv 2 v)) g := by
 have hv2 : v < 16 := hv; exact JL (by decide) (by decide) Jno (by omega) (by omega) hv hI
theorem gx_2_5 {v : Nat} (hv : v < 2 ^ 5) (hI : Irr 2 5 (dv 2 v)) : ∃ g, Gn (2 ^ 5) (Jt 2 5 (dv 2 v)) g := by
 have hv2 : v < 32 := hv; exact JL (by decide) (by decide) Jnn (by omega) (by omega) hv hI
theorem gx_2_6 {v : Nat} (hv : v < 2 ^ 6) (hI : Irr 2 6 (dv 2 v)) : ∃ g, Gn (2 ^ 6) (Jt 2 6 (dv 2 v)) g := by
 have hv2 : v < 64 := hv; exact JL (by decide) (by decide) Jnm (by omega) (by omega) hv hI
theorem gx_2_7 {v : Nat} (hv : v < 2 ^ 7) (hI : Irr 2 7 (dv 2 v)) : ∃ g, Gn (2 ^ 7) (Jt 2 7 (dv 2 v)) g := by
 have hv2 : v < 128 := hv; rcases Nat.lt_or_ge v 64 with h | h
 .exact JL (by decide) (by decide) Jnl (by omega) (by omega) hv hI
 exact JL (by decide) (by decide) Jj8 (by omega) (by omega) hv hI
theorem gx_2_8 {v : Nat} (hv : v < 2 ^ 8) (hI : Irr 2 8 (dv 2 v)) : ∃ g, Gn (2 ^ 8) (Jt 2 8 (dv 2 v)) g := by
 have hv2 : v < 256 := hv; rcases Nat.lt_or_ge v 24 with h | h
 .exact JL (by decide) (by decide) Jnk (by omega) (by omega) hv hI
 rcases Nat.lt_or_ge v 48 with h | h
 .exact JL (by decide) (by decide) Jj7 (by omega) (by omega) hv hI
 rcases Nat.lt_or_ge v 72 with h | h
 .exact JL (by decide) (by decide) Jj6 (by omega) (by omega) hv hI
 rcases Nat.lt_or_ge v 96 with h | h
 .exact JL (by decide) (by decide) Jj5 (by omega) (by omega) hv hI
 rcases Nat.lt_or_ge v 120 with h | h
 .exact JL (by decide) (by decide) Jj4 (by omega) (by omega) hv hI
 rcases Nat.lt_or_ge v 144 with h | h
 .exact JL (by decide) (by decide) Jhx (by omega) (by omega) hv hI
 rcases Nat.lt_or_ge v 168 with h | h
 .exact JL (by decide) (by decide) Jhw (by omega) (by omega) hv hI
 rcases Nat.lt_or_ge v 192 with h | h
 .exact JL (by decide) (by decide) Jhv (by omega) (by omega) hv hI
 rcases Nat.lt_or_ge v 216 with h | h
 .exact JL (by decide) (by decide) Jhu (by omega) (by omega) hv hI
 rcases Nat.lt_or_ge v 240 with h | h
 .exact JL (by decide) (by decide) Jht (by omega) (by omega) hv hI
 exact JL (by decide) (by decide) Jhs (by omega) (by omega) hv hI
theorem gx_3_2 {v : Nat} (hv : v < 3 ^ 2) (hI : Irr 3 2 (dv 3 v)) : ∃ g, Gn (3 ^ 2) (Jt 3 2 (dv 3 v)) g := by
 have hv2 : v < 9 := hv; exact JL (by decide) (by decide) Jnj (by omega) (by omega) hv hI
theorem gx_3_3 {v : Nat} (hv : v < 3 ^ 3) (hI : Irr 3 3 (dv 3 v)) : ∃ g, Gn (3 ^ 3) (Jt 3 3 (dv 3 v)) g := by
 have hv2 : v < 27 := hv; exact JL (by decide) (by decide) Jni (by omega) (by omega) hv hI
theorem gx_3_4 {v : Nat} (hv : v < 3 ^ 4) (hI : Irr 3 4 (dv 3 v)) : ∃ g, Gn (3 ^ 4) (Jt 3 4 (dv 3 v)) g := by
 have hv2 : v < 81 := hv; rcases Nat.lt_or_ge v 64 with h | h
 .exact JL (by decide) (by decide) Jnh (by omega) (by omega) hv hI
 exact JL (by decide) (by decide) Jj3 (by omega) (by omega) hv hI
theorem gx_3_5 {v : Nat} (hv : v < 3 ^ 5) (hI : Irr 3 5 (dv 3 v)) : ∃ g, Gn (3 ^ 5) (Jt 3 5 (dv 3 v)) g := by
 have hv2 : v < 243 := hv; rcases Nat.lt_or_ge v 24 with h | h
 .exact JL (by decide) (by decide) Jng (by omega) (by omega) hv hI
 rcases Nat.lt_or_ge v 48 with h | h
 .exact JL (by decide) (by decide) Jj2 (by omega) (by omega) hv hI
 rcases Nat.lt_or_ge v 72 with h | h
 .exact JL (by decide) (by decide) Jj1 (by omega) (by omega) hv hI
 rcases Nat.lt_or_ge v 96 with h | h
 .exact JL (by decide) (by decide) Jj0 (by omega) (by omega) hv hI
 rcases Nat.lt_or_ge v 120 with h | h
 .exact JL (by decide) (by decide) Jjz (by omega) (by omega) hv hI
 rcases Nat.lt_or_ge v 144 with h | h
 .exact JL (by decide) (by decide) Jhr (by omega) (by omega) hv hI
 rcases Nat.lt_or_ge v 168 with h | h
 .exact JL (by decide) (by decide) Jhq (by omega) (by omega) hv hI
 rcases Nat.lt_or_ge v 192 with h | h
 .exact JL (by decide) (by decide) Jhp (by omega) (by omega) hv hI
 rcases Nat.lt_or_ge v 216 with h | h
 .exact JL (by decide) (by decide) Jho (by omega) (by omega) hv hI
 rcases Nat.lt_or_ge v 240 with h | h
 .exact JL (by decide) (by decide) Jhn (by omega) (by omega) hv hI
 exact JL (by decide) (by decide) Jhm (by omega) (by omega) hv hI
theorem gx_5_2 {v : Nat} (hv : v < 5 ^ 2) (hI : Irr 5 2 (dv 5 v)) : ∃ g, Gn (5 ^ 2) (Jt 5 2 (dv 5 v)) g := by
 have hv2 : v < 25 := hv; exact JL (by decide) (by decide) Jnf (by omega) (by omega) hv hI
theorem gx_5_3 {v : Nat} (hv : v < 5 ^ 3) (hI : Irr 5 3 (dv 5 v)) : ∃ g, Gn (5 ^ 3) (Jt 5 3 (dv 5 v)) g := by
 have hv2 : v < 125 := hv; rcases Nat.lt_or_ge v 64 with h | h
 .exact JL (by decide) (by decide) Jne (by omega) (by omega) hv hI
 exact JL (by decide) (by decide) Jjy (by omega) (by omega) hv hI
theorem gx_7_2 {v : Nat} (hv : v < 7 ^ 2) (hI : Irr 7 2 (dv 7 v)) : ∃ g, Gn (7 ^ 2) (Jt 7 2 (dv 7 v)) g := by
 have hv2 : v < 49 := hv; exact JL (by decide) (by decide) Jnd (by omega) (by omega) hv hI
theorem Jsx {v : Nat} (hv : v < 11 ^ 2) (hI : Irr 11 2 (dv 11 v)) : ∃ g, Gn (11 ^ 2) (Jt 11 2 (dv 11 v)) g := by
 have hv2 : v < 121 := hv; rcases Nat.lt_or_ge v 64 with h | h
 .exact JL (by decide) (by decide) Jka (by omega) (by omega) hv hI
 exact JL (by decide) (by decide) Jhz (by omega) (by omega) hv hI
theorem Jsw {v : Nat} (hv : v < 13 ^ 2) (hI : Irr 13 2 (dv 13 v)) : ∃ g, Gn (13 ^ 2) (Jt 13 2 (dv 13 v)) g := by
 have hv2 : v < 169 := hv; rcases Nat.lt_or_ge v 64 with h | h
 .exact JL (by decide) (by decide) Jj9 (by omega) (by omega) hv hI
 rcases Nat.lt_or_ge v 128 with h | h
 .exact JL (by decide) (by decide) Jhy (by omega) (by omega) hv hI
 exact JL (by decide) (by decide) Jf2 (by omega) (by omega) hv hI
noncomputable def prL : List Nat := [2, 3, 5, 7, 11, 13, 17, 19, 23, 29, 31, 37, 41, 43, 47, 53, 59, 61, 67, 71, 73, 79, 83, 89, 97, 101, 103, 107, 109, 113, 127, 131, 137, 139, 149, 151, 157, 163, 167, 173, 179, 181, 191, 193, 197, 199, 211, 223, 227, 229, 233, 239, 241, 251]
theorem Jr9 : (List.range 257).all (fun p => prL.contains p || Nat.blt p 2 || (List.range p).any (fun e => Nat.ble 2 e && Nat.beq (p % e) 0)) = true := by decide +kernel
theorem Jr8 {p : Nat} (hp : IsLf p p) (h : p <= 256) : p ∈ prL := by
 have h1 := List.all_eq_true.1 Jr9 p (List.mem_range.2 (by omega)); simp only [Bool.or_eq_true, List.contains_iff_mem, List.any_eq_true, List.mem_range, Bool.and_eq_true] at h1; rcases h1 with (h1 | h1) | ⟨e, he, h2, h3⟩
 .exact h1
 .have := hp.two; have := Nat.le_of_ble_eq_true h1; omega
 .have := hp.min e (Nat.le_of_ble_eq_true h2) (Nat.eq_of_beq_eq_true h3); omega
theorem gx_1 {p : Nat} (hp : IsLf p p) (h : p <= 256) : ∃ g, Gn (p ^ 1) (Jt p 1 (dv p 0)) g := by
 have hm := Jr8 hp h; have hg : Jjs p 1 [0] = true := by
  unfold prL at hm; rw [show ([2, 3, 5, 7, 11, 13, 17, 19, 23, 29, 31, 37, 41, 43, 47, 53, 59, 61, 67, 71, 73, 79, 83, 89, 97, 101, 103, 107, 109, 113, 127, 131, 137, 139, 149, 151, 157, 163, 167, 173, 179, 181, 191, 193, 197, 199, 211, 223, 227, 229, 233, 239, 241, 251] : List Nat) = ([2, 3, 5, 7, 11, 13, 17, 19, 23, 29, 31, 37, 41, 43, 47, 53, 59, 61] : List Nat) ++ ([67, 71, 73, 79, 83, 89, 97, 101, 103, 107, 109, 113, 127, 131, 137, 139, 149, 151] : List Nat) ++ ([157, 163, 167, 173, 179, 181, 191, 193, 197, 199, 211, 223, 227, 229, 233, 239, 241, 251] : List Nat) from rfl] at hm; simp only [List.mem_append] at hm; rcases hm with (h | h) | h
  .exact List.all_eq_true.1 chk1_0 p h
  .exact List.all_eq_true.1 chk1_1 p h
  .exact List.all_eq_true.1 chk1_2 p h
 refine Jlk hp.two (by decide) ⟨rfl, fun i hi => ?_⟩ hg; rw [show i = 0 by omega, Jdl]; simp [vz]
theorem Jpa {p m : Nat} (hp : IsLf p p) (hm : 2 <= m) (hq : p ^ m <= 256) : (p = 2 /\ m = 2) ∨ (p = 2 /\ m = 3) ∨ (p = 2 /\ m = 4) ∨ (p = 2 /\ m = 5) ∨ (p = 2 /\ m = 6) ∨ (p = 2 /\ m = 7) ∨ (p = 2 /\ m = 8) ∨ (p = 3 /\ m = 2) ∨ (p = 3 /\ m = 3) ∨ (p = 3 /\ m = 4) ∨ (p = 3 /\ m = 5) ∨ (p = 5 /\ m = 2) ∨ (p = 5 /\ m = 3) ∨ (p = 7 /\ m = 2) ∨ (p = 11 /\ m = 2) ∨ (p = 13 /\ m = 2) := by
  have h2 := hp.two
  have hpow : ∀ k, k <= m -> p ^ k <= 256 := fun k hk => Nat.le_trans (Nat.pow_le_pow_right (by omega) hk) hq
  have hp2 : p <= 16 := by
    rcases Nat.lt_or_ge 16 p with h | h
    . have h1 := hpow 2 hm
      have h3 : 17 ^ 2 <= p ^ 2 := Nat.pow_le_pow_left h 2
      omega
    . exact h
  have hnd : ∀ e, 2 <= e -> e < p -> p % e ≠ 0 := fun e he hlt h0 => by have := hp.min e he h0; omega
  have hc : p = 2 ∨ p = 3 ∨ p = 5 ∨ p = 7 ∨ p = 11 ∨ p = 13 := by
    have h3 := hnd 2 (by omega)
    have h4 := hnd 3 (by omega)
    omega
  rcases hc with rfl | rfl | rfl | rfl | rfl | rfl
  . have : m <= 8 := by
      rcases Nat.lt_or_ge 8 m with h | h
      . have := hpow 9 h; omega
      . exact h
    omega
  . have : m <= 5 := by
      rcases Nat.lt_or_ge 5 m with h | h
      . have := hpow 6 h; omega
      . exact h
    omega
  . have : m <= 3 := by
      rcases Nat.lt_or_ge 3 m with h | h
      . have := hpow 4 h; omega
      . exact h
    omega
  . have : m <= 2 := by
      rcases Nat.lt_or_ge 2 m with h | h
      . have := hpow 3 h; omega
      . exact h
    omega
  . have : m <= 2 := by
      rcases Nat.lt_or_ge 2 m with h | h
      . have := hpow 3 h; omega
      . exact h
    omega
  . have : m <= 2 := by
      rcases Nat.lt_or_ge 2 m with h | h
      . have := hpow 3 h; omega
      . exact h
    omega
theorem gen_ex {p m v : Nat} (hp : IsLf p p) (hm : 0 < m) (hq : p ^ m <= 256) (hv : v < p ^ m) (h1 : m = 1 -> v = 0) (hI : Irr p m (dv p v)) : ∃ g, Gn (p ^ m) (Jt p m (dv p v)) g := by
  rcases Nat.lt_or_ge m 2 with h | h
  . have : m = 1 := by omega
    subst this
    rw [h1 rfl]
    exact gx_1 hp (by simpa using hq)
  . rcases Jpa hp h hq with ⟨rfl, rfl⟩ | ⟨rfl, rfl⟩ | ⟨rfl, rfl⟩ | ⟨rfl, rfl⟩ | ⟨rfl, rfl⟩ | ⟨rfl, rfl⟩ | ⟨rfl, rfl⟩ | ⟨rfl, rfl⟩ | ⟨rfl, rfl⟩ | ⟨rfl, rfl⟩ | ⟨rfl, rfl⟩ | ⟨rfl, rfl⟩ | ⟨rfl, rfl⟩ | ⟨rfl, rfl⟩ | ⟨rfl, rfl⟩ | ⟨rfl, rfl⟩
    . exact gx_2_2 hv hI
    . exact gx_2_3 hv hI
    . exact gx_2_4 hv hI
    . exact gx_2_5 hv hI
    . exact gx_2_6 hv hI
    . exact gx_2_7 hv hI
    . exact gx_2_8 hv hI
    . exact gx_3_2 hv hI
    . exact gx_3_3 hv hI
    . exact gx_3_4 hv hI
    . exact gx_3_5 hv hI
    . exact gx_5_2 hv hI
    . exact gx_5_3 hv hI
    . exact gx_7_2 hv hI
    . exact Jsx hv hI
    . exact Jsw hv hI
end Go.Proofs.Ytjgpkljepgcekaa
namespace Go.Proofs.Ytjgpkljepgcekaa
def vo (l : LI) : Vec := fun i => l.getD i 0
theorem JO (l : LI) (i : Nat) : gi l (i : Int) = vo l i := rfl
theorem Qh (l : LI) (i : Nat) (x : Int) : si l (i : Int) x = l.set i x := rfl
theorem Ze (a b : Nat) : (a : Int).tmod (b : Int) = ((a % b : Nat) : Int) := rfl
theorem Jon (a b : Nat) : (a : Int).tdiv (b : Int) = ((a / b : Nat) : Int) := rfl
theorem J8 (l : LI) (i j : Nat) (x : Int) : vo (l.set i x) j = if i = j /\ i < l.length then x else vo l j := by
 unfold vo; rw [List.getD_eq_getElem?_getD, List.getD_eq_getElem?_getD, List.getElem?_set]; by_cases h : i = j
 .subst h; by_cases h2 : i < l.length
  .simp [h2]
  .simp [h2]
 .simp [h]
theorem Jit (n : Nat) (i : Nat) : vo (List.replicate n (0 : Int)) i = 0 := by
 unfold vo; rw [List.getD_eq_getElem?_getD, List.getElem?_replicate]; split <;> rfl
theorem Jbs {l : LI} {i : Nat} (h : l.length <= i) : vo l i = 0 := by
 unfold vo; rw [List.getD_eq_getElem?_getD, List.getElem?_eq_none h]; rfl
theorem Yc {l o : LI} (h : l.length = o.length) (hv : ∀ i, i < l.length -> vo l i = vo o i) : l = o := by
 refine List.ext_getElem h fun i h1 h2 => ?_; have := hv i h1; unfold vo at this; rw [List.getD_eq_getElem?_getD, List.getD_eq_getElem?_getD, List.getElem?_eq_getElem h1, List.getElem?_eq_getElem h2] at this; exact this
theorem Jq {x : Int} (h : -1000000000000 <= x) (h2 : x <= 1000000000000) : I64 x := ⟨by omega, by omega⟩
theorem Yh {n : Nat} (h : n <= 1000000000000) : I64 (n : Int) := Jq (by omega) (by omega)
def dgi (p n x : Nat) : LI := (dgl p n x).map fun (a : Nat) => (a : Int)
theorem JS (p n x : Nat) : (dgi p n x).length = n := by simp [dgi, QO]
theorem QQ {p n x i : Nat} (h : i < n) : vo (dgi p n x) i = dv p x i := by
 rw [<- Jbl p n x i h]; unfold vo dgi; rw [List.getD_eq_getElem?_getD, List.getElem?_map, List.getD_eq_getElem?_getD]; rw [List.getElem?_eq_getElem (by rw [QO]; exact h)]; rfl
theorem Jol {b : Bool} {Q : Int -> Prop} (h : Q (if b = true then 0 else 1)) : Jdv b Q := by
 cases b
 .exact ⟨fun h' => absurd h' (by decide), fun _ => h⟩
 .exact ⟨fun _ => h, fun h' => absurd h' (by decide)⟩
theorem Jsq {n k : Nat} (hn : 2 <= n) (hk : n < k * k) (h : ∀ e, e < k -> 2 <= e -> n % e ≠ 0) : IsLf n n := by
 refine ⟨hn, Nat.mod_self n, fun e he hm => ?_⟩; rcases Nat.lt_or_ge e k with hc | hc
 .exact absurd hm (h e hc he)
 .obtain ⟨t, ht⟩ := Nat.dvd_of_mod_eq_zero hm; have hq1 : t < k := by
   rcases Nat.lt_or_ge t k with h1 | h1
   .exact h1
   .have := Nat.mul_le_mul hc h1; omega
  rcases Nat.lt_or_ge t 2 with h2 | h2
  .have : t = 0 ∨ t = 1 := by omega
   rcases this with rfl | rfl
   .omega
   .omega
  .exact absurd (Nat.mod_eq_zero_of_dvd ⟨e, by rw [ht, Nat.mul_comm]⟩) (h t hq1 h2)
theorem Jcw {x : Nat} {Q : Int -> Prop} (h2 : 2 <= x) (hx : x <= 256) (h : ∀ d : Nat, IsLf x d -> Q d) : Q2 x Q := by
 refine ⟨fun z => ∃ k : Nat, z = k /\ 2 <= k /\ k <= 17 /\ ∀ e, e < k -> 2 <= e -> x % e ≠ 0, fun z => (20 - z).toNat, ⟨2, rfl, by omega, by omega, fun e _ _ => by omega⟩, ?_⟩; rintro _ ⟨k, rfl, hk2, hk, hm⟩; dsimp only; have e1 : ((k : Nat) : Int) * (k : Int) = ((k * k : Nat) : Int) := by push_cast; rfl
 have hb : k * k <= 17 * 17 := Nat.mul_le_mul hk hk; rw [e1]; refine ⟨Jq (by omega) (by omega), fun hle => ⟨by omega, ?_, ?_⟩, fun hgt => ?_⟩
 .intro h0; rw [Ze] at h0; refine h k ⟨hk2, by omega, fun e he h3 => ?_⟩; rcases Nat.lt_or_ge e k with hc | hc
  .exact absurd h3 (hm e hc he)
  .exact hc
 .intro h0; rw [Ze] at h0; have hk16 : k <= 16 := by
   rcases Nat.lt_or_ge 16 k with hc | hc
   .have := Nat.mul_le_mul hc hc; omega
   .exact hc
  refine ⟨Jq (by omega) (by omega), ⟨k + 1, by push_cast; rfl, by omega, by omega, fun e he h3 => ?_⟩, by omega⟩; rcases Nat.lt_or_ge e k with hc | hc
  .exact hm e hc h3
  .rw [show e = k by omega]; omega
 .exact h x (Jsq h2 (by omega) hm)
theorem IsLf.uniq {n d e : Nat} (h : IsLf n d) (h' : IsLf n e) : d = e := Nat.le_antisymm (h.min e h'.two h'.dvd) (h'.min d h.two h.dvd)
theorem Jmi {x : Int} {Q : Bool -> Prop} (hx : x <= 256) (h : ∀ b : Bool, (b = true ↔ 2 <= x /\ IsLf x.toNat x.toNat) -> Q b) : ZN x Q := by
 refine ⟨fun h2 => ?_, fun h2 => h false ⟨fun h' => by (cases h'), fun h' => absurd h'.1 h2⟩⟩; obtain ⟨n, rfl⟩ := Int.eq_ofNat_of_zero_le (show 0 <= x by omega); refine Jcw (by omega) (by omega) fun d hd => h _ ?_; rw [decide_eq_true_iff, Int.toNat_natCast]; constructor
 .intro he; have : d = n := by omega
  subst this; exact ⟨h2, hd⟩
 .rintro ⟨_, hn⟩; rw [hd.uniq hn]
theorem QL {p a b : Nat} (hp : 0 < p) (h : a <= b) : p ^ a <= p ^ b := Nat.pow_le_pow_right hp h
theorem Jez {p : Nat} {M : Int} {mf : LI} {Q : Int -> Prop} (hp : 2 <= p) (hp2 : p <= 256) (h : ∀ r : Int, (p ^ M.toNat <= 256 -> r = ((p ^ M.toNat : Nat) : Int)) -> (256 < p ^ M.toNat -> 256 < r) -> Q r) : Y8 p M mf Q := by
 refine ⟨fun r => (p ^ M.toNat <= 256 -> r = ((p ^ M.toNat : Nat) : Int)) /\ (256 < p ^ M.toNat -> 256 < r), ⟨fun z i => ∃ k : Nat, i = k /\ k <= M.toNat /\ z = ((p ^ k : Nat) : Int) /\ p ^ k <= 65536 /\ k <= 16, fun z i => (20 - i).toNat, ⟨0, rfl, Nat.zero_le _, by simp, by simp, by omega⟩, ?_⟩, fun r hr => h r hr.1 hr.2⟩; rintro _ _ ⟨k, rfl, hk, rfl, hb, hk16⟩; dsimp only; refine ⟨fun hlt => ⟨fun hle => ?_, fun hgt => ?_⟩, fun hge => ?_⟩
 .have hk8 : p ^ k <= 256 := by omega
  have hkk : k < 16 := by
   rcases Nat.lt_or_ge k 16 with hc | hc
   .exact hc
   .have h1 := QL (p := p) (by omega) hc; have h2 : 2 ^ 16 <= p ^ 16 := Nat.pow_le_pow_left hp 16; omega
  have e1 : ((p ^ k : Nat) : Int) * (p : Int) = ((p ^ (k + 1) : Nat) : Int) := by rw [Nat.pow_succ]; push_cast; rfl
  have hb2 : p ^ (k + 1) <= 65536 := by
   rw [Nat.pow_succ]; have := Nat.mul_le_mul hk8 hp2; omega
  rw [e1]; exact ⟨Jq (by omega) (by omega), Jq (by omega) (by omega), ⟨k + 1, by push_cast; rfl, by omega, rfl, hb2, by omega⟩, by omega⟩
 .have := QL (p := p) (by omega) hk; exact ⟨fun h' => by omega, fun _ => by omega⟩
 .have : k = M.toNat := by omega
  subst this; exact ⟨fun _ => rfl, fun h' => by omega⟩
def Jg2 (P M : Int) : Int := if 2 <= P /\ 1 <= M /\ P.toNat ^ M.toNat <= 256 then ((P.toNat ^ M.toNat : Nat) : Int) else 0
theorem Jgq {P M : Int} {mf : LI} {Q : Int -> Prop} (h : Q (Jg2 P M)) : Zy P M mf Q := by
 refine ⟨fun h1 => ?_, fun h1 => ⟨fun h2 => ?_, fun h2 => ⟨fun h3 => ?_, fun h3 => ?_⟩⟩⟩
 .rw [Jg2, if_neg (by omega)] at h; exact h
 .rw [Jg2, if_neg (by omega)] at h; exact h
 .rw [Jg2, if_neg] at h
  .exact h
  .rintro ⟨h4, h5, h6⟩; have e1 : 2 ^ 9 <= P.toNat ^ 9 := Nat.pow_le_pow_left (by omega) 9; have e2 := QL (p := P.toNat) (by omega) (show 9 <= M.toNat by omega); omega
 .obtain ⟨p, rfl⟩ := Int.eq_ofNat_of_zero_le (show 0 <= P by omega); obtain ⟨m, rfl⟩ := Int.eq_ofNat_of_zero_le (show 0 <= M by omega); refine ⟨fun z i => ∃ k : Nat, i = k /\ k <= m /\ z = ((p ^ k : Nat) : Int) /\ p ^ k <= 256, fun z i => (20 - i).toNat, ⟨0, rfl, Nat.zero_le _, by simp, by simp⟩, ?_⟩; rintro _ _ ⟨k, rfl, hk, rfl, hb⟩; dsimp only; rw [show (256 : Int) = ((256 : Nat) : Int) from rfl, Jon]; have hd : 256 / p <= 256 := Nat.div_le_self _ _; have hdm : ∀ a, a <= 256 / p ↔ a * p <= 256 := fun a => Nat.le_div_iff_mul_le (show 0 < p by omega); generalize 256 / p = D at *
  refine ⟨fun hlt => ⟨⟨by omega, Jq (by omega) (by omega)⟩, fun hgt => ?_, fun hle => ?_⟩, fun hge => ?_⟩
  .rw [Jg2, if_neg] at h
   .exact h
   .rintro ⟨_, _, h6⟩; simp only [Int.toNat_natCast] at h6; have h7 : p ^ (k + 1) <= 256 := Nat.le_trans (QL (by omega) (by omega)) h6; rw [Nat.pow_succ] at h7; have := (hdm _).2 h7; omega
  .have h7 : p ^ (k + 1) <= 256 := by rw [Nat.pow_succ]; exact (hdm _).1 (by omega)
   have e1 : ((p ^ k : Nat) : Int) * (p : Int) = ((p ^ (k + 1) : Nat) : Int) := by rw [Nat.pow_succ]; push_cast; rfl
   rw [e1]; exact ⟨Jq (by omega) (by omega), Jq (by omega) (by omega), ⟨k + 1, by push_cast; rfl, by omega, rfl, h7⟩, by omega⟩
  .have : k = m := by omega
   subst this; rw [Jg2, if_pos ⟨by omega, by omega, by simpa using hb⟩] at h
   simpa using h
theorem Jar (x p i : Nat) : x / p ^ i / p = x / p ^ (i + 1) := by rw [Nat.div_div_eq_div_mul, Nat.pow_succ]
theorem Jcy {p n x : Nat} {Q : LI -> Prop} (hp : 0 < p) (hn : n <= 1000) (hx : x <= 1000) (h : Q (dgi p n x)) : YO p n x Q := by
 refine ⟨⟨by omega, by omega, by omega⟩, fun l z i => ∃ k : Nat, i = k /\ k <= n /\ z = ((x / p ^ k : Nat) : Int) /\ l.length = n /\ ∀ j, j < k -> vo l j = dv p x j, fun l z i => (n - i).toNat, ⟨0, rfl, Nat.zero_le _, by simp, by simp, fun j hj => by omega⟩, ?_⟩; rintro l _ _ ⟨k, rfl, hk, rfl, hl, hv⟩; dsimp only; have hd : x / p ^ k <= x := Nat.div_le_self _ _; have hd2 : x / p ^ k / p <= x / p ^ k := Nat.div_le_self _ _; rw [Jon, Ze, Qh]; simp only [Int.toNat_natCast]; refine ⟨fun hlt => ⟨by omega, ⟨by omega, by omega⟩, ⟨by omega, Yh (by omega)⟩, Jq (by omega) (by omega), ⟨k + 1, by push_cast; rfl, by omega, by rw [Jar], by rw [List.length_set, hl], fun j hj => ?_⟩, by omega⟩, fun hge => ?_⟩
 .rw [J8]; by_cases hjk : k = j
  .subst hjk; rw [if_pos ⟨rfl, by omega⟩]; rfl
  .rw [if_neg (by omega)]; exact hv j (by omega)
 .have : l = dgi p n x := Yc (by rw [hl, JS]) fun j hj => by rw [hv j (by omega), QQ (by omega)]
  rw [this]; exact h
theorem Jmg {p n x : Nat} {Q : LI -> Prop} (hp : 0 < p) (hn : n <= 1000) (hx : x <= 1000) (h : Q (dgi p n x)) : ZK x p n Q := by
 refine ⟨⟨by omega, by omega, by omega⟩, fun l z i => ∃ k : Nat, i = k /\ k <= n /\ z = ((x / p ^ k : Nat) : Int) /\ l.length = n /\ ∀ j, j < k -> vo l j = dv p x j, fun l z i => (n - i).toNat, ⟨0, rfl, Nat.zero_le _, by simp, by simp, fun j hj => by omega⟩, ?_⟩; rintro l _ _ ⟨k, rfl, hk, rfl, hl, hv⟩; dsimp only; have hd : x / p ^ k <= x := Nat.div_le_self _ _; have hd2 : x / p ^ k / p <= x / p ^ k := Nat.div_le_self _ _; rw [Jon, Ze, Qh]; simp only [Int.toNat_natCast]; refine ⟨fun hlt => ⟨by omega, ⟨by omega, by omega⟩, ⟨by omega, Yh (by omega)⟩, Jq (by omega) (by omega), ⟨k + 1, by push_cast; rfl, by omega, by rw [Jar], by rw [List.length_set, hl], fun j hj => ?_⟩, by omega⟩, fun hge => ?_⟩
 .rw [J8]; by_cases hjk : k = j
  .subst hjk; rw [if_pos ⟨rfl, by omega⟩]; rfl
  .rw [if_neg (by omega)]; exact hv j (by omega)
 .have : l = dgi p n x := Yc (by rw [hl, JS]) fun j hj => by rw [hv j (by omega), QQ (by omega)]
  rw [this]; exact h
theorem Jgp {p m x : Nat} {mf : LI} {Q : Int -> Prop} (hp : 2 <= p) (hp2 : p <= 256) (hx : x <= 256) (h : Q ((if x % p = p - 1 then x - x % p else x + 1 : Nat) : Int)) : Yu p m mf x Q := by
 have hm := Nat.mod_lt x (show 0 < p by omega); have hm2 := Nat.mod_le x p; refine ⟨by omega, Jq (by omega) (by omega), fun h0 => ⟨by omega, ?_⟩, fun h0 => ?_⟩
 .rw [Ze] at h0 ⊢; rw [if_pos (by omega)] at h; refine ⟨Jq (by omega) (by omega), ?_⟩; rw [show (x : Int) - ((x % p : Nat) : Int) = ((x - x % p : Nat) : Int) by omega]; exact h
 .rw [Ze] at h0; rw [if_neg (by omega)] at h; exact ⟨Jq (by omega) (by omega), by push_cast at h ⊢; exact h⟩
theorem Jaf {l : LI} {Q : LI -> Prop} (hl : l.length <= 1000000) (h : Q l) : Yz l Q := by
 intro b hb; refine ⟨fun h1 => by rw [<- hb h1]; exact h, fun _ => ⟨by omega, by simpa using h⟩⟩
end Go.Proofs.Ytjgpkljepgcekaa
