/- Contracts of functions of the program, and what they lean on: D6, D7, D9, D10, D11, Dt, Fa, Fb, Fg, Fp. -/
import Derived.Test.YtbdmnolcmeojbaaDlogTablesG3
set_option linter.unusedSimpArgs false
set_option linter.unusedVariables false
set_option maxRecDepth 4000
set_option maxHeartbeats 4000000
namespace Go.Proofs.Ytbdmnolcmeojbaa
open Go.RowKit
def QG (l : LI) (o : LI) (p : Int) (Q : Bool -> Prop) : Prop :=
  (((0 : Nat) + (o.length : Nat) : Int) * 8 <= 140737488355328) /\ (((((([] : LI) ++ o).length : Nat) + (1 : Nat) : Int) * 8 <= 140737488355328) /\ ((I64 (((((([] : LI) ++ o) ++ ([(1 : Int)] : LI)).length : Nat) : Int) - (1 : Int))) /\ (∃ (I32 : LI -> Int -> Prop) (μ33 : LI -> Int -> Nat), I32 ((([] : LI) ++ o) ++ ([(1 : Int)] : LI)) (((((([] : LI) ++ o) ++ ([(1 : Int)] : LI)).length : Nat) : Int) - (1 : Int)) /\ ∀ (x30 : LI) (z31 : Int), (I32 x30 z31 -> ((((l.length : Int) <= z31) -> ((0 <= z31 /\ z31 < (((([] : LI) ++ o) ++ ([(1 : Int)] : LI)).length : Nat)) /\ (∃ (I43 : LI -> Int -> Prop) (μ44 : LI -> Int -> Nat), I43 x30 (0 : Int) /\ ∀ (x41 : LI) (z42 : Int), (I43 x41 z42 -> (((z42 < (l.length : Int)) -> ((I64 (z31 - (l.length : Int))) /\ ((I64 ((z31 - (l.length : Int)) + z42)) /\ ((I64 (z31 - (l.length : Int))) /\ ((I64 ((z31 - (l.length : Int)) + z42)) /\ ((0 <= ((z31 - (l.length : Int)) + z42) /\ ((z31 - (l.length : Int)) + z42) < (((([] : LI) ++ o) ++ ([(1 : Int)] : LI)).length : Nat)) /\ ((I64 (p - (gi x30 z31))) /\ ((0 <= z42 /\ z42 < (l.length : Nat)) /\ ((I64 ((p - (gi x30 z31)) * (gi l z42))) /\ ((I64 ((gi x41 ((z31 - (l.length : Int)) + z42)) + ((p - (gi x30 z31)) * (gi l z42)))) /\ ((p ≠ 0) /\ ((0 <= ((z31 - (l.length : Int)) + z42) /\ ((z31 - (l.length : Int)) + z42) < (((([] : LI) ++ o) ++ ([(1 : Int)] : LI)).length : Nat)) /\ ((I64 (z42 + 1)) /\ (I43 (si x41 ((z31 - (l.length : Int)) + z42) (((gi x41 ((z31 - (l.length : Int)) + z42)) + ((p - (gi x30 z31)) * (gi l z42))).tmod p)) (z42 + 1) /\ μ44 (si x41 ((z31 - (l.length : Int)) + z42) (((gi x41 ((z31 - (l.length : Int)) + z42)) + ((p - (gi x30 z31)) * (gi l z42))).tmod p)) (z42 + 1) < μ44 x41 z42)))))))))))))) /\ (¬ (z42 < (l.length : Int)) -> ((0 <= z31 /\ z31 < (((([] : LI) ++ o) ++ ([(1 : Int)] : LI)).length : Nat)) /\ ((I64 (z31 - 1)) /\ (I32 (si x41 z31 0) (z31 - 1) /\ μ33 (si x41 z31 0) (z31 - 1) < μ33 x30 z31))))))))) /\ (¬ ((l.length : Int) <= z31) -> (∃ (I93 : Int -> Prop) (μ94 : Int -> Nat), I93 0 /\ ∀ (z92 : Int), (I93 z92 -> (((z92 < ((((([] : LI) ++ o) ++ ([(1 : Int)] : LI)).length : Nat) : Int)) -> ((0 <= z92 /\ z92 < (((([] : LI) ++ o) ++ ([(1 : Int)] : LI)).length : Nat)) /\ ((((gi x30 z92) ≠ (0 : Int)) -> Q false) /\ (¬ ((gi x30 z92) ≠ (0 : Int)) -> ((I64 (z92 + 1)) /\ (I93 (z92 + 1) /\ μ94 (z92 + 1) < μ94 z92)))))) /\ (¬ (z92 < ((((([] : LI) ++ o) ++ ([(1 : Int)] : LI)).length : Nat) : Int)) -> Q true))))))))))
theorem Jdw {w : World} {Q : Bool -> Prop} {l : LI} {o : LI} {p : Int} {Bl : Nat} {Al : Option Addr} {nl kl : Nat} (hl : Rd Bl w 1 Al nl kl (is l)) {Bo : Nat} {Ao : Option Addr} {no ko : Nat} (ho : Rd Bo w 1 Ao no ko (is o)) (hv : QG l o p Q) :
   Calls Try.prog 56 #[.slice Al nl kl, .slice Ao no ko, .int .i64 p] w <| Rt w fun v Qr => ∃ (r0 : Bool), v = .bool r0 /\ Qr = [] /\ Q r0 := by
 have hnl := hl.ilen; subst hnl; have hno := ho.ilen; subst hno; refine Jh <| Jf (vs := [nS Al l kl, nS Ao o ko, nI p]) [6] XF56 rfl rfl rfl rfl ?_; have hS := Jm w; unfold QG at hv; refine Jd 7 <| WL.len Jn rfl rfl <| Jc 2 <| Jd 2 <| YG (vs := is ([] : LI)) hS Jn XE3 rfl rfl rfl rfl (Qg _) rfl ?_; intro A11 w12 hS; refine Jl rfl rfl ?_; obtain ⟨o14, hv⟩ := hv; refine SL.append (cs := is ([] : LI)) (cs' := is o) 0 ((([] : LI) ++ o).length) (is (([] : LI) ++ o)) hS rfl Jn XE3 (hS.ro ho) (Qg _) rfl rfl (apk o14).1 (apk o14).2 (Jaw (hS.rd (i := 0) rfl) (hS.ro ho)) (J6 _ _) rfl ?_; intro A15 k16 w17 hS; refine Jc 2 <| Jd 3 <| YG (vs := is ([(1 : Int)] : LI)) hS Jn XE3 rfl rfl rfl rfl (Qg _) rfl ?_; intro A18 w19 hS; obtain ⟨o21, hv⟩ := hv; refine SL.append (cs := is (([] : LI) ++ o)) (cs' := is ([(1 : Int)] : LI)) 1 (((([] : LI) ++ o) ++ ([(1 : Int)] : LI)).length) (is ((([] : LI) ++ o) ++ ([(1 : Int)] : LI))) hS rfl Jn XE3 (hS.rd (i := 0) rfl) (Qg _) rfl rfl (apk o21).1 (apk o21).2 (Jaw (hS.rd (i := 1) rfl) (hS.rd (i := 0) rfl)) (J6 _ _) rfl ?_; intro A22 k23 w24 hS; refine Jc 2 <| Jd 4 <| WL.len Jn rfl rfl ?_; obtain ⟨o25, hv⟩ := hv; refine WL.sub (r := (((((([] : LI) ++ o) ++ ([(1 : Int)] : LI)).length : Nat) : Int) - (1 : Int))) rfl rfl (wr o25) rfl <| Jc 2 <| W.block ?_; obtain ⟨I32, μ33, hv, hk101⟩ := hv; refine Jy (σ := LI × Int) (fun q w1 => match q with | (x30, z31) => I32 x30 z31 /\ St TT w none w1 [.row 3 1 A18 1 1 (is ([(1 : Int)] : LI)), .row 3 1 A22 (((([] : LI) ++ o) ++ ([(1 : Int)] : LI)).length) k23 (is x30)]) (fun (x30, z31) => [(0, nS Al l kl), (2, nI p), (6, .bool false), (7, nI (l.length : Int)), (8, .slice A22 (((([] : LI) ++ o) ++ ([(1 : Int)] : LI)).length) k23), (9, nI z31)]) (fun (x30, z31) => μ33 x30 z31) ((([] : LI) ++ o) ++ ([(1 : Int)] : LI), (((((([] : LI) ++ o) ++ ([(1 : Int)] : LI)).length : Nat) : Int) - (1 : Int))) ⟨hv, hS⟩ ⟨rfl, rfl, rfl, rfl, rfl, rfl, trivial⟩ ?_; rintro ⟨x30, z31⟩ w34 ⟨hv, hS⟩; have hv := hk101 x30 z31 hv; refine Jd 7 <| Jg rfl (fun c35 => ?_) (fun c35 => ?_)
 .have hv := hv.1 (oT c35); refine Jj <| Js <| W.block <| Jd 4 ?_; obtain ⟨o36, hv⟩ := hv; refine Ji Jn XE3 (hS.rd (i := 1) rfl) rfl rfl o36 rfl <| Jk XU3 rfl rfl (JG (hS.rd (i := 1) rfl) o36) rfl <| Jc 2 <| Jd 5 <| W.block ?_; obtain ⟨I43, μ44, hv, hk89⟩ := hv; refine Jy (σ := LI × Int) (fun q w1 => match q with | (x41, z42) => I43 x41 z42 /\ St TT w none w1 [.row 3 1 A18 1 1 (is ([(1 : Int)] : LI)), .row 3 1 A22 (((([] : LI) ++ o) ++ ([(1 : Int)] : LI)).length) k23 (is x41)]) (fun (x41, z42) => [(0, nS Al l kl), (2, nI p), (6, .bool false), (7, nI (l.length : Int)), (8, .slice A22 (((([] : LI) ++ o) ++ ([(1 : Int)] : LI)).length) k23), (9, nI z31), (10, nI (gi x30 z31)), (11, nI z42), (26, .bool (decide ((l.length : Int) <= z31)))]) (fun (x41, z42) => μ44 x41 z42) (x30, (0 : Int)) ⟨hv, hS⟩ ⟨rfl, rfl, rfl, rfl, rfl, rfl, rfl, rfl, rfl, trivial⟩ ?_; rintro ⟨x41, z42⟩ w45 ⟨hv, hS⟩; have hv := hk89 x41 z42 hv; refine Jd 7 <| Jg rfl (fun c46 => ?_) (fun c46 => ?_)
  .have hv := hv.1 (oT c46); refine Jj <| Js <| W.block ?_; obtain ⟨o51, hv⟩ := hv; obtain ⟨o54, hv⟩ := hv; obtain ⟨o59, hv⟩ := hv; obtain ⟨o62, hv⟩ := hv; obtain ⟨o64, hv⟩ := hv; obtain ⟨o69, hv⟩ := hv; obtain ⟨o73, hv⟩ := hv; obtain ⟨o76, hv⟩ := hv; obtain ⟨o78, hv⟩ := hv; obtain ⟨o81, hv⟩ := hv; refine Ju 25 [⟨[], [8], true⟩, ⟨[], [9], true⟩, ⟨[], [7], true⟩, ⟨[1, 2], [], true⟩, ⟨[], [11], true⟩, ⟨[3, 4], [], true⟩, ⟨[], [8], true⟩, ⟨[], [9], true⟩, ⟨[], [7], true⟩, ⟨[7, 8], [], true⟩, ⟨[], [11], true⟩, ⟨[9, 10], [], true⟩, ⟨[6, 11], [], true⟩, ⟨[12], [], false⟩, ⟨[], [2], true⟩, ⟨[], [10], true⟩, ⟨[14, 15], [], true⟩, ⟨[], [0], true⟩, ⟨[], [11], true⟩, ⟨[17, 18], [], true⟩, ⟨[19], [], false⟩, ⟨[16, 20], [], true⟩, ⟨[13, 21], [], true⟩, ⟨[], [2], true⟩, ⟨[22, 23], [], true⟩] [(38, .slice A22 (((([] : LI) ++ o) ++ ([(1 : Int)] : LI)).length) k23), (39, nI z31), (40, nI (l.length : Int)), (41, nI (z31 - (l.length : Int))), (42, nI z42), (43, nI ((z31 - (l.length : Int)) + z42)), (44, .slice A22 (((([] : LI) ++ o) ++ ([(1 : Int)] : LI)).length) k23), (45, nI z31), (46, nI (l.length : Int)), (47, nI (z31 - (l.length : Int))), (48, nI z42), (49, nI ((z31 - (l.length : Int)) + z42)), (50, .pointer (some ((JO A22).add (((z31 - (l.length : Int)) + z42).toNat)))), (51, nI (gi x41 ((z31 - (l.length : Int)) + z42))), (52, nI p), (53, nI (gi x30 z31)), (54, nI (p - (gi x30 z31))), (55, nS Al l kl), (56, nI z42), (57, .pointer (some ((JO Al).add z42.toNat))), (58, nI (gi l z42)), (59, nI ((p - (gi x30 z31)) * (gi l z42))), (60, nI ((gi x41 ((z31 - (l.length : Int)) + z42)) + ((p - (gi x30 z31)) * (gi l z42)))), (61, nI p), (62, nI (((gi x41 ((z31 - (l.length : Int)) + z42)) + ((p - (gi x30 z31)) * (gi l z42))).tmod p))] Try.mixed (by kernel_rfl) rfl rfl ?_ ?_
   .refine ⟨oD, oD, oD, fun _ _ _ => WL.sub (r := (z31 - (l.length : Int))) rfl rfl (wr o51) rfl <| Ja ⟨rfl, rfl⟩, oD, fun _ _ _ => WL.add (r := ((z31 - (l.length : Int)) + z42)) rfl rfl (wr o54) rfl <| Ja ⟨rfl, rfl⟩, oD, oD, oD, fun _ _ _ => WL.sub (r := (z31 - (l.length : Int))) rfl rfl (wr o59) rfl <| Ja ⟨rfl, rfl⟩, oD, fun _ _ _ => WL.add (r := ((z31 - (l.length : Int)) + z42)) rfl rfl (wr o62) rfl <| Ja ⟨rfl, rfl⟩, fun _ _ _ => Ji Jn XE3 (hS.rd (i := 1) rfl) rfl rfl o64 rfl <| Ja ⟨rfl, rfl⟩, og hS fun _ _ hS => Jk XU3 rfl rfl (JG (hS.rd (i := 1) rfl) o64) rfl <| Ja ⟨rfl, Je _⟩, oD, oD, fun _ _ _ => WL.sub (r := (p - (gi x30 z31))) rfl rfl (wr o69) rfl <| Ja ⟨rfl, rfl⟩, oD, oD, fun _ _ _ => Ji Jn XE3 (hS.ro hl) rfl rfl o73 rfl <| Ja ⟨rfl, rfl⟩, og hS fun _ _ hS => Jk XU3 rfl rfl (JG (hS.ro hl) o73) rfl <| Ja ⟨rfl, Je _⟩, fun _ _ _ => WL.mul (r := ((p - (gi x30 z31)) * (gi l z42))) rfl rfl (wr o76) rfl <| Ja ⟨rfl, rfl⟩, fun _ _ _ => WL.add (r := ((gi x41 ((z31 - (l.length : Int)) + z42)) + ((p - (gi x30 z31)) * (gi l z42)))) rfl rfl (wr o78) rfl <| Ja ⟨rfl, rfl⟩, oD, fun _ _ _ => J3 (r := (((gi x41 ((z31 - (l.length : Int)) + z42)) + ((p - (gi x30 z31)) * (gi l z42))).tmod p)) rfl rfl o81 rfl rfl <| Ja ⟨rfl, rfl⟩, trivial⟩
   intro w82 hT; have hS := hS.grow hT; refine Jr 25 rfl ?_; obtain ⟨o83, hv⟩ := hv; refine Ji Jn XE3 (hS.rd (i := 1) rfl) rfl rfl o83 rfl <| Ja <| Jr 26 rfl <| Jp (cs' := is (si x41 ((z31 - (l.length : Int)) + z42) (((gi x41 ((z31 - (l.length : Int)) + z42)) + ((p - (gi x30 z31)) * (gi l z42))).tmod p))) 1 ((z31 - (l.length : Int)) + z42).toNat hS rfl XE3 rfl rfl rfl (JN (hS.rd (i := 1) rfl) o83) (JA _ _ _) ?_; intro w84 hS; refine Ja <| JQ <| Jd 2 ?_; obtain ⟨o85, hv⟩ := hv; refine WL.add (r := (z42 + 1)) rfl rfl (wr o85) rfl <| Jc 2 ?_; exact ⟨(si x41 ((z31 - (l.length : Int)) + z42) (((gi x41 ((z31 - (l.length : Int)) + z42)) + ((p - (gi x30 z31)) * (gi l z42))).tmod p), (z42 + 1)), sp rfl, hv.2, rfl, hv.1, hS⟩
  have hv := hv.2 (oF c46); refine Jt <| Jd 3 ?_; obtain ⟨o86, hv⟩ := hv; refine Ji Jn XE3 (hS.rd (i := 1) rfl) rfl rfl o86 rfl <| Jp (cs' := is (si x41 z31 0)) 1 z31.toNat hS rfl XE3 rfl rfl rfl (JN (hS.rd (i := 1) rfl) o86) (JA _ _ _) ?_; intro w87 hS; refine Ja <| Jd 2 ?_; obtain ⟨o88, hv⟩ := hv; refine WL.sub (r := (z31 - 1)) rfl rfl (wr o88) rfl <| Jc 2 ?_; exact ⟨(si x41 z31 0, (z31 - 1)), sp rfl, hv.2, rfl, hv.1, hS⟩
 have hv := hv.2 (oF c35); refine Jt <| Jd 5 <| W.block ?_; obtain ⟨I93, μ94, hv, hk100⟩ := hv; refine Jy (σ := Int) (fun z92 w1 => I93 z92 /\ St TT w none w1 [.row 3 1 A18 1 1 (is ([(1 : Int)] : LI)), .row 3 1 A22 (((([] : LI) ++ o) ++ ([(1 : Int)] : LI)).length) k23 (is x30)]) (fun z92 => [(6, .bool false), (8, .slice A22 (((([] : LI) ++ o) ++ ([(1 : Int)] : LI)).length) k23), (12, nI z92)]) (fun z92 => μ94 z92) (0 : Int) ⟨hv, hS⟩ ⟨rfl, rfl, rfl, trivial⟩ ?_; rintro z92 w95 ⟨hv, hS⟩; have hv := hk100 z92 hv; refine Jd 5 <| WL.len Jn rfl rfl <| Jc 2 <| Jg rfl (fun c96 => ?_) (fun c96 => ?_)
 .have hv := hv.1 (oT c96); refine Jj <| Js <| W.block <| Jd 4 ?_; obtain ⟨o97, hv⟩ := hv; refine Ji Jn XE3 (hS.rd (i := 1) rfl) rfl rfl o97 rfl <| Jk XU3 rfl rfl (JG (hS.rd (i := 1) rfl) o97) rfl <| Jc 2 <| Jg rfl (fun c98 => ?_) (fun c98 => ?_)
  .have hv := hv.1 (oT c98); refine Jd 4 <| W.ret <| ⟨_, rfl, Fin.nil ?_⟩
   exact (hS.pick [] rfl).fin rfl ⟨false, rfl, rfl, hv⟩
  have hv := hv.2 (oF c98); refine Jj <| Jd 2 ?_; obtain ⟨o99, hv⟩ := hv; refine WL.add (r := (z92 + 1)) rfl rfl (wr o99) rfl <| Jc 2 ?_; exact ⟨(z92 + 1), sp rfl, hv.2, rfl, hv.1, hS⟩
 have hv := hv.2 (oF c96); refine Jt <| Jd 4 <| W.ret <| ⟨_, rfl, Fin.nil ?_⟩
 exact (hS.pick [] rfl).fin rfl ⟨true, rfl, rfl, hv⟩
def Jbc (l : LI) (p : Int) (Q : Bool -> Prop) : Prop :=
  ∃ (I17 : Int -> Int -> Prop) (μ18 : Int -> Int -> Nat), I17 1 (1 : Int) /\ ∀ (z15 : Int) (z16 : Int), (I17 z15 z16 -> ((I64 ((2 : Int) * z16)) /\ (((((2 : Int) * z16) <= (l.length : Int)) -> ((I64 (z15 * p)) /\ (∃ (I26 : Int -> Prop) (μ27 : Int -> Nat), I26 0 /\ ∀ (z25 : Int), (I26 z25 -> (((z25 < (z15 * p)) -> (QT z25 p z16 (fun x31 => QG x31 l p (fun r36 => ((r36 = true) -> Q false) /\ (r36 = false -> ((I64 (z25 + 1)) /\ (I26 (z25 + 1) /\ μ27 (z25 + 1) < μ27 z25))))))) /\ (¬ (z25 < (z15 * p)) -> ((I64 (z16 + 1)) /\ (I17 (z15 * p) (z16 + 1) /\ μ18 (z15 * p) (z16 + 1) < μ18 z15 z16)))))))) /\ (¬ (((2 : Int) * z16) <= (l.length : Int)) -> Q true))))
theorem Jli {w : World} {Q : Bool -> Prop} {l : LI} {p : Int} {Bl : Nat} {Al : Option Addr} {nl kl : Nat} (hl : Rd Bl w 1 Al nl kl (is l)) (hv : Jbc l p Q) :
   Calls Try.prog 43 #[.slice Al nl kl, .int .i64 p] w <| Rt w fun v Qr => ∃ (r0 : Bool), v = .bool r0 /\ Qr = [] /\ Q r0 := by
 have hnl := hl.ilen; subst hnl; refine Jh <| Jf (vs := [nS Al l kl, nI p]) [4] XF43 rfl rfl rfl rfl ?_; have hS := Jm w; unfold Jbc at hv; refine Jd 13 <| W.block ?_; obtain ⟨I17, μ18, hv, hk41⟩ := hv; refine Jy (σ := Int × Int) (fun q w1 => match q with | (z15, z16) => I17 z15 z16 /\ St TT w none w1 []) (fun (z15, z16) => [(0, nS Al l kl), (1, nI p), (4, .bool false), (5, nI z15), (6, nI z16)]) (fun (z15, z16) => μ18 z15 z16) ((1 : Int), (1 : Int)) ⟨hv, hS⟩ ⟨rfl, rfl, rfl, rfl, rfl, trivial⟩ ?_; rintro ⟨z15, z16⟩ w19 ⟨hv, hS⟩; have hv := hk41 z15 z16 hv; refine Jd 4 ?_; obtain ⟨o20, hv⟩ := hv; refine WL.mul (r := ((2 : Int) * z16)) rfl rfl (wr o20) rfl <| Jl rfl rfl <| WL.len Jn rfl rfl <| Jc 2 <| Jg rfl (fun c21 => ?_) (fun c21 => ?_)
 .have hv := hv.1 (oT c21); refine Jj <| Js <| W.block <| Jd 4 ?_; obtain ⟨o22, hv⟩ := hv; refine WL.mul (r := (z15 * p)) rfl rfl (wr o22) rfl <| Jc 2 <| Jd 4 <| W.block ?_; obtain ⟨I26, μ27, hv, hk40⟩ := hv; refine Jy (σ := Int) (fun z25 w1 => I26 z25 /\ St TT w none w1 []) (fun z25 => [(0, nS Al l kl), (1, nI p), (4, .bool false), (5, nI (z15 * p)), (6, nI z16), (7, nI z25), (12, .bool (decide (((2 : Int) * z16) <= (l.length : Int))))]) (fun z25 => μ27 z25) (0 : Int) ⟨hv, hS⟩ ⟨rfl, rfl, rfl, rfl, rfl, rfl, rfl, trivial⟩ ?_; rintro z25 w28 ⟨hv, hS⟩; have hv := hk40 z25 hv; refine Jd 7 <| Jg rfl (fun c29 => ?_) (fun c29 => ?_)
  .have hv := hv.1 (oT c29); refine Jj <| Js <| W.block <| Jd 5 <| SL.call hS (Jao  hv) XF36 rfl XN36 rfl rfl ?_; rintro _ _ w30 ⟨x31, A32, k33, rfl, rfl, hv⟩ hGw30 hS; have hS := hS.n1; refine Jc 2 <| SL.call hS (Jdw (hS.rd (i := 0) rfl) (hS.ro hl) hv) XF56 rfl XN56 rfl rfl ?_; rintro _ _ w35 ⟨r36, rfl, rfl, hv⟩ hGw35 hS; have hS := hS.n0; refine Ja <| Jg rfl (fun c37 => ?_) (fun c37 => ?_)
   .have hv := hv.1 (c37); refine Jd 4 <| W.ret <| ⟨_, rfl, Fin.nil ?_⟩
    exact (hS.pick [] rfl).fin rfl ⟨false, rfl, rfl, hv⟩
   have hv := hv.2 (c37); refine Jj <| Jd 2 ?_; obtain ⟨o38, hv⟩ := hv; refine WL.add (r := (z25 + 1)) rfl rfl (wr o38) rfl <| Jc 2 ?_; have hS := hS.pick [] rfl; exact ⟨(z25 + 1), sp rfl, hv.2, rfl, hv.1, hS⟩
  have hv := hv.2 (oF c29); refine Jt <| Jd 2 ?_; obtain ⟨o39, hv⟩ := hv; refine WL.add (r := (z16 + 1)) rfl rfl (wr o39) rfl <| Jc 2 ?_; exact ⟨((z15 * p), (z16 + 1)), sp rfl, hv.2, rfl, hv.1, hS⟩
 have hv := hv.2 (oF c21); refine Jt <| Jd 4 <| W.ret <| ⟨_, rfl, Fin.nil ?_⟩
 exact (hS.pick [] rfl).fin rfl ⟨true, rfl, rfl, hv⟩
def Yn (Pf : Int) (Mf : Int) (mf : LI) (Q : Int -> Prop) : Prop :=
  J1 Pf Mf mf (fun r14 => ((r14 = 0) -> (Q 1)) /\ (¬ (r14 = 0) -> (Zk Pf (fun r17 => (((!r17) = true) -> (Q 1)) /\ ((!r17) = false -> (((Mf = 1) -> ((((mf.length : Int) ≠ (0 : Int)) -> (Q 1)) /\ (¬ ((mf.length : Int) ≠ (0 : Int)) -> (Q 0)))) /\ (¬ (Mf = 1) -> ((((mf.length : Int) ≠ Mf) -> (Q 1)) /\ (¬ ((mf.length : Int) ≠ Mf) -> (∃ (I25 : Int -> Prop) (μ26 : Int -> Nat), I25 0 /\ ∀ (z24 : Int), (I25 z24 -> (((z24 < Mf) -> ((((gi mf z24) < (0 : Int)) -> ((0 <= z24 /\ z24 < (mf.length : Nat)) /\ (Q 1))) /\ (¬ ((gi mf z24) < (0 : Int)) -> ((0 <= z24 /\ z24 < (mf.length : Nat)) /\ ((0 <= z24 /\ z24 < (mf.length : Nat)) /\ (((Pf <= (gi mf z24)) -> (Q 1)) /\ (¬ (Pf <= (gi mf z24)) -> ((I64 (z24 + 1)) /\ (I25 (z24 + 1) /\ μ26 (z24 + 1) < μ26 z24))))))))) /\ (¬ (z24 < Mf) -> (Jbc mf Pf (fun r70 => (((!r70) = true) -> (Q 1)) /\ ((!r70) = false -> (Q 0)))))))))))))))))
theorem Jby {w : World} {Q : Int -> Prop} {Pf : Int} {Mf : Int} {mf : LI} {Bf : Nat} {Af : Option Addr} {nf kf : Nat} (hf : Rd Bf w 1 Af nf kf (is mf)) (hv : Yn Pf Mf mf Q) :
   Calls Try.prog 28 #[.agg #[.int .i64 Pf, .int .i64 Mf, .slice Af nf kf]] w <| Rt w fun v Qr => ∃ (r0 : Int), v = .int .i64 r0 /\ Qr = [] /\ Q r0 := by
 have hnf := hf.ilen; subst hnf; refine Jh <| Jf (vs := [.agg #[nI Pf, nI Mf, nS Af mf kf]]) [2] XF28 rfl rfl rfl rfl ?_; have hS := Jm w; unfold Yn at hv; refine Jd 2 <| JC (z := 3) (cs := [nI Pf, nI Mf, nS Af mf kf]) hS rfl rfl rfl rfl ?_; intro g11 w12 hS; refine Jc 2 <| Jd 3 <| JF 0 JJ JM hS rfl ⟨rfl, rfl⟩ rfl <| SL.call hS (Qd (hS.ro hf) hv) Jda rfl Jer rfl rfl ?_; rintro _ _ w13 ⟨r14, rfl, rfl, hv⟩ hGw13 hS; have hS := hS.n0; refine Ql rfl rfl rfl <| Jl rfl rfl ?_; by_cases g15 : r14 = 0
 .have hv := hv.1 g15; rw [decide_eq_true g15]; refine Jc 6 <| JI rfl <| Jd 4 <| W.ret <| ⟨_, rfl, Fin.nil ?_⟩
  exact (hS.pick [] rfl).fin rfl ⟨(1 : Int), rfl, rfl, hv⟩
 have hv := hv.2 g15; rw [decide_eq_false g15]; refine WL.take rfl <| Jb (off := 0) JK rfl rfl <| WL.take rfl <| SL.lv 0 0 XU3 hS rfl rfl rfl ⟨rfl, rfl⟩ <| WL.take rfl <| SL.call hS (Jhq  hv) XF42 rfl XN42 rfl rfl ?_; rintro _ _ w16 ⟨r17, rfl, rfl, hv⟩ hGw16 hS; have hS := hS.n0; refine Jc 4 <| Jg rfl (fun c18 => ?_) (fun c18 => ?_)
 .have hv := hv.1 (c18); refine Jd 4 <| W.ret <| ⟨_, rfl, Fin.nil ?_⟩
  exact (hS.pick [] rfl).fin rfl ⟨(1 : Int), rfl, rfl, hv⟩
 have hv := hv.2 (c18); refine Jj <| Jd 3 <| Jb (off := 1) JP rfl rfl <| SL.lv 0 1 XU3 hS rfl rfl rfl ⟨rfl, rfl⟩ <| Jc 2 <| Jg rfl (fun c19 => ?_) (fun c19 => ?_)
 .have hv := hv.1 (oT c19); refine Jd 3 <| Jb (off := 2) Qk rfl rfl <| SL.lv 0 2 Jn hS rfl rfl rfl ⟨rfl, rfl⟩ <| WL.len Jn rfl rfl <| Jc 2 <| Jg rfl (fun c20 => ?_) (fun c20 => ?_)
  .have hv := hv.1 (oT c20); refine Jd 4 <| W.ret <| ⟨_, rfl, Fin.nil ?_⟩
   exact (hS.pick [] rfl).fin rfl ⟨(1 : Int), rfl, rfl, hv⟩
  have hv := hv.2 (oF c20); refine Jj <| Jd 4 <| W.ret <| ⟨_, rfl, Fin.nil ?_⟩
  exact (hS.pick [] rfl).fin rfl ⟨(0 : Int), rfl, rfl, hv⟩
 have hv := hv.2 (oF c19); refine Jj <| Jd 3 <| Jb (off := 2) Qk rfl rfl <| SL.lv 0 2 Jn hS rfl rfl rfl ⟨rfl, rfl⟩ <| WL.len Jn rfl rfl <| Jb (off := 1) JP rfl rfl <| SL.lv 0 1 XU3 hS rfl rfl rfl ⟨rfl, rfl⟩ <| Jc 2 <| Jg rfl (fun c21 => ?_) (fun c21 => ?_)
 .have hv := hv.1 (oT c21); refine Jd 4 <| W.ret <| ⟨_, rfl, Fin.nil ?_⟩
  exact (hS.pick [] rfl).fin rfl ⟨(1 : Int), rfl, rfl, hv⟩
 have hv := hv.2 (oF c21); refine Jj <| Jd 5 <| W.block ?_; obtain ⟨I25, μ26, hv, hk72⟩ := hv; refine Jy (σ := Int) (fun z24 w1 => I25 z24 /\ St TT w none w1 [.row 24 3 (nA g11) 1 1 [nI Pf, nI Mf, nS Af mf kf]]) (fun z24 => [(1, nP g11), (2, nI 0), (3, nI z24)]) (fun z24 => μ26 z24) (0 : Int) ⟨hv, hS⟩ ⟨rfl, rfl, rfl, trivial⟩ ?_; rintro z24 w27 ⟨hv, hS⟩; have hv := hk72 z24 hv; refine Jd 4 <| Jb (off := 1) JP rfl rfl <| SL.lv 0 1 XU3 hS rfl rfl rfl ⟨rfl, rfl⟩ <| Jc 2 <| Jg rfl (fun c28 => ?_) (fun c28 => ?_)
 .have hv := hv.1 (oT c28); refine Jj <| Js <| W.block <| Js ?_; by_cases g29 : (gi mf z24) < (0 : Int)
  .have hv := hv.1 g29; obtain ⟨o34, hv⟩ := hv; refine Ju 16 [⟨[], [1], true⟩, ⟨[0], [], false⟩, ⟨[], [3], true⟩, ⟨[1, 2], [], true⟩, ⟨[3], [], false⟩, ⟨[4], [], true⟩, ⟨[5], [], true⟩, ⟨[6], [1], true⟩, ⟨[6, 7], [], false⟩, ⟨[6], [3], true⟩, ⟨[6, 8, 9], [], true⟩, ⟨[6, 10], [], false⟩, ⟨[6], [1], true⟩, ⟨[6, 12], [], false⟩, ⟨[6, 11, 13], [], true⟩, ⟨[6, 14], [], true⟩] [(32, .pointer (some ((⟨g11, 0, none⟩ : Addr).add 2))), (33, nS Af mf kf), (34, nI z24), (35, .pointer (some ((JO Af).add z24.toNat))), (36, nI (gi mf z24)), (37, .bool true), (38, .bool true), (39, undef), (40, undef), (41, undef), (42, undef), (43, undef), (44, undef), (45, undef), (46, undef), (47, .bool true)] Try.mixed (by kernel_rfl) rfl rfl ?_ ?_
   .refine ⟨fun _ _ _ => Jb (off := 2) Qk rfl rfl <| Ja ⟨rfl, rfl⟩, og hS fun _ _ hS => SL.lv 0 2 Jn hS rfl rfl rfl ⟨rfl, rfl⟩ <| Ja ⟨rfl, Je _⟩, oD, fun _ _ _ => Ji Jn XE3 (hS.ro hf) rfl rfl o34 rfl <| Ja ⟨rfl, rfl⟩, og hS fun _ _ hS => Jk XU3 rfl rfl (JG (hS.ro hf) o34) rfl <| Ja ⟨rfl, Je _⟩, ?_, oD, oD, oD, oD, oD, oD, oD, oD, oD, oD, trivial⟩; intro w36 hE RR; refine Yz rfl rfl rfl ?_; rw [decide_eq_true g29]; exact Ja ⟨rfl, rfl⟩
   intro w47 hT; have hS := hS.grow hT; refine JQ <| JI rfl <| Jd 4 <| W.ret <| ⟨_, rfl, Fin.nil ?_⟩
   exact (hS.pick [] rfl).fin rfl ⟨(1 : Int), rfl, rfl, hv⟩
  have hv := hv.2 g29; obtain ⟨o52, hv⟩ := hv; obtain ⟨o60, hv⟩ := hv; refine Ju 16 [⟨[], [1], true⟩, ⟨[0], [], false⟩, ⟨[], [3], true⟩, ⟨[1, 2], [], true⟩, ⟨[3], [], false⟩, ⟨[4], [], true⟩, ⟨[5], [], true⟩, ⟨[6], [1], true⟩, ⟨[6, 7], [], false⟩, ⟨[6], [3], true⟩, ⟨[6, 8, 9], [], true⟩, ⟨[6, 10], [], false⟩, ⟨[6], [1], true⟩, ⟨[6, 12], [], false⟩, ⟨[6, 11, 13], [], true⟩, ⟨[6, 14], [], true⟩] [(32, .pointer (some ((⟨g11, 0, none⟩ : Addr).add 2))), (33, nS Af mf kf), (34, nI z24), (35, .pointer (some ((JO Af).add z24.toNat))), (36, nI (gi mf z24)), (37, .bool false), (38, .bool false), (39, .pointer (some ((⟨g11, 0, none⟩ : Addr).add 2))), (40, nS Af mf kf), (41, nI z24), (42, .pointer (some ((JO Af).add z24.toNat))), (43, nI (gi mf z24)), (44, nP g11), (45, nI Pf), (46, .bool (decide (Pf <= (gi mf z24)))), (47, .bool (decide (Pf <= (gi mf z24))))] Try.mixed (by kernel_rfl) rfl rfl ?_ ?_
  .refine ⟨fun _ _ _ => Jb (off := 2) Qk rfl rfl <| Ja ⟨rfl, rfl⟩, og hS fun _ _ hS => SL.lv 0 2 Jn hS rfl rfl rfl ⟨rfl, rfl⟩ <| Ja ⟨rfl, Je _⟩, oD, fun _ _ _ => Ji Jn XE3 (hS.ro hf) rfl rfl o52 rfl <| Ja ⟨rfl, rfl⟩, og hS fun _ _ hS => Jk XU3 rfl rfl (JG (hS.ro hf) o52) rfl <| Ja ⟨rfl, Je _⟩, ?_, oD, fun _ _ _ => WL.take rfl <| Jb (off := 2) Qk rfl rfl <| Ja ⟨rfl, rfl⟩, og hS fun _ _ hS => WL.take rfl <| SL.lv 0 2 Jn hS rfl rfl rfl ⟨rfl, rfl⟩ <| Ja ⟨rfl, Je _⟩, oD, fun _ _ _ => WL.take rfl <| Ji Jn XE3 (hS.ro hf) rfl rfl o60 rfl <| Ja ⟨rfl, rfl⟩, og hS fun _ _ hS => WL.take rfl <| Jk XU3 rfl rfl (JG (hS.ro hf) o60) rfl <| Ja ⟨rfl, Je _⟩, fun _ _ _ => WL.take rfl <| Jb (off := 0) JK rfl rfl <| Ja ⟨rfl, rfl⟩, og hS fun _ _ hS => WL.take rfl <| SL.lv 0 0 XU3 hS rfl rfl rfl ⟨rfl, rfl⟩ <| Ja ⟨rfl, Je _⟩, oD, oD, trivial⟩; intro w54 hE RR; refine Yz rfl rfl rfl ?_; rw [decide_eq_false g29]; exact Ja ⟨rfl, rfl⟩
  intro w66 hT; have hS := hS.grow hT; refine JQ <| Jg rfl (fun c67 => ?_) (fun c67 => ?_)
  .have hv := hv.1 (oT c67); refine Jd 4 <| W.ret <| ⟨_, rfl, Fin.nil ?_⟩
   exact (hS.pick [] rfl).fin rfl ⟨(1 : Int), rfl, rfl, hv⟩
  have hv := hv.2 (oF c67); refine Jj <| Jd 2 ?_; obtain ⟨o68, hv⟩ := hv; refine WL.add (r := (z24 + 1)) rfl rfl (wr o68) rfl <| Jc 2 ?_; exact ⟨(z24 + 1), sp rfl, hv.2, rfl, hv.1, hS⟩
 have hv := hv.2 (oF c28); refine Jt <| Jd 3 <| Jb (off := 2) Qk rfl rfl <| SL.lv 0 2 Jn hS rfl rfl rfl ⟨rfl, rfl⟩ <| Jb (off := 0) JK rfl rfl <| SL.lv 0 0 XU3 hS rfl rfl rfl ⟨rfl, rfl⟩ <| SL.call hS (Jli (hS.ro hf) hv) XF43 rfl XN43 rfl rfl ?_; rintro _ _ w69 ⟨r70, rfl, rfl, hv⟩ hGw69 hS; have hS := hS.n0; refine Jc 2 <| Jg rfl (fun c71 => ?_) (fun c71 => ?_)
 .have hv := hv.1 (c71); refine Jd 4 <| W.ret <| ⟨_, rfl, Fin.nil ?_⟩
  exact (hS.pick [] rfl).fin rfl ⟨(1 : Int), rfl, rfl, hv⟩
 have hv := hv.2 (c71); refine Jj <| Jd 4 <| W.ret <| ⟨_, rfl, Fin.nil ?_⟩
 exact (hS.pick [] rfl).fin rfl ⟨(0 : Int), rfl, rfl, hv⟩
def Jhd (Pf : Int) (Mf : Int) (mf : LI) (x : Int) (Q : Bool -> Prop) : Prop :=
  (((0 : Int) <= x) -> (J1 Pf Mf mf (fun r15 => Q (decide (x < r15))))) /\ (¬ ((0 : Int) <= x) -> Q false)
theorem ok_rIs {w : World} {Q : Bool -> Prop} {Pf : Int} {Mf : Int} {mf : LI} {x : Int} {Bf : Nat} {Af : Option Addr} {nf kf : Nat} (hf : Rd Bf w 1 Af nf kf (is mf)) (hv : Jhd Pf Mf mf x Q) :
   Calls Try.prog 35 #[.agg #[.int .i64 Pf, .int .i64 Mf, .slice Af nf kf], .int .i64 x] w <| Rt w fun v Qr => ∃ (r0 : Bool), v = .bool r0 /\ Qr = [] /\ Q r0 := by
 have hnf := hf.ilen; subst hnf; refine Jh <| Jf (vs := [.agg #[nI Pf, nI Mf, nS Af mf kf], nI x]) [4] XF35 rfl rfl rfl rfl ?_; have hS := Jm w; unfold Jhd at hv; refine Jd 2 <| JC (z := 3) (cs := [nI Pf, nI Mf, nS Af mf kf]) hS rfl rfl rfl rfl ?_; intro g11 w12 hS; refine Jc 2 <| Jd 4 <| Jl rfl rfl ?_; by_cases g13 : (0 : Int) <= x
 .have hv := hv.1 g13; rw [decide_eq_true g13]; refine Jc 3 <| JF 0 JJ JM hS rfl ⟨rfl, rfl⟩ rfl <| WL.take rfl <| SL.call hS (Qd (hS.ro hf) hv) Jda rfl Jer rfl rfl ?_; rintro _ _ w14 ⟨r15, rfl, rfl, hv⟩ hGw14 hS; have hS := hS.n0; refine Jc 5 <| W.ret <| ⟨_, rfl, Fin.nil ?_⟩
  exact (hS.pick [] rfl).fin rfl ⟨(decide (x < r15)), rfl, rfl, hv⟩
 have hv := hv.2 g13; rw [decide_eq_false g13]; refine Jc 7 <| W.ret <| ⟨_, rfl, Fin.nil ?_⟩
 exact (hS.pick [] rfl).fin rfl ⟨false, rfl, rfl, hv⟩
def Zl (Pf : Int) (Mf : Int) (mf : LI) (x : Int) (Q : Int -> Prop) : Prop :=
  Jhd Pf Mf mf x (fun r14 => ((r14 = true) -> Q x) /\ (r14 = false -> (Q 0)))
theorem Zu {w : World} {Q : Int -> Prop} {Pf : Int} {Mf : Int} {mf : LI} {x : Int} {Bf : Nat} {Af : Option Addr} {nf kf : Nat} (hf : Rd Bf w 1 Af nf kf (is mf)) (hv : Zl Pf Mf mf x Q) :
   Calls Try.prog 23 #[.agg #[.int .i64 Pf, .int .i64 Mf, .slice Af nf kf], .int .i64 x] w <| Rt w fun v Qr => ∃ (r0 : Int), v = .int .i64 r0 /\ Qr = [] /\ Q r0 := by
 have hnf := hf.ilen; subst hnf; refine Jh <| Jf (vs := [.agg #[nI Pf, nI Mf, nS Af mf kf], nI x]) [4] Jf6 rfl rfl rfl rfl ?_; have hS := Jm w; unfold Zl at hv; refine Jd 2 <| JC (z := 3) (cs := [nI Pf, nI Mf, nS Af mf kf]) hS rfl rfl rfl rfl ?_; intro g11 w12 hS; refine Jc 2 <| Jd 3 <| JF 0 JJ JM hS rfl ⟨rfl, rfl⟩ rfl <| Jl rfl rfl <| SL.call hS (ok_rIs (hS.ro hf) hv) XF35 rfl XN35 rfl rfl ?_; rintro _ _ w13 ⟨r14, rfl, rfl, hv⟩ hGw13 hS; have hS := hS.n0; refine Ja <| Jg rfl (fun c15 => ?_) (fun c15 => ?_)
 .have hv := hv.1 (c15); refine Jd 5 <| W.ret <| ⟨_, rfl, Fin.nil ?_⟩
  exact (hS.pick [] rfl).fin rfl ⟨x, rfl, rfl, hv⟩
 have hv := hv.2 (c15); refine Jj <| Jd 4 <| W.ret <| ⟨_, rfl, Fin.nil ?_⟩
 exact (hS.pick [] rfl).fin rfl ⟨(0 : Int), rfl, rfl, hv⟩
def Qs (Pf : Int) (Mf : Int) (mf : LI) (x : Int) (Q : LI -> Prop) : Prop :=
  ∃ (r16 : Int), Zl Pf Mf mf x (fun q => q = r16) /\ (∃ (x24 : LI), QT r16 Pf Mf (fun q => q = x24) /\ Q x24)
theorem Q0 {w : World} {Q : LI -> Prop} {Pf : Int} {Mf : Int} {mf : LI} {x : Int} {Bf : Nat} {Af : Option Addr} {nf kf : Nat} (hf : Rd Bf w 1 Af nf kf (is mf)) (hv : Qs Pf Mf mf x Q) :
  Calls Try.prog 25 #[.agg #[.int .i64 Pf, .int .i64 Mf, .slice Af nf kf], .int .i64 x] w <| Rt w fun v Qr => ∃ (x : LI)  (A : Option Addr) (c : Nat), v = .slice A x.length c /\ Qr = [.row 3 1 A x.length c (is x)] /\ Q x := by
 have hnf := hf.ilen; subst hnf; refine Jh <| Jf (vs := [.agg #[nI Pf, nI Mf, nS Af mf kf], nI x]) [4] XF25 rfl rfl rfl rfl ?_; have hS := Jm w; unfold Qs at hv; refine Jd 2 <| JC (z := 3) (cs := [nI Pf, nI Mf, nS Af mf kf]) hS rfl rfl rfl rfl ?_; intro g11 w12 hS; refine Jc 2 <| Js ?_; obtain ⟨r16, o18, hv⟩ := hv; obtain ⟨x24, o31, hv⟩ := hv; have hS0 := hS; refine Zh 9 (fun iA => [false, false, false, false, false, false, false, true, false].getD iA false) (fun iC => match iC with | 8 => some 7 | _ => none) (fun _ v u => u = v) [⟨[], [2], false⟩, ⟨[], [1], true⟩, ⟨[0, 1], [], false⟩, ⟨[], [2], true⟩, ⟨[3], [], false⟩, ⟨[], [2], true⟩, ⟨[5], [], false⟩, ⟨[2, 4, 6], [], false⟩, ⟨[7], [], true⟩] [.k 5 (.agg #[nI Pf, nI Mf, nS Af mf kf]), .k 6 (nI x), .k 7 (nI r16), .k 8 (nP g11), .k 9 (nI Pf), .k 10 (.pointer (some ((⟨g11, 0, none⟩ : Addr).add 1))), .k 11 (nI Mf), eS w12 12 3 x24.length (is x24), eS w12 4 3 x24.length (is x24)] (fun _ => vbD) Try.mixed (by kernel_rfl) rfl rfl (fun _ _ _ _ _ _ _ h => h) ?_ ?_
 .refine ⟨og hS fun _ _ hS => JF 0 JJ JM hS rfl ⟨rfl, rfl⟩ rfl <| Ja ⟨rfl, Je _⟩, oC, ?_, fun _ _ _ => Jb (off := 0) JK rfl rfl <| Ja ⟨rfl, rfl⟩, og hS fun _ _ hS => SL.lv 0 0 XU3 hS rfl rfl rfl ⟨rfl, rfl⟩ <| Ja ⟨rfl, Je _⟩, fun _ _ _ => Jb (off := 1) JP rfl rfl <| Ja ⟨rfl, rfl⟩, og hS fun _ _ hS => SL.lv 0 1 XU3 hS rfl rfl rfl ⟨rfl, rfl⟩ <| Ja ⟨rfl, Je _⟩, ?_, ?_, trivial⟩
  .intro w15 hE; have hS := hS.grow (hE rfl); intro RR; refine WL.call Jf6 rfl Jik rfl rfl (JB (Zu (hS.ro hf) o18)) ?_; rintro _ w17 ⟨_, hGw17, hRww17, hNww17, r16q, rfl, rfl, he⟩; subst he; exact Ja ⟨rfl, hGw17⟩
  .intro w23 hE; have hE := hE rfl; have hS := hS.grow hE; intro RR; refine WL.call XF36 rfl XN36 rfl rfl (JB (Jao  o31)) ?_; rintro _ w28 ⟨_, hGw28, hRww28, hNww28, x24q, A25, k26, rfl, rfl, he⟩; subst he; have hO29 := (hRww28.get (i := 0) rfl).1; have hN30 : ∀ g, bl A25 = some g -> _ <= g := fun g hg => Nat.le_trans hE.size (hNww28.1 g hg); exact Ja ⟨_, rfl, hGw28, ⟨A25, k26, rfl, hO29, hN30⟩, (fun _ => fun g hg => ⟨hNww28.1 g hg, (hO29.bl_ge g hg).2⟩), (fun j h => by cases h)⟩
  intro w32 hE; rintro _ ⟨A25_7, k26_7, rfl, hO29_7, hN30_7⟩; intro RR; refine Qe rfl rfl ?_; exact Ja ⟨_, rfl, rfl, ⟨A25_7, k26_7, rfl, hO29_7, hN30_7⟩, (fun h => absurd h (by decide)), (fun j h => by cases h; exact ⟨_, rfl, rfl⟩)⟩
 intro vals w33 hT hVs hAp hCp; have hS := hS.grow hT; obtain ⟨A25_7, k26_7, hv7, hO29_7, hN30_7⟩ := hVs 7 (by decide); have hv8 : vals 8 = nS A25_7 x24 k26_7 := (hCp 8 7 (by decide) rfl).trans hv7; have hS := Qt [] hS0 hS hO29_7 hN30_7 (fun s hs => by cases hs); refine Jhb [(7, nS A25_7 x24 k26_7), (8, nS A25_7 x24 k26_7)] ⟨hv7, hv8, trivial⟩ <| JQ <| W.ret <| ⟨_, rfl, Fin.nil ?_⟩
 exact (hS.pick [0] rfl).fin rfl ⟨x24, A25_7, k26_7, rfl, rfl, hv⟩
def QU (Pf : Int) (Mf : Int) (mf : LI) (l : LI) (Q : Int -> Prop) : Prop :=
  (I64 ((l.length : Int) - (1 : Int))) /\ (∃ (I20 : Int -> Int -> Prop) (μ21 : Int -> Int -> Nat), I20 0 ((l.length : Int) - (1 : Int)) /\ ∀ (z18 : Int) (z19 : Int), (I20 z18 z19 -> ((((0 : Int) <= z19) -> ((I64 (z18 * Pf)) /\ ((0 <= z19 /\ z19 < (l.length : Nat)) /\ ((I64 ((z18 * Pf) + (gi l z19))) /\ ((I64 (z19 - 1)) /\ (I20 ((z18 * Pf) + (gi l z19)) (z19 - 1) /\ μ21 ((z18 * Pf) + (gi l z19)) (z19 - 1) < μ21 z18 z19)))))) /\ (¬ ((0 : Int) <= z19) -> Q z18))))
theorem Jbx {w : World} {Q : Int -> Prop} {Pf : Int} {Mf : Int} {mf : LI} {l : LI} {Bf : Nat} {Af : Option Addr} {nf kf : Nat} (hf : Rd Bf w 1 Af nf kf (is mf)) {Bl : Nat} {Al : Option Addr} {nl kl : Nat} (hl : Rd Bl w 1 Al nl kl (is l)) (hv : QU Pf Mf mf l Q) :
   Calls Try.prog 26 #[.agg #[.int .i64 Pf, .int .i64 Mf, .slice Af nf kf], .slice Al nl kl] w <| Rt w fun v Qr => ∃ (r0 : Int), v = .int .i64 r0 /\ Qr = [] /\ Q r0 := by
 have hnf := hf.ilen; subst hnf; have hnl := hl.ilen; subst hnl; refine Jh <| Jf (vs := [.agg #[nI Pf, nI Mf, nS Af mf kf], nS Al l kl]) [4] XF26 rfl rfl rfl rfl ?_; have hS := Jm w; unfold QU at hv; refine Jd 2 <| JC (z := 3) (cs := [nI Pf, nI Mf, nS Af mf kf]) hS rfl rfl rfl rfl ?_; intro g11 w12 hS; refine Jc 2 <| Jd 8 <| WL.len Jn rfl rfl ?_; obtain ⟨o13, hv⟩ := hv; refine WL.sub (r := ((l.length : Int) - (1 : Int))) rfl rfl (wr o13) rfl <| Jc 2 <| W.block ?_; obtain ⟨I20, μ21, hv, hk39⟩ := hv; refine Jy (σ := Int × Int) (fun q w1 => match q with | (z18, z19) => I20 z18 z19 /\ St TT w none w1 [.row 24 3 (nA g11) 1 1 [nI Pf, nI Mf, nS Af mf kf]]) (fun (z18, z19) => [(1, nS Al l kl), (2, nP g11), (4, nI 0), (5, nI z18), (6, nI z19)]) (fun (z18, z19) => μ21 z18 z19) ((0 : Int), ((l.length : Int) - (1 : Int))) ⟨hv, hS⟩ ⟨rfl, rfl, rfl, rfl, rfl, trivial⟩ ?_; rintro ⟨z18, z19⟩ w22 ⟨hv, hS⟩; have hv := hk39 z18 z19 hv; refine Jd 6 <| Jg rfl (fun c23 => ?_) (fun c23 => ?_)
 .have hv := hv.1 (oT c23); refine Jj <| Js <| W.block ?_; obtain ⟨o28, hv⟩ := hv; obtain ⟨o32, hv⟩ := hv; obtain ⟨o35, hv⟩ := hv; refine Ju 10 [⟨[], [5], true⟩, ⟨[], [2], true⟩, ⟨[1], [], false⟩, ⟨[0, 2], [], true⟩, ⟨[], [1], true⟩, ⟨[], [6], true⟩, ⟨[4, 5], [], true⟩, ⟨[6], [], false⟩, ⟨[3, 7], [], true⟩, ⟨[8], [], true⟩] [(14, nI z18), (15, nP g11), (16, nI Pf), (17, nI (z18 * Pf)), (18, nS Al l kl), (19, nI z19), (20, .pointer (some ((JO Al).add z19.toNat))), (21, nI (gi l z19)), (22, nI ((z18 * Pf) + (gi l z19))), (5, nI ((z18 * Pf) + (gi l z19)))] Try.mixed (by kernel_rfl) rfl rfl ?_ ?_
  .refine ⟨oD, fun _ _ _ => Jb (off := 0) JK rfl rfl <| Ja ⟨rfl, rfl⟩, og hS fun _ _ hS => SL.lv 0 0 XU3 hS rfl rfl rfl ⟨rfl, rfl⟩ <| Ja ⟨rfl, Je _⟩, fun _ _ _ => WL.mul (r := (z18 * Pf)) rfl rfl (wr o28) rfl <| Ja ⟨rfl, rfl⟩, oD, oD, fun _ _ _ => Ji Jn XE3 (hS.ro hl) rfl rfl o32 rfl <| Ja ⟨rfl, rfl⟩, og hS fun _ _ hS => Jk XU3 rfl rfl (JG (hS.ro hl) o32) rfl <| Ja ⟨rfl, Je _⟩, fun _ _ _ => WL.add (r := ((z18 * Pf) + (gi l z19))) rfl rfl (wr o35) rfl <| Ja ⟨rfl, rfl⟩, oD, trivial⟩
  intro w37 hT; have hS := hS.grow hT; refine JQ <| Jd 2 ?_; obtain ⟨o38, hv⟩ := hv; refine WL.sub (r := (z19 - 1)) rfl rfl (wr o38) rfl <| Jc 2 ?_; exact ⟨(((z18 * Pf) + (gi l z19)), (z19 - 1)), sp rfl, hv.2, rfl, hv.1, hS⟩
 have hv := hv.2 (oF c23); refine Jt <| Jd 5 <| W.ret <| ⟨_, rfl, Fin.nil ?_⟩
 exact (hS.pick [] rfl).fin rfl ⟨z18, rfl, rfl, hv⟩
def YX (Pf : Int) (Mf : Int) (mf : LI) (x : Int) (y : Int) (Q : Int -> Prop) : Prop :=
  Qs Pf Mf mf x (fun x14 => Qs Pf Mf mf y (fun x19 => (I64 ((2 : Int) * Mf)) /\ ((I64 (((2 : Int) * Mf) - (1 : Int))) /\ ((0 <= (((2 : Int) * Mf) - (1 : Int)) /\ (((2 : Int) * Mf) - (1 : Int)) * 8 <= 281474976710656 /\ (((2 : Int) * Mf) - (1 : Int)) <= 281474976710656) /\ (∃ (I35 : LI -> Int -> Prop) (μ36 : LI -> Int -> Nat), I35 (List.replicate (((2 : Int) * Mf) - (1 : Int)).toNat (0 : Int)) (0 : Int) /\ ∀ (x33 : LI) (z34 : Int), (I35 x33 z34 -> (((z34 < Mf) -> (∃ (I45 : LI -> Int -> Prop) (μ46 : LI -> Int -> Nat), I45 x33 (0 : Int) /\ ∀ (x43 : LI) (z44 : Int), (I45 x43 z44 -> (((z44 < Mf) -> ((I64 (z34 + z44)) /\ ((I64 (z34 + z44)) /\ ((0 <= (z34 + z44) /\ (z34 + z44) < ((((2 : Int) * Mf) - (1 : Int)).toNat : Nat)) /\ ((0 <= z34 /\ z34 < (x14.length : Nat)) /\ ((0 <= z44 /\ z44 < (x19.length : Nat)) /\ ((I64 ((gi x14 z34) * (gi x19 z44))) /\ ((I64 ((gi x43 (z34 + z44)) + ((gi x14 z34) * (gi x19 z44)))) /\ ((Pf ≠ 0) /\ ((0 <= (z34 + z44) /\ (z34 + z44) < ((((2 : Int) * Mf) - (1 : Int)).toNat : Nat)) /\ ((I64 (z44 + 1)) /\ (I45 (si x43 (z34 + z44) (((gi x43 (z34 + z44)) + ((gi x14 z34) * (gi x19 z44))).tmod Pf)) (z44 + 1) /\ μ46 (si x43 (z34 + z44) (((gi x43 (z34 + z44)) + ((gi x14 z34) * (gi x19 z44))).tmod Pf)) (z44 + 1) < μ46 x43 z44)))))))))))) /\ (¬ (z44 < Mf) -> ((I64 (z34 + 1)) /\ (I35 x43 (z34 + 1) /\ μ36 x43 (z34 + 1) < μ36 x33 z34))))))) /\ (¬ (z34 < Mf) -> ((I64 ((2 : Int) * Mf)) /\ ((I64 (((2 : Int) * Mf) - (2 : Int))) /\ (∃ (I94 : LI -> Int -> Prop) (μ95 : LI -> Int -> Nat), I94 x33 (((2 : Int) * Mf) - (2 : Int)) /\ ∀ (x92 : LI) (z93 : Int), (I94 x92 z93 -> (((Mf <= z93) -> (∃ (I104 : LI -> Int -> Prop) (μ105 : LI -> Int -> Nat), I104 x92 (0 : Int) /\ ∀ (x102 : LI) (z103 : Int), (I104 x102 z103 -> (((z103 < Mf) -> ((I64 (z93 - Mf)) /\ ((I64 ((z93 - Mf) + z103)) /\ ((I64 (z93 - Mf)) /\ ((I64 ((z93 - Mf) + z103)) /\ ((0 <= ((z93 - Mf) + z103) /\ ((z93 - Mf) + z103) < ((((2 : Int) * Mf) - (1 : Int)).toNat : Nat)) /\ ((0 <= z93 /\ z93 < ((((2 : Int) * Mf) - (1 : Int)).toNat : Nat)) /\ ((I64 (Pf - (gi x102 z93))) /\ ((0 <= z103 /\ z103 < (mf.length : Nat)) /\ ((I64 ((Pf - (gi x102 z93)) * (gi mf z103))) /\ ((I64 ((gi x102 ((z93 - Mf) + z103)) + ((Pf - (gi x102 z93)) * (gi mf z103)))) /\ ((Pf ≠ 0) /\ ((0 <= ((z93 - Mf) + z103) /\ ((z93 - Mf) + z103) < ((((2 : Int) * Mf) - (1 : Int)).toNat : Nat)) /\ ((I64 (z103 + 1)) /\ (I104 (si x102 ((z93 - Mf) + z103) (((gi x102 ((z93 - Mf) + z103)) + ((Pf - (gi x102 z93)) * (gi mf z103))).tmod Pf)) (z103 + 1) /\ μ105 (si x102 ((z93 - Mf) + z103) (((gi x102 ((z93 - Mf) + z103)) + ((Pf - (gi x102 z93)) * (gi mf z103))).tmod Pf)) (z103 + 1) < μ105 x102 z103))))))))))))))) /\ (¬ (z103 < Mf) -> ((I64 (z93 - 1)) /\ (I94 x102 (z93 - 1) /\ μ95 x102 (z93 - 1) < μ95 x92 z93))))))) /\ (¬ (Mf <= z93) -> ((0 <= Mf /\ Mf <= ((((2 : Int) * Mf) - (1 : Int)).toNat : Nat)) /\ (∃ (r165 : Int), QU Pf Mf mf (x92.take Mf.toNat) (fun q => q = r165) /\ Q r165))))))))))))))))
theorem Z5 {w : World} {Q : Int -> Prop} {Pf : Int} {Mf : Int} {mf : LI} {x : Int} {y : Int} {Bf : Nat} {Af : Option Addr} {nf kf : Nat} (hf : Rd Bf w 1 Af nf kf (is mf)) (hv : YX Pf Mf mf x y Q) :
   Calls Try.prog 12 #[.agg #[.int .i64 Pf, .int .i64 Mf, .slice Af nf kf], .int .i64 x, .int .i64 y] w <| Rt w fun v Qr => ∃ (r0 : Int), v = .int .i64 r0 /\ Qr = [] /\ Q r0 := by
 have hnf := hf.ilen; subst hnf; refine Jh <| Jf (vs := [.agg #[nI Pf, nI Mf, nS Af mf kf], nI x, nI y]) [6] XF12 rfl rfl rfl rfl ?_; have hS := Jm w; unfold YX at hv; refine Jd 2 <| JC (z := 3) (cs := [nI Pf, nI Mf, nS Af mf kf]) hS rfl rfl rfl rfl ?_; intro g11 w12 hS; refine Jc 2 <| Jd 2 <| JF 0 JJ JM hS rfl ⟨rfl, rfl⟩ rfl <| Jl rfl rfl <| SL.call hS (Q0 (hS.ro hf) hv) XF25 rfl XN25 rfl rfl ?_; rintro _ _ w13 ⟨x14, A15, k16, rfl, rfl, hv⟩ hGw13 hS; have hS := hS.n1; refine Jc 2 <| Jd 2 <| JF 1 JJ JM hS rfl ⟨rfl, rfl⟩ rfl <| Jl rfl rfl <| SL.call hS (Q0 (hS.ro hf) hv) XF25 rfl XN25 rfl rfl ?_; rintro _ _ w18 ⟨x19, A20, k21, rfl, rfl, hv⟩ hGw18 hS; have hS := hS.n1; refine Jc 2 <| Jd 2 <| Jb (off := 1) JP rfl rfl <| SL.lv 2 1 XU3 hS rfl rfl rfl ⟨rfl, rfl⟩ ?_; obtain ⟨o23, hv⟩ := hv; refine WL.mul (r := ((2 : Int) * Mf)) rfl rfl (wr o23) rfl ?_; obtain ⟨o24, hv⟩ := hv; refine WL.sub (r := (((2 : Int) * Mf) - (1 : Int))) rfl rfl (wr o24) rfl ?_; obtain ⟨o25, hv⟩ := hv; refine YF (J := (((2 : Int) * Mf) - (1 : Int))) hS Jn XE3 rfl rfl o25 (QB _) rfl ?_; intro A26 w27 hS; refine Jc 2 <| Jd 5 <| W.block ?_; obtain ⟨I35, μ36, hv, hk171⟩ := hv; refine Jy (σ := LI × Int) (fun q w1 => match q with | (x33, z34) => I35 x33 z34 /\ St TT w none w1 [.row 3 1 A26 ((((2 : Int) * Mf) - (1 : Int)).toNat) ((((2 : Int) * Mf) - (1 : Int)).toNat) (is x33), nR 3 A20 x19 k21, nR 3 A15 x14 k16, .row 24 3 (nA g11) 1 1 [nI Pf, nI Mf, nS Af mf kf]]) (fun (x33, z34) => [(3, nP g11), (6, nI 0), (7, nS A15 x14 k16), (8, nS A20 x19 k21), (9, .slice A26 ((((2 : Int) * Mf) - (1 : Int)).toNat) ((((2 : Int) * Mf) - (1 : Int)).toNat)), (10, nI z34)]) (fun (x33, z34) => μ36 x33 z34) (List.replicate (((2 : Int) * Mf) - (1 : Int)).toNat (0 : Int), (0 : Int)) ⟨hv, hS⟩ ⟨rfl, rfl, rfl, rfl, rfl, rfl, trivial⟩ ?_; rintro ⟨x33, z34⟩ w37 ⟨hv, hS⟩; have hv := hk171 x33 z34 hv; refine Jd 4 <| Jb (off := 1) JP rfl rfl <| SL.lv 3 1 XU3 hS rfl rfl rfl ⟨rfl, rfl⟩ <| Jc 2 <| Jg rfl (fun c38 => ?_) (fun c38 => ?_)
 .have hv := hv.1 (oT c38); refine Jj <| Js <| W.block <| Jd 4 <| W.block ?_; obtain ⟨I45, μ46, hv, hk85⟩ := hv; refine Jy (σ := LI × Int) (fun q w1 => match q with | (x43, z44) => I45 x43 z44 /\ St TT w none w1 [.row 3 1 A26 ((((2 : Int) * Mf) - (1 : Int)).toNat) ((((2 : Int) * Mf) - (1 : Int)).toNat) (is x43), nR 3 A20 x19 k21, nR 3 A15 x14 k16, .row 24 3 (nA g11) 1 1 [nI Pf, nI Mf, nS Af mf kf]]) (fun (x43, z44) => [(3, nP g11), (6, nI 0), (7, nS A15 x14 k16), (8, nS A20 x19 k21), (9, .slice A26 ((((2 : Int) * Mf) - (1 : Int)).toNat) ((((2 : Int) * Mf) - (1 : Int)).toNat)), (10, nI z34), (11, nI z44), (28, .bool (decide (z34 < Mf)))]) (fun (x43, z44) => μ46 x43 z44) (x33, (0 : Int)) ⟨hv, hS⟩ ⟨rfl, rfl, rfl, rfl, rfl, rfl, rfl, rfl, trivial⟩ ?_; rintro ⟨x43, z44⟩ w47 ⟨hv, hS⟩; have hv := hk85 x43 z44 hv; refine Jd 4 <| Jb (off := 1) JP rfl rfl <| SL.lv 3 1 XU3 hS rfl rfl rfl ⟨rfl, rfl⟩ <| Jc 2 <| Jg rfl (fun c48 => ?_) (fun c48 => ?_)
  .have hv := hv.1 (oT c48); refine Jj <| Js <| W.block ?_; obtain ⟨o53, hv⟩ := hv; obtain ⟨o58, hv⟩ := hv; obtain ⟨o60, hv⟩ := hv; obtain ⟨o65, hv⟩ := hv; obtain ⟨o70, hv⟩ := hv; obtain ⟨o73, hv⟩ := hv; obtain ⟨o75, hv⟩ := hv; obtain ⟨o79, hv⟩ := hv; refine Ju 23 [⟨[], [9], true⟩, ⟨[], [10], true⟩, ⟨[], [11], true⟩, ⟨[1, 2], [], true⟩, ⟨[], [9], true⟩, ⟨[], [10], true⟩, ⟨[], [11], true⟩, ⟨[5, 6], [], true⟩, ⟨[4, 7], [], true⟩, ⟨[8], [], false⟩, ⟨[], [7], true⟩, ⟨[], [10], true⟩, ⟨[10, 11], [], true⟩, ⟨[12], [], false⟩, ⟨[], [8], true⟩, ⟨[], [11], true⟩, ⟨[14, 15], [], true⟩, ⟨[16], [], false⟩, ⟨[13, 17], [], true⟩, ⟨[9, 18], [], true⟩, ⟨[], [3], true⟩, ⟨[20], [], false⟩, ⟨[19, 21], [], true⟩] [(37, .slice A26 ((((2 : Int) * Mf) - (1 : Int)).toNat) ((((2 : Int) * Mf) - (1 : Int)).toNat)), (38, nI z34), (39, nI z44), (40, nI (z34 + z44)), (41, .slice A26 ((((2 : Int) * Mf) - (1 : Int)).toNat) ((((2 : Int) * Mf) - (1 : Int)).toNat)), (42, nI z34), (43, nI z44), (44, nI (z34 + z44)), (45, .pointer (some ((JO A26).add ((z34 + z44).toNat)))), (46, nI (gi x43 (z34 + z44))), (47, nS A15 x14 k16), (48, nI z34), (49, .pointer (some ((JO A15).add z34.toNat))), (50, nI (gi x14 z34)), (51, nS A20 x19 k21), (52, nI z44), (53, .pointer (some ((JO A20).add z44.toNat))), (54, nI (gi x19 z44)), (55, nI ((gi x14 z34) * (gi x19 z44))), (56, nI ((gi x43 (z34 + z44)) + ((gi x14 z34) * (gi x19 z44)))), (57, nP g11), (58, nI Pf), (59, nI (((gi x43 (z34 + z44)) + ((gi x14 z34) * (gi x19 z44))).tmod Pf))] Try.mixed (by kernel_rfl) rfl rfl ?_ ?_
   .refine ⟨oD, oD, oD, fun _ _ _ => WL.add (r := (z34 + z44)) rfl rfl (wr o53) rfl <| Ja ⟨rfl, rfl⟩, oD, oD, oD, fun _ _ _ => WL.add (r := (z34 + z44)) rfl rfl (wr o58) rfl <| Ja ⟨rfl, rfl⟩, fun _ _ _ => Ji Jn XE3 (hS.rd (i := 0) rfl) rfl rfl o60 rfl <| Ja ⟨rfl, rfl⟩, og hS fun _ _ hS => Jk XU3 rfl rfl (JG (hS.rd (i := 0) rfl) o60) rfl <| Ja ⟨rfl, Je _⟩, oD, oD, fun _ _ _ => Ji Jn XE3 (hS.rd (i := 2) rfl) rfl rfl o65 rfl <| Ja ⟨rfl, rfl⟩, og hS fun _ _ hS => Jk XU3 rfl rfl (JG (hS.rd (i := 2) rfl) o65) rfl <| Ja ⟨rfl, Je _⟩, oD, oD, fun _ _ _ => Ji Jn XE3 (hS.rd (i := 1) rfl) rfl rfl o70 rfl <| Ja ⟨rfl, rfl⟩, og hS fun _ _ hS => Jk XU3 rfl rfl (JG (hS.rd (i := 1) rfl) o70) rfl <| Ja ⟨rfl, Je _⟩, fun _ _ _ => WL.mul (r := ((gi x14 z34) * (gi x19 z44))) rfl rfl (wr o73) rfl <| Ja ⟨rfl, rfl⟩, fun _ _ _ => WL.add (r := ((gi x43 (z34 + z44)) + ((gi x14 z34) * (gi x19 z44)))) rfl rfl (wr o75) rfl <| Ja ⟨rfl, rfl⟩, fun _ _ _ => Jb (off := 0) JK rfl rfl <| Ja ⟨rfl, rfl⟩, og hS fun _ _ hS => SL.lv 3 0 XU3 hS rfl rfl rfl ⟨rfl, rfl⟩ <| Ja ⟨rfl, Je _⟩, fun _ _ _ => J3 (r := (((gi x43 (z34 + z44)) + ((gi x14 z34) * (gi x19 z44))).tmod Pf)) rfl rfl o79 rfl rfl <| Ja ⟨rfl, rfl⟩, trivial⟩
   intro w80 hT; have hS := hS.grow hT; refine Jr 23 rfl ?_; obtain ⟨o81, hv⟩ := hv; refine Ji Jn XE3 (hS.rd (i := 0) rfl) rfl rfl o81 rfl <| Ja <| Jr 24 rfl <| Jp (cs' := is (si x43 (z34 + z44) (((gi x43 (z34 + z44)) + ((gi x14 z34) * (gi x19 z44))).tmod Pf))) 0 (z34 + z44).toNat hS rfl XE3 rfl rfl rfl (JN (hS.rd (i := 0) rfl) o81) (JA _ _ _) ?_; intro w82 hS; refine Ja <| JQ <| Jd 2 ?_; obtain ⟨o83, hv⟩ := hv; refine WL.add (r := (z44 + 1)) rfl rfl (wr o83) rfl <| Jc 2 ?_; exact ⟨(si x43 (z34 + z44) (((gi x43 (z34 + z44)) + ((gi x14 z34) * (gi x19 z44))).tmod Pf), (z44 + 1)), sp rfl, hv.2, rfl, hv.1, hS⟩
  have hv := hv.2 (oF c48); refine Jt <| Jd 2 ?_; obtain ⟨o84, hv⟩ := hv; refine WL.add (r := (z34 + 1)) rfl rfl (wr o84) rfl <| Jc 2 ?_; exact ⟨(x43, (z34 + 1)), sp rfl, hv.2, rfl, hv.1, hS⟩
 have hv := hv.2 (oF c38); refine Jt <| Jd 3 <| Jb (off := 1) JP rfl rfl <| SL.lv 3 1 XU3 hS rfl rfl rfl ⟨rfl, rfl⟩ ?_; obtain ⟨o86, hv⟩ := hv; refine WL.mul (r := ((2 : Int) * Mf)) rfl rfl (wr o86) rfl ?_; obtain ⟨o87, hv⟩ := hv; refine WL.sub (r := (((2 : Int) * Mf) - (2 : Int))) rfl rfl (wr o87) rfl <| Jc 2 <| W.block ?_; obtain ⟨I94, μ95, hv, hk170⟩ := hv; refine Jy (σ := LI × Int) (fun q w1 => match q with | (x92, z93) => I94 x92 z93 /\ St TT w none w1 [.row 3 1 A26 ((((2 : Int) * Mf) - (1 : Int)).toNat) ((((2 : Int) * Mf) - (1 : Int)).toNat) (is x92), nR 3 A20 x19 k21, nR 3 A15 x14 k16, .row 24 3 (nA g11) 1 1 [nI Pf, nI Mf, nS Af mf kf]]) (fun (x92, z93) => [(3, nP g11), (6, nI 0), (9, .slice A26 ((((2 : Int) * Mf) - (1 : Int)).toNat) ((((2 : Int) * Mf) - (1 : Int)).toNat)), (12, nI z93)]) (fun (x92, z93) => μ95 x92 z93) (x33, (((2 : Int) * Mf) - (2 : Int))) ⟨hv, hS⟩ ⟨rfl, rfl, rfl, rfl, trivial⟩ ?_; rintro ⟨x92, z93⟩ w96 ⟨hv, hS⟩; have hv := hk170 x92 z93 hv; refine Jd 4 <| Jb (off := 1) JP rfl rfl <| SL.lv 3 1 XU3 hS rfl rfl rfl ⟨rfl, rfl⟩ <| Jc 2 <| Jg rfl (fun c97 => ?_) (fun c97 => ?_)
 .have hv := hv.1 (oT c97); refine Jj <| Js <| W.block <| Jd 4 <| W.block ?_; obtain ⟨I104, μ105, hv, hk157⟩ := hv; refine Jy (σ := LI × Int) (fun q w1 => match q with | (x102, z103) => I104 x102 z103 /\ St TT w none w1 [.row 3 1 A26 ((((2 : Int) * Mf) - (1 : Int)).toNat) ((((2 : Int) * Mf) - (1 : Int)).toNat) (is x102), nR 3 A20 x19 k21, nR 3 A15 x14 k16, .row 24 3 (nA g11) 1 1 [nI Pf, nI Mf, nS Af mf kf]]) (fun (x102, z103) => [(3, nP g11), (6, nI 0), (9, .slice A26 ((((2 : Int) * Mf) - (1 : Int)).toNat) ((((2 : Int) * Mf) - (1 : Int)).toNat)), (12, nI z93), (13, nI z103), (68, .bool (decide (Mf <= z93)))]) (fun (x102, z103) => μ105 x102 z103) (x92, (0 : Int)) ⟨hv, hS⟩ ⟨rfl, rfl, rfl, rfl, rfl, rfl, trivial⟩ ?_; rintro ⟨x102, z103⟩ w106 ⟨hv, hS⟩; have hv := hk157 x102 z103 hv; refine Jd 4 <| Jb (off := 1) JP rfl rfl <| SL.lv 3 1 XU3 hS rfl rfl rfl ⟨rfl, rfl⟩ <| Jc 2 <| Jg rfl (fun c107 => ?_) (fun c107 => ?_)
  .have hv := hv.1 (oT c107); refine Jj <| Js <| W.block ?_; obtain ⟨o113, hv⟩ := hv; obtain ⟨o116, hv⟩ := hv; obtain ⟨o122, hv⟩ := hv; obtain ⟨o125, hv⟩ := hv; obtain ⟨o127, hv⟩ := hv; obtain ⟨o134, hv⟩ := hv; obtain ⟨o137, hv⟩ := hv; obtain ⟨o142, hv⟩ := hv; obtain ⟨o145, hv⟩ := hv; obtain ⟨o147, hv⟩ := hv; obtain ⟨o151, hv⟩ := hv; refine Ju 33 [⟨[], [9], true⟩, ⟨[], [12], true⟩, ⟨[], [3], true⟩, ⟨[2], [], false⟩, ⟨[1, 3], [], true⟩, ⟨[], [13], true⟩, ⟨[4, 5], [], true⟩, ⟨[], [9], true⟩, ⟨[], [12], true⟩, ⟨[], [3], true⟩, ⟨[9], [], false⟩, ⟨[8, 10], [], true⟩, ⟨[], [13], true⟩, ⟨[11, 12], [], true⟩, ⟨[7, 13], [], true⟩, ⟨[14], [], false⟩, ⟨[], [3], true⟩, ⟨[16], [], false⟩, ⟨[], [9], true⟩, ⟨[], [12], true⟩, ⟨[18, 19], [], true⟩, ⟨[20], [], false⟩, ⟨[17, 21], [], true⟩, ⟨[], [3], true⟩, ⟨[23], [], false⟩, ⟨[], [13], true⟩, ⟨[24, 25], [], true⟩, ⟨[26], [], false⟩, ⟨[22, 27], [], true⟩, ⟨[15, 28], [], true⟩, ⟨[], [3], true⟩, ⟨[30], [], false⟩, ⟨[29, 31], [], true⟩] [(77, .slice A26 ((((2 : Int) * Mf) - (1 : Int)).toNat) ((((2 : Int) * Mf) - (1 : Int)).toNat)), (78, nI z93), (79, .pointer (some ((⟨g11, 0, none⟩ : Addr).add 1))), (80, nI Mf), (81, nI (z93 - Mf)), (82, nI z103), (83, nI ((z93 - Mf) + z103)), (84, .slice A26 ((((2 : Int) * Mf) - (1 : Int)).toNat) ((((2 : Int) * Mf) - (1 : Int)).toNat)), (85, nI z93), (86, .pointer (some ((⟨g11, 0, none⟩ : Addr).add 1))), (87, nI Mf), (88, nI (z93 - Mf)), (89, nI z103), (90, nI ((z93 - Mf) + z103)), (91, .pointer (some ((JO A26).add (((z93 - Mf) + z103).toNat)))), (92, nI (gi x102 ((z93 - Mf) + z103))), (93, nP g11), (94, nI Pf), (95, .slice A26 ((((2 : Int) * Mf) - (1 : Int)).toNat) ((((2 : Int) * Mf) - (1 : Int)).toNat)), (96, nI z93), (97, .pointer (some ((JO A26).add z93.toNat))), (98, nI (gi x102 z93)), (99, nI (Pf - (gi x102 z93))), (100, .pointer (some ((⟨g11, 0, none⟩ : Addr).add 2))), (101, nS Af mf kf), (102, nI z103), (103, .pointer (some ((JO Af).add z103.toNat))), (104, nI (gi mf z103)), (105, nI ((Pf - (gi x102 z93)) * (gi mf z103))), (106, nI ((gi x102 ((z93 - Mf) + z103)) + ((Pf - (gi x102 z93)) * (gi mf z103)))), (107, nP g11), (108, nI Pf), (109, nI (((gi x102 ((z93 - Mf) + z103)) + ((Pf - (gi x102 z93)) * (gi mf z103))).tmod Pf))] Try.mixed (by kernel_rfl) rfl rfl ?_ ?_
   .refine ⟨oD, oD, fun _ _ _ => Jb (off := 1) JP rfl rfl <| Ja ⟨rfl, rfl⟩, og hS fun _ _ hS => SL.lv 3 1 XU3 hS rfl rfl rfl ⟨rfl, rfl⟩ <| Ja ⟨rfl, Je _⟩, fun _ _ _ => WL.sub (r := (z93 - Mf)) rfl rfl (wr o113) rfl <| Ja ⟨rfl, rfl⟩, oD, fun _ _ _ => WL.add (r := ((z93 - Mf) + z103)) rfl rfl (wr o116) rfl <| Ja ⟨rfl, rfl⟩, oD, oD, fun _ _ _ => Jb (off := 1) JP rfl rfl <| Ja ⟨rfl, rfl⟩, og hS fun _ _ hS => SL.lv 3 1 XU3 hS rfl rfl rfl ⟨rfl, rfl⟩ <| Ja ⟨rfl, Je _⟩, fun _ _ _ => WL.sub (r := (z93 - Mf)) rfl rfl (wr o122) rfl <| Ja ⟨rfl, rfl⟩, oD, fun _ _ _ => WL.add (r := ((z93 - Mf) + z103)) rfl rfl (wr o125) rfl <| Ja ⟨rfl, rfl⟩, fun _ _ _ => Ji Jn XE3 (hS.rd (i := 0) rfl) rfl rfl o127 rfl <| Ja ⟨rfl, rfl⟩, og hS fun _ _ hS => Jk XU3 rfl rfl (JG (hS.rd (i := 0) rfl) o127) rfl <| Ja ⟨rfl, Je _⟩, fun _ _ _ => Jb (off := 0) JK rfl rfl <| Ja ⟨rfl, rfl⟩, og hS fun _ _ hS => SL.lv 3 0 XU3 hS rfl rfl rfl ⟨rfl, rfl⟩ <| Ja ⟨rfl, Je _⟩, oD, oD, fun _ _ _ => Ji Jn XE3 (hS.rd (i := 0) rfl) rfl rfl o134 rfl <| Ja ⟨rfl, rfl⟩, og hS fun _ _ hS => Jk XU3 rfl rfl (JG (hS.rd (i := 0) rfl) o134) rfl <| Ja ⟨rfl, Je _⟩, fun _ _ _ => WL.sub (r := (Pf - (gi x102 z93))) rfl rfl (wr o137) rfl <| Ja ⟨rfl, rfl⟩, fun _ _ _ => Jb (off := 2) Qk rfl rfl <| Ja ⟨rfl, rfl⟩, og hS fun _ _ hS => SL.lv 3 2 Jn hS rfl rfl rfl ⟨rfl, rfl⟩ <| Ja ⟨rfl, Je _⟩, oD, fun _ _ _ => Ji Jn XE3 (hS.ro hf) rfl rfl o142 rfl <| Ja ⟨rfl, rfl⟩, og hS fun _ _ hS => Jk XU3 rfl rfl (JG (hS.ro hf) o142) rfl <| Ja ⟨rfl, Je _⟩, fun _ _ _ => WL.mul (r := ((Pf - (gi x102 z93)) * (gi mf z103))) rfl rfl (wr o145) rfl <| Ja ⟨rfl, rfl⟩, fun _ _ _ => WL.add (r := ((gi x102 ((z93 - Mf) + z103)) + ((Pf - (gi x102 z93)) * (gi mf z103)))) rfl rfl (wr o147) rfl <| Ja ⟨rfl, rfl⟩, fun _ _ _ => Jb (off := 0) JK rfl rfl <| Ja ⟨rfl, rfl⟩, og hS fun _ _ hS => SL.lv 3 0 XU3 hS rfl rfl rfl ⟨rfl, rfl⟩ <| Ja ⟨rfl, Je _⟩, fun _ _ _ => J3 (r := (((gi x102 ((z93 - Mf) + z103)) + ((Pf - (gi x102 z93)) * (gi mf z103))).tmod Pf)) rfl rfl o151 rfl rfl <| Ja ⟨rfl, rfl⟩, trivial⟩
   intro w152 hT; have hS := hS.grow hT; refine Jr 33 rfl ?_; obtain ⟨o153, hv⟩ := hv; refine Ji Jn XE3 (hS.rd (i := 0) rfl) rfl rfl o153 rfl <| Ja <| Jr 34 rfl <| Jp (cs' := is (si x102 ((z93 - Mf) + z103) (((gi x102 ((z93 - Mf) + z103)) + ((Pf - (gi x102 z93)) * (gi mf z103))).tmod Pf))) 0 ((z93 - Mf) + z103).toNat hS rfl XE3 rfl rfl rfl (JN (hS.rd (i := 0) rfl) o153) (JA _ _ _) ?_; intro w154 hS; refine Ja <| JQ <| Jd 2 ?_; obtain ⟨o155, hv⟩ := hv; refine WL.add (r := (z103 + 1)) rfl rfl (wr o155) rfl <| Jc 2 ?_; exact ⟨(si x102 ((z93 - Mf) + z103) (((gi x102 ((z93 - Mf) + z103)) + ((Pf - (gi x102 z93)) * (gi mf z103))).tmod Pf), (z103 + 1)), sp rfl, hv.2, rfl, hv.1, hS⟩
  have hv := hv.2 (oF c107); refine Jt <| Jd 2 ?_; obtain ⟨o156, hv⟩ := hv; refine WL.sub (r := (z93 - 1)) rfl rfl (wr o156) rfl <| Jc 2 ?_; exact ⟨(x102, (z93 - 1)), sp rfl, hv.2, rfl, hv.1, hS⟩
 have hv := hv.2 (oF c97); refine Jt <| Js ?_; obtain ⟨o163, hv⟩ := hv; obtain ⟨r165, o167, hv⟩ := hv; refine Ju 7 [⟨[], [3], false⟩, ⟨[], [9], true⟩, ⟨[], [3], true⟩, ⟨[2], [], false⟩, ⟨[1, 3], [], true⟩, ⟨[0, 4], [], false⟩, ⟨[5], [], true⟩] [(111, .agg #[nI Pf, nI Mf, nS Af mf kf]), (112, .slice A26 ((((2 : Int) * Mf) - (1 : Int)).toNat) ((((2 : Int) * Mf) - (1 : Int)).toNat)), (113, .pointer (some ((⟨g11, 0, none⟩ : Addr).add 1))), (114, nI Mf), (115, .slice A26 ((x92.take Mf.toNat).length) ((((2 : Int) * Mf) - (1 : Int)).toNat)), (116, nI r165), (6, nI r165)] Try.mixed (by kernel_rfl) rfl rfl ?_ ?_
 . refine ⟨og hS fun _ _ hS => JF 3 JJ JM hS rfl ⟨rfl, rfl⟩ rfl <| Ja ⟨rfl, Je _⟩, oD, fun _ _ _ => Jb (off := 1) JP rfl rfl <| Ja ⟨rfl, rfl⟩, og hS fun _ _ hS => SL.lv 3 1 XU3 hS rfl rfl rfl ⟨rfl, rfl⟩ <| Ja ⟨rfl, Je _⟩, fun _ _ _ => Jhj Jn XE3 (hS.rd (i := 0) rfl) rfl rfl o163 rfl (x92.take Mf.toNat).length (Jck (hS.rd (i := 0) rfl) o163) <| Ja ⟨rfl, rfl⟩, ?_, oD, trivial⟩; intro w164 hE RR; have hS := hS.grow (hE rfl); refine WL.call XF26 rfl XN26 rfl rfl (JB (Jbx (hS.ro hf) (Jk4 (hS.rd (i := 0) rfl) o163) o167)) ?_; rintro _ w166 ⟨_, hGw166, hRww166, hNww166, r165q, rfl, rfl, he⟩; subst he; exact Ja ⟨rfl, hGw166⟩
 intro w169 hT; have hS := hS.grow hT; refine JQ <| W.ret <| ⟨_, rfl, Fin.nil ?_⟩
 exact (hS.pick [] rfl).fin rfl ⟨r165, rfl, rfl, hv⟩
def QN (Pf : Int) (Mf : Int) (mf : LI) (x : Int) (Q : Int -> Prop) : Prop :=
  Zl Pf Mf mf x (fun r14 => ((r14 = 0) -> (Q 0)) /\ (¬ (r14 = 0) -> (∃ (I22 : Int -> Int -> Prop) (μ23 : Int -> Int -> Nat), I22 1 r14 /\ ∀ (z20 : Int) (z21 : Int), (I22 z20 z21 -> (((z21 ≠ 1) -> ((I64 (z20 + 1)) /\ (YX Pf Mf mf z21 r14 (fun r28 => I22 (z20 + 1) r28 /\ μ23 (z20 + 1) r28 < μ23 z20 z21)))) /\ (¬ (z21 ≠ 1) -> Q z20))))))
theorem Jcr {w : World} {Q : Int -> Prop} {Pf : Int} {Mf : Int} {mf : LI} {x : Int} {Bf : Nat} {Af : Option Addr} {nf kf : Nat} (hf : Rd Bf w 1 Af nf kf (is mf)) (hv : QN Pf Mf mf x Q) :
   Calls Try.prog 46 #[.agg #[.int .i64 Pf, .int .i64 Mf, .slice Af nf kf], .int .i64 x] w <| Rt w fun v Qr => ∃ (r0 : Int), v = .int .i64 r0 /\ Qr = [] /\ Q r0 := by
 have hnf := hf.ilen; subst hnf; refine Jh <| Jf (vs := [.agg #[nI Pf, nI Mf, nS Af mf kf], nI x]) [4] XF46 rfl rfl rfl rfl ?_; have hS := Jm w; unfold QN at hv; refine Jd 2 <| JC (z := 3) (cs := [nI Pf, nI Mf, nS Af mf kf]) hS rfl rfl rfl rfl ?_; intro g11 w12 hS; refine Jc 2 <| Jd 2 <| JF 0 JJ JM hS rfl ⟨rfl, rfl⟩ rfl <| Jl rfl rfl <| SL.call hS (Zu (hS.ro hf) hv) Jf6 rfl Jik rfl rfl ?_; rintro _ _ w13 ⟨r14, rfl, rfl, hv⟩ hGw13 hS; have hS := hS.n0; refine Jc 2 <| Jd 6 <| Jg rfl (fun c15 => ?_) (fun c15 => ?_)
 .have hv := hv.1 (oT c15); refine Jd 4 <| W.ret <| ⟨_, rfl, Fin.nil ?_⟩
  exact (hS.pick [] rfl).fin rfl ⟨(0 : Int), rfl, rfl, hv⟩
 have hv := hv.2 (oF c15); refine Jj <| Jd 10 <| W.block ?_; obtain ⟨I22, μ23, hv, hk29⟩ := hv; refine Jy (σ := Int × Int) (fun q w1 => match q with | (z20, z21) => I22 z20 z21 /\ St TT w none w1 [.row 24 3 (nA g11) 1 1 [nI Pf, nI Mf, nS Af mf kf]]) (fun (z20, z21) => [(1, nI r14), (2, nP g11), (4, nI 0), (5, nI z20), (6, nI z21)]) (fun (z20, z21) => μ23 z20 z21) ((1 : Int), r14) ⟨hv, hS⟩ ⟨rfl, rfl, rfl, rfl, rfl, trivial⟩ ?_; rintro ⟨z20, z21⟩ w24 ⟨hv, hS⟩; have hv := hk29 z20 z21 hv; refine Jd 6 <| Jg rfl (fun c25 => ?_) (fun c25 => ?_)
 .have hv := hv.1 (oT c25); refine Jj <| Js <| W.block <| Jd 2 ?_; obtain ⟨o26, hv⟩ := hv; refine WL.add (r := (z20 + 1)) rfl rfl (wr o26) rfl <| Jc 2 <| Jw <| JF 0 JJ JM hS rfl ⟨rfl, rfl⟩ rfl <| Jc 2 <| SL.call hS (Z5 (hS.ro hf) hv) XF12 rfl XN12 rfl rfl ?_; rintro _ _ w27 ⟨r28, rfl, rfl, hv⟩ hGw27 hS; have hS := hS.n0; refine Jc 2 ?_; exact ⟨((z20 + 1), r28), sp rfl, hv.2, rfl, hv.1, hS⟩
 have hv := hv.2 (oF c25); refine Jt <| Jd 5 <| W.ret <| ⟨_, rfl, Fin.nil ?_⟩
 exact (hS.pick [] rfl).fin rfl ⟨z20, rfl, rfl, hv⟩
def YW (Pf : Int) (Mf : Int) (mf : LI) (x : Int) (n : Int) (Q : Int × Int -> Prop) : Prop :=
  Zl Pf Mf mf x (fun r14 => ((n = 0) -> (Q ((1 : Int), (0 : Int)))) /\ (¬ (n = 0) -> (((r14 = 0) -> (((n < 0) -> (Q ((0 : Int), (7 : Int)))) /\ (¬ (n < 0) -> (Q ((0 : Int), (0 : Int)))))) /\ (¬ (r14 = 0) -> (J1 Pf Mf mf (fun r19 => (I64 (r19 - 1)) /\ (((r19 - 1) ≠ 0) /\ ((I64 ((n.tmod (r19 - 1)) + (r19 - 1))) /\ (((r19 - 1) ≠ 0) /\ (∃ (I30 : Int -> Int -> Prop) (μ31 : Int -> Int -> Nat), I30 1 (0 : Int) /\ ∀ (z28 : Int) (z29 : Int), (I30 z28 z29 -> (((z29 < (((n.tmod (r19 - 1)) + (r19 - 1)).tmod (r19 - 1))) -> (YX Pf Mf mf z28 r14 (fun r35 => (I64 (z29 + 1)) /\ (I30 r35 (z29 + 1) /\ μ31 r35 (z29 + 1) < μ31 z28 z29)))) /\ (¬ (z29 < (((n.tmod (r19 - 1)) + (r19 - 1)).tmod (r19 - 1))) -> (Q (z28, (0 : Int))))))))))))))))
theorem Jcq {w : World} {Q : Int × Int -> Prop} {Pf : Int} {Mf : Int} {mf : LI} {x : Int} {n : Int} {Bf : Nat} {Af : Option Addr} {nf kf : Nat} (hf : Rd Bf w 1 Af nf kf (is mf)) (hv : YW Pf Mf mf x n Q) :
   Calls Try.prog 10 #[.agg #[.int .i64 Pf, .int .i64 Mf, .slice Af nf kf], .int .i64 x, .int .i64 n] w <| Rt w fun v Qr => ∃ (r0 : Int) (r1 : Int), v = .tuple #[.int .i64 r0, .int .i64 r1] /\ Qr = [] /\ Q (r0, r1) := by
 have hnf := hf.ilen; subst hnf; refine Jh <| Jf (vs := [.agg #[nI Pf, nI Mf, nS Af mf kf], nI x, nI n]) [6, 7] XF10 rfl rfl rfl rfl ?_; have hS := Jm w; unfold YW at hv; refine Jd 2 <| JC (z := 3) (cs := [nI Pf, nI Mf, nS Af mf kf]) hS rfl rfl rfl rfl ?_; intro g11 w12 hS; refine Jc 3 <| Jd 2 <| JF 0 JJ JM hS rfl ⟨rfl, rfl⟩ rfl <| Jl rfl rfl <| SL.call hS (Zu (hS.ro hf) hv) Jf6 rfl Jik rfl rfl ?_; rintro _ _ w13 ⟨r14, rfl, rfl, hv⟩ hGw13 hS; have hS := hS.n0; refine Jc 2 <| Jd 6 <| Jg rfl (fun c15 => ?_) (fun c15 => ?_)
 .have hv := hv.1 (oT c15); refine Jd 5 <| W.ret <| ⟨_, rfl, Fin.nil ?_⟩
  exact (hS.pick [] rfl).fin rfl ⟨(1 : Int), (0 : Int), rfl, rfl, hv⟩
 have hv := hv.2 (oF c15); refine Jj <| Jd 5 <| Jl rfl rfl ?_; by_cases g16 : r14 = 0
 .have hv := hv.1 g16; rw [decide_eq_true g16]; refine Jc 6 <| Jg rfl (fun c17 => ?_) (fun c17 => ?_)
  .have hv := hv.1 (oT c17); refine Jd 5 <| W.ret <| ⟨_, rfl, Fin.nil ?_⟩
   exact (hS.pick [] rfl).fin rfl ⟨(0 : Int), (7 : Int), rfl, rfl, hv⟩
  have hv := hv.2 (oF c17); refine Jj <| Jd 4 <| Ql rfl rfl rfl ?_; rw [decide_eq_true g16]; refine Ja <| JI rfl <| Jd 5 <| W.ret <| ⟨_, rfl, Fin.nil ?_⟩
  exact (hS.pick [] rfl).fin rfl ⟨(0 : Int), (0 : Int), rfl, rfl, hv⟩
 have hv := hv.2 g16; rw [decide_eq_false g16]; refine Jc 4 <| J9 rfl <| Jj <| Jd 4 <| Ql rfl rfl rfl ?_; rw [decide_eq_false g16]; refine Ja <| J9 rfl <| Jj <| Jd 2 <| JF 0 JJ JM hS rfl ⟨rfl, rfl⟩ rfl <| SL.call hS (Qd (hS.ro hf) hv) Jda rfl Jer rfl rfl ?_; rintro _ _ w18 ⟨r19, rfl, rfl, hv⟩ hGw18 hS; have hS := hS.n0; obtain ⟨o20, hv⟩ := hv; refine WL.sub (r := (r19 - 1)) rfl rfl (wr o20) rfl <| Jc 2 <| Jd 4 ?_; obtain ⟨o21, hv⟩ := hv; refine J3 (r := (n.tmod (r19 - 1))) rfl rfl o21 rfl rfl <| Jl rfl rfl ?_; obtain ⟨o22, hv⟩ := hv; refine WL.add (r := ((n.tmod (r19 - 1)) + (r19 - 1))) rfl rfl (wr o22) rfl <| Jl rfl rfl ?_; obtain ⟨o23, hv⟩ := hv; refine J3 (r := (((n.tmod (r19 - 1)) + (r19 - 1)).tmod (r19 - 1))) rfl rfl o23 rfl rfl <| Jc 2 <| Jd 9 <| W.block ?_; obtain ⟨I30, μ31, hv, hk37⟩ := hv; refine Jy (σ := Int × Int) (fun q w1 => match q with | (z28, z29) => I30 z28 z29 /\ St TT w none w1 [.row 24 3 (nA g11) 1 1 [nI Pf, nI Mf, nS Af mf kf]]) (fun (z28, z29) => [(1, nI r14), (2, nI (((n.tmod (r19 - 1)) + (r19 - 1)).tmod (r19 - 1))), (3, nP g11), (6, nI 0), (7, nI 0), (9, nI z28), (10, nI z29)]) (fun (z28, z29) => μ31 z28 z29) ((1 : Int), (0 : Int)) ⟨hv, hS⟩ ⟨rfl, rfl, rfl, rfl, rfl, rfl, rfl, trivial⟩ ?_; rintro ⟨z28, z29⟩ w32 ⟨hv, hS⟩; have hv := hk37 z28 z29 hv; refine Jd 7 <| Jg rfl (fun c33 => ?_) (fun c33 => ?_)
 .have hv := hv.1 (oT c33); refine Jj <| Js <| W.block <| Jw <| JF 0 JJ JM hS rfl ⟨rfl, rfl⟩ rfl <| Jc 2 <| SL.call hS (Z5 (hS.ro hf) hv) XF12 rfl XN12 rfl rfl ?_; rintro _ _ w34 ⟨r35, rfl, rfl, hv⟩ hGw34 hS; have hS := hS.n0; refine Jc 2 <| Jd 2 ?_; obtain ⟨o36, hv⟩ := hv; refine WL.add (r := (z29 + 1)) rfl rfl (wr o36) rfl <| Jc 2 ?_; exact ⟨(r35, (z29 + 1)), sp rfl, hv.2, rfl, hv.1, hS⟩
 have hv := hv.2 (oF c33); refine Jt <| Jd 6 <| W.ret <| ⟨_, rfl, Fin.nil ?_⟩
 exact (hS.pick [] rfl).fin rfl ⟨z28, (0 : Int), rfl, rfl, hv⟩
end Go.Proofs.Ytbdmnolcmeojbaa
namespace Go.Proofs.Ytbdmnolcmeojbaa
open Go.RowKit
def QA (Fg : GFv) (x : Int) (Q : Bool -> Prop) : Prop :=
  Yb Fg x (fun (r12, r13) => ((r13 = 0) -> (Ya Fg (fun r16 => (I64 (r16 - 1)) /\ (Q (decide (r12 = (r16 - 1))))))) /\ (¬ (r13 = 0) -> Q false))
theorem Zv {w : World} {Q : Bool -> Prop} {Fg : GFv} {x : Int} {ag : Addr} {Bg : Nat} (hgg : GFR Bg w ag Fg) (hv : QA Fg x Q) :
   Calls Try.prog 21 #[.pointer (some ag), .int .i64 x] w <| Rt w fun v Qr => ∃ (r0 : Bool), v = .bool r0 /\ Qr = [] /\ Q r0 := by
 have hgg_ := hgg; obtain ⟨Ag_mod, kg_mod, Ag_exp, kg_exp, Ag_log, kg_log, Ag_above, kg_above, hg_c, hg_mod, hg_exp, hg_log, hg_above⟩ := hgg_; refine Jh <| Jf (vs := [.pointer (some ag), nI x]) [4] XF21 rfl rfl rfl rfl ?_; have hS := Jm w; unfold QA at hv; refine Jd 8 <| SL.call hS (Jd1 (GFR.ext (GFR.norm hgg) hS.ext) hv) XF34 rfl XN34 rfl rfl ?_; rintro _ _ w11 ⟨r12, r13, rfl, rfl, hv⟩ hGw11 hS; have hS := hS.n0; refine Jc 6 <| Jd 4 <| Jl rfl rfl ?_; by_cases g14 : r13 = 0
 .have hv := hv.1 g14; rw [decide_eq_true g14]; refine Jc 5 <| SL.call hS (Jar (GFR.ext (GFR.norm hgg) hS.ext) hv) XF30 rfl XN30 rfl rfl ?_; rintro _ _ w15 ⟨r16, rfl, rfl, hv⟩ hGw15 hS; have hS := hS.n0; refine WL.take rfl ?_; obtain ⟨o17, hv⟩ := hv; refine WL.sub (r := (r16 - 1)) rfl rfl (wr o17) rfl <| Jc 5 <| W.ret <| ⟨_, rfl, Fin.nil ?_⟩
  exact (hS.pick [] rfl).fin rfl ⟨(decide (r12 = (r16 - 1))), rfl, rfl, hv⟩
 have hv := hv.2 g14; rw [decide_eq_false g14]; refine Jc 8 <| W.ret <| ⟨_, rfl, Fin.nil ?_⟩
 exact (hS.pick [] rfl).fin rfl ⟨false, rfl, rfl, hv⟩
def Jde (Fg : GFv) (x : Int) (Q : Option (Int × LI × LI × LI) × Int -> Prop) : Prop :=
  Jhh Fg x (fun (r12, r13) => ((r13 ≠ 0) -> ((r13 ≠ 0) /\ Q (none, r13))) /\ (¬ (r13 ≠ 0) -> (QA Fg x (fun r16 => (((!r16) = true) -> (((5 : Int) ≠ (0 : Int)) /\ Q (none, (5 : Int)))) /\ ((!r16) = false -> (Ya Fg (fun r19 => (I64 (r19 - 1)) /\ ((0 <= (r19 - 1) /\ (r19 - 1) * 8 <= 281474976710656 /\ (r19 - 1) <= 281474976710656) /\ (∃ (r32 : Int), Ya Fg (fun q => q = r32) /\ ((0 <= r32 /\ r32 * 8 <= 281474976710656 /\ r32 <= 281474976710656) /\ ((0 <= (r19 - 1) /\ (r19 - 1) * 8 <= 281474976710656 /\ (r19 - 1) <= 281474976710656) /\ ((0 <= (0 : Int) /\ (0 : Int) < (r32.toNat : Nat)) /\ (∃ (I70 : LI -> LI -> Int -> Int -> Prop) (μ71 : LI -> LI -> Int -> Int -> Nat), I70 (si (List.replicate r32.toNat (0 : Int)) (0 : Int) (-1 : Int)) (List.replicate (r19 - 1).toNat (0 : Int)) (1 : Int) (0 : Int) /\ ∀ (x66 : LI) (x67 : LI) (z68 : Int) (z69 : Int), (I70 x66 x67 z68 z69 -> (((z69 < (r19 - 1)) -> (∃ J75 : Int -> Prop, (∃ J76 : Prop, ((0 <= z69 /\ z69 < ((r19 - 1).toNat : Nat)) /\ ((0 <= z68 /\ z68 < (r32.toNat : Nat)) /\ J76)) /\ (J76 -> (Jhg Fg z68 x (fun r97 => J75 r97)))) /\ ∀ (z74 : Int), (J75 z74 -> ((I64 (z69 + 1)) /\ (I70 (si x66 z68 z69) (si x67 z69 z68) z74 (z69 + 1) /\ μ71 (si x66 z68 z69) (si x67 z69 z68) z74 (z69 + 1) < μ71 x66 x67 z68 z69))))) /\ (¬ (z69 < (r19 - 1)) -> (∃ (I108 : LI -> Int -> Prop) (μ109 : LI -> Int -> Nat), I108 (List.replicate (r19 - 1).toNat (0 : Int)) (0 : Int) /\ ∀ (x106 : LI) (z107 : Int), (I108 x106 z107 -> (((z107 < (((r19 - 1).toNat : Nat) : Int)) -> ((0 <= z107 /\ z107 < ((r19 - 1).toNat : Nat)) /\ (∃ (r125 : Int), Jhi Fg (1 : Int) (gi x67 z107) (fun q => q = r125) /\ ((0 <= r125 /\ r125 < (r32.toNat : Nat)) /\ ((0 <= z107 /\ z107 < ((r19 - 1).toNat : Nat)) /\ ((I64 (z107 + 1)) /\ (I108 (si x106 z107 (gi x66 r125)) (z107 + 1) /\ μ109 (si x106 z107 (gi x66 r125)) (z107 + 1) < μ109 x106 z107))))))) /\ (¬ (z107 < (((r19 - 1).toNat : Nat) : Int)) -> (Q (some (x, x67, x66, x106), (0 : Int)))))))))))))))))))))))
theorem Jlg {w : World} {Q : Option (Int × LI × LI × LI) × Int -> Prop} {Fg : GFv} {x : Int} {ag : Addr} {Bg : Nat} (hgg : GFR Bg w ag Fg) (hv : Jde Fg x Q) :
   Calls Try.prog 19 #[.pointer (some ag), .int .i64 x] w <| Rt w fun v Qr => ∃ (o : Option (Int × LI × LI × LI)) (e2 : Int), Q (o, e2) /\ match o with | none => e2 ≠ 0 /\ v = .tuple #[.pointer none, .int .i64 e2] /\ Qr = [] | some (b, x0, x1, x2) => e2 = 0 /\ ∃ (g : Nat) (A0 A1 A2 : Option Addr) (c0 c1 c2 m0 m1 m2 : Nat), v = .tuple #[.pointer (some ⟨g, 0, none⟩), .int .i64 0] /\ Qr = [.row 48 4 (some ⟨g, 0, none⟩) 1 1 [.int .i64 b, .slice A0 m0 c0, .slice A1 m1 c1, .slice A2 m2 c2], .row 3 1 A0 m0 c0 (is x0), .row 3 1 A1 m1 c1 (is x1), .row 3 1 A2 m2 c2 (is x2)] := by
 have hgg_ := hgg; obtain ⟨Ag_mod, kg_mod, Ag_exp, kg_exp, Ag_log, kg_log, Ag_above, kg_above, hg_c, hg_mod, hg_exp, hg_log, hg_above⟩ := hgg_; refine Jh <| Jf (vs := [.pointer (some ag), nI x]) [4, 5] XF19 rfl rfl rfl rfl ?_; have hS := Jm w; unfold Jde at hv; refine Jd 10 <| SL.call hS (ok_Inv (GFR.ext (GFR.norm hgg) hS.ext) hv) XF29 rfl XN29 rfl rfl ?_; rintro _ _ w11 ⟨r12, r13, rfl, rfl, hv⟩ hGw11 hS; have hS := hS.n0; refine Jc 6 <| Jd 5 <| Jg rfl (fun c14 => ?_) (fun c14 => ?_)
 .have hv := hv.1 (oT c14); refine Jd 6 <| W.ret <| ⟨_, rfl, Fin.nil ?_⟩
  exact (hS.pick [] rfl).fin rfl ⟨none, r13, hv.2, hv.1, rfl, rfl⟩
 have hv := hv.2 (oF c14); refine Jj <| Jd 5 <| SL.call hS (Zv (GFR.ext (GFR.norm hgg) hS.ext) hv) XF21 rfl XN21 rfl rfl ?_; rintro _ _ w15 ⟨r16, rfl, rfl, hv⟩ hGw15 hS; have hS := hS.n0; refine Jc 2 <| Jg rfl (fun c17 => ?_) (fun c17 => ?_)
 .have hv := hv.1 (c17); refine Jd 5 <| W.ret <| ⟨_, rfl, Fin.nil ?_⟩
  exact (hS.pick [] rfl).fin rfl ⟨none, (5 : Int), hv.2, hv.1, rfl, rfl⟩
 have hv := hv.2 (c17); refine Jj <| Jd 3 <| SL.call hS (Jar (GFR.ext (GFR.norm hgg) hS.ext) hv) XF30 rfl XN30 rfl rfl ?_; rintro _ _ w18 ⟨r19, rfl, rfl, hv⟩ hGw18 hS; have hS := hS.n0; obtain ⟨o20, hv⟩ := hv; refine WL.sub (r := (r19 - 1)) rfl rfl (wr o20) rfl <| Jc 2 <| Js ?_; obtain ⟨o24, hv⟩ := hv; obtain ⟨r32, o34, hv⟩ := hv; obtain ⟨o36, hv⟩ := hv; obtain ⟨o44, hv⟩ := hv; have hS0 := hS; refine Zh 8 (fun iA => [false, false, true, false, false, true, false, true].getD iA false) (fun _ => none) (fun _ v u => u = v) [⟨[], [1], true⟩, ⟨[], [8], true⟩, ⟨[1], [], false⟩, ⟨[], [0], true⟩, ⟨[3], [], false⟩, ⟨[4], [], false⟩, ⟨[], [8], true⟩, ⟨[6], [], false⟩] [.k 30 (nI x), .k 31 (nI (r19 - 1)), eS w18 32 3 ((r19 - 1).toNat) (is (List.replicate (r19 - 1).toNat (0 : Int))), .k 33 (.pointer (some ag)), .k 34 (nI r32), eS w18 35 3 r32.toNat (is (List.replicate r32.toNat (0 : Int))), .k 36 (nI (r19 - 1)), eS w18 37 3 ((r19 - 1).toNat) (is (List.replicate (r19 - 1).toNat (0 : Int)))] (fun _ => vbD) Try.mixed (by kernel_rfl) rfl rfl (fun _ _ _ _ _ _ _ h => h) ?_ ?_
 . refine ⟨oC, oC, ?_, oC, ?_, ?_, oC, ?_, trivial⟩
   . intro w23 hE; have hE := hE rfl; have hS := hS.grow hE; intro RR; refine Zp (J := (r19 - 1)) Jn XE3 rfl rfl o24 (QB _) rfl ?_; intro A25 k29 w26 hO27 hN28g hGw26; have hN28 : ∀ g, bl A25 = some g -> _ <= g := fun g hg => Nat.le_trans hE.size (hN28g g hg); exact Ja ⟨_, rfl, hGw26, ⟨A25, k29, rfl, hO27, hN28⟩, (fun _ => fun g hg => ⟨hN28g g hg, (hO27.bl_ge g hg).2⟩), (fun j h => by cases h)⟩
   . intro w31 hE; have hS := hS.grow (hE rfl); intro RR; refine WL.call XF30 rfl XN30 rfl rfl (JB (Jar (GFR.ext (GFR.norm hgg) hS.ext) o34)) ?_; rintro _ w33 ⟨_, hGw33, hRww33, hNww33, r32q, rfl, rfl, he⟩; subst he; exact Ja ⟨rfl, hGw33⟩
   . intro w35 hE; have hE := hE rfl; have hS := hS.grow hE; intro RR; refine Zp (J := r32) Jn XE3 rfl rfl o36 (QB _) rfl ?_; intro A37 k41 w38 hO39 hN40g hGw38; have hN40 : ∀ g, bl A37 = some g -> _ <= g := fun g hg => Nat.le_trans hE.size (hN40g g hg); exact Ja ⟨_, rfl, hGw38, ⟨A37, k41, rfl, hO39, hN40⟩, (fun _ => fun g hg => ⟨hN40g g hg, (hO39.bl_ge g hg).2⟩), (fun j h => by cases h)⟩
   intro w43 hE; have hE := hE rfl; have hS := hS.grow hE; intro RR; refine Zp (J := (r19 - 1)) Jn XE3 rfl rfl o44 (QB _) rfl ?_; intro A45 k49 w46 hO47 hN48g hGw46; have hN48 : ∀ g, bl A45 = some g -> _ <= g := fun g hg => Nat.le_trans hE.size (hN48g g hg); exact Ja ⟨_, rfl, hGw46, ⟨A45, k49, rfl, hO47, hN48⟩, (fun _ => fun g hg => ⟨hN48g g hg, (hO47.bl_ge g hg).2⟩), (fun j h => by cases h)⟩
 intro vals w50 hT hVs hAp hCp; have hS := hS.grow hT; obtain ⟨A25_2, k29_2, hv2, hO27_2, hN28_2⟩ := hVs 2 (by decide); obtain ⟨A37_5, k41_5, hv5, hO39_5, hN40_5⟩ := hVs 5 (by decide); obtain ⟨A45_7, k49_7, hv7, hO47_7, hN48_7⟩ := hVs 7 (by decide); have hS := Qt [] hS0 hS hO27_2 hN28_2 (fun s hs => by cases hs); have hap5_2 : ∀ g, (.row 3 1 A37_5 r32.toNat k41_5 (is (List.replicate r32.toNat (0 : Int))) : Rw).at_ g -> ¬ (.row 3 1 A25_2 ((r19 - 1).toNat) k29_2 (is (List.replicate (r19 - 1).toNat (0 : Int))) : Rw).at_ g := by have h_ := hAp 5 2 (by decide) (by decide) (by decide) rfl rfl; rw [hv5, hv2] at h_; exact fun g h1 h2 => h_ g h1 h2
 have hS := Qt [.row 3 1 A25_2 ((r19 - 1).toNat) k29_2 (is (List.replicate (r19 - 1).toNat (0 : Int)))] hS0 hS hO39_5 hN40_5 (by intro s hs g hg; simp only [List.mem_cons, List.not_mem_nil, or_false] at hs; obtain rfl := hs; exact hap5_2 g hg); have hap7_5 : ∀ g, (.row 3 1 A45_7 ((r19 - 1).toNat) k49_7 (is (List.replicate (r19 - 1).toNat (0 : Int))) : Rw).at_ g -> ¬ (.row 3 1 A37_5 r32.toNat k41_5 (is (List.replicate r32.toNat (0 : Int))) : Rw).at_ g := by have h_ := hAp 7 5 (by decide) (by decide) (by decide) rfl rfl; rw [hv7, hv5] at h_; exact fun g h1 h2 => h_ g h1 h2
 have hap7_2 : ∀ g, (.row 3 1 A45_7 ((r19 - 1).toNat) k49_7 (is (List.replicate (r19 - 1).toNat (0 : Int))) : Rw).at_ g -> ¬ (.row 3 1 A25_2 ((r19 - 1).toNat) k29_2 (is (List.replicate (r19 - 1).toNat (0 : Int))) : Rw).at_ g := by have h_ := hAp 7 2 (by decide) (by decide) (by decide) rfl rfl; rw [hv7, hv2] at h_; exact fun g h1 h2 => h_ g h1 h2
 have hS := Qt [.row 3 1 A37_5 r32.toNat k41_5 (is (List.replicate r32.toNat (0 : Int))), .row 3 1 A25_2 ((r19 - 1).toNat) k29_2 (is (List.replicate (r19 - 1).toNat (0 : Int)))] hS0 hS hO47_7 hN48_7 (by intro s hs g hg; simp only [List.mem_cons, List.not_mem_nil, or_false] at hs; rcases hs with rfl | rfl <;> first | exact hap7_5 g hg | exact hap7_2 g hg); refine Jhb [(2, .slice A25_2 ((r19 - 1).toNat) k29_2), (5, .slice A37_5 r32.toNat k41_5), (7, .slice A45_7 ((r19 - 1).toNat) k49_7)] ⟨hv2, hv5, hv7, trivial⟩ <| Jr 8 rfl <| Zg (cells := #[nI x, .slice A25_2 ((r19 - 1).toNat) k29_2, .slice A37_5 r32.toNat k41_5, .slice A45_7 ((r19 - 1).toNat) k49_7]) XB48 rfl rfl rfl <| Ja <| Jr 9 rfl <| JC (z := 4) (cs := [nI x, .slice A25_2 ((r19 - 1).toNat) k29_2, .slice A37_5 r32.toNat k41_5, .slice A45_7 ((r19 - 1).toNat) k49_7]) hS rfl rfl rfl rfl ?_; intro g54 w55 hS; refine Ja <| Jr 10 rfl <| Jc 2 <| JQ <| Jd 4 <| Jb (off := 2) Ja5 rfl rfl <| SL.lv 0 2 Jn hS rfl rfl rfl ⟨rfl, rfl⟩ ?_; obtain ⟨o56, hv⟩ := hv; refine Ji Jn XE3 (hS.rd (i := 2) rfl) rfl rfl o56 rfl <| Jp (cs' := is (si (List.replicate r32.toNat (0 : Int)) (0 : Int) (-1 : Int))) 2 (0 : Int).toNat hS rfl XE3 rfl rfl rfl (JN (hS.rd (i := 2) rfl) o56) (JA _ _ _) ?_; intro w57 hS; refine Ja <| Jd 10 <| W.block ?_; obtain ⟨I70, μ71, hv, hk136⟩ := hv; refine Jy (σ := LI × LI × Int × Int) (fun q w1 => match q with | (x66, x67, z68, z69) => I70 x66 x67 z68 z69 /\ St TT w none w1 [.row 48 4 (nA g54) 1 1 [nI x, .slice A25_2 ((r19 - 1).toNat) k29_2, .slice A37_5 r32.toNat k41_5, .slice A45_7 ((r19 - 1).toNat) k49_7], .row 3 1 A45_7 ((r19 - 1).toNat) k49_7 (is (List.replicate (r19 - 1).toNat (0 : Int))), .row 3 1 A37_5 r32.toNat k41_5 (is x66), .row 3 1 A25_2 ((r19 - 1).toNat) k29_2 (is x67)]) (fun (x66, x67, z68, z69) => [(0, .pointer (some ag)), (1, nI x), (4, .pointer Option.none), (5, nI 0), (9, nP g54), (10, nI z68), (45, nI (r19 - 1)), (46, nI z69)]) (fun (x66, x67, z68, z69) => μ71 x66 x67 z68 z69) (si (List.replicate r32.toNat (0 : Int)) (0 : Int) (-1 : Int), List.replicate (r19 - 1).toNat (0 : Int), (1 : Int), (0 : Int)) ⟨hv, hS⟩ ⟨rfl, rfl, rfl, rfl, rfl, rfl, rfl, rfl, trivial⟩ ?_; rintro ⟨x66, x67, z68, z69⟩ w72 ⟨hv, hS⟩; have hv := hk136 x66 x67 z68 z69 hv; refine Jd 5 <| Jg rfl (fun c73 => ?_) (fun c73 => ?_)
 .have hv := hv.1 (oT c73); refine Jj <| Js ?_; obtain ⟨J75, hv, hk101⟩ := hv; refine YV (σ := Int) (fun z74 w1 => J75 z74 /\ St TT w none w1 [.row 48 4 (nA g54) 1 1 [nI x, .slice A25_2 ((r19 - 1).toNat) k29_2, .slice A37_5 r32.toNat k41_5, .slice A45_7 ((r19 - 1).toNat) k49_7], .row 3 1 A45_7 ((r19 - 1).toNat) k49_7 (is (List.replicate (r19 - 1).toNat (0 : Int))), .row 3 1 A37_5 r32.toNat k41_5 (is (si x66 z68 z69)), .row 3 1 A25_2 ((r19 - 1).toNat) k29_2 (is (si x67 z69 z68))]) (fun z74 => [(0, .pointer (some ag)), (1, nI x), (4, .pointer Option.none), (5, nI 0), (9, nP g54), (10, nI z74), (11, nI z69), (45, nI (r19 - 1)), (46, nI z69), (47, .bool (decide (z69 < (r19 - 1))))]) ?_ ?_
  .refine W.block ?_; refine Jd 6 ?_; obtain ⟨J76, hv, hk98⟩ := hv; refine YV (σ := Unit) (fun _ w1 => J76 /\ St TT w none w1 [.row 48 4 (nA g54) 1 1 [nI x, .slice A25_2 ((r19 - 1).toNat) k29_2, .slice A37_5 r32.toNat k41_5, .slice A45_7 ((r19 - 1).toNat) k49_7], .row 3 1 A45_7 ((r19 - 1).toNat) k49_7 (is (List.replicate (r19 - 1).toNat (0 : Int))), .row 3 1 A37_5 r32.toNat k41_5 (is (si x66 z68 z69)), .row 3 1 A25_2 ((r19 - 1).toNat) k29_2 (is (si x67 z69 z68))]) (fun _ => [(0, .pointer (some ag)), (1, nI x), (4, .pointer Option.none), (5, nI 0), (9, nP g54), (10, nI z68), (11, nI z69), (45, nI (r19 - 1)), (46, nI z69), (47, .bool (decide (z69 < (r19 - 1))))]) ?_ ?_
   .obtain ⟨o90, hv⟩ := hv; have hS0 := hS; refine Jhc 13 [9, 11] (fun _ => false) (fun _ => none) (fun _ v u => u = v) [⟨[], [9], true⟩, ⟨[0], [], true⟩, ⟨[1], [], true⟩, ⟨[2], [], false⟩, ⟨[], [11], true⟩, ⟨[], [9], true⟩, ⟨[5], [], true⟩, ⟨[6], [], true⟩, ⟨[7], [], false⟩, ⟨[], [10], true⟩, ⟨[], [10], true⟩, ⟨[], [11], true⟩, ⟨[3, 4], [], true⟩] [.k 49 (nP g54), .k 50 (nP g54), .k 51 (.pointer (some ((⟨g54, 0, none⟩ : Addr).add 1))), .k 52 (.slice A25_2 ((r19 - 1).toNat) k29_2), .k 53 (nI z69), .k 54 (nP g54), .k 55 (nP g54), .k 56 (.pointer (some ((⟨g54, 0, none⟩ : Addr).add 2))), .k 57 (.slice A37_5 r32.toNat k41_5), .k 58 (nI z68), .k 59 (nI z68), .k 60 (nI z69), .k 61 (.pointer (some ((JO A25_2).add z69.toNat)))] (fun _ => vbD) Try.mixed (by kernel_rfl) rfl rfl (fun _ _ _ _ _ _ _ h => h) ?_ ?_
    .refine ⟨oC, oC, fun _ _ _ => Jb (off := 1) Ja6 rfl rfl <| Ja ⟨rfl, rfl⟩, og hS fun _ _ hS => SL.lv 0 1 Jn hS rfl rfl rfl ⟨rfl, rfl⟩ <| Ja ⟨rfl, Je _⟩, oC, oC, oC, fun _ _ _ => Jb (off := 2) Ja5 rfl rfl <| Ja ⟨rfl, rfl⟩, og hS fun _ _ hS => SL.lv 0 2 Jn hS rfl rfl rfl ⟨rfl, rfl⟩ <| Ja ⟨rfl, Je _⟩, oC, oC, oC, fun _ _ _ => Ji Jn XE3 (hS.rd (i := 3) rfl) rfl rfl o90 rfl <| Ja ⟨rfl, rfl⟩, trivial⟩
    intro X hX; have hX : X ∈ ([[], [11], [9], [9, 11]] : List (List Nat)) := hX; simp only [List.mem_cons, List.not_mem_nil, or_false] at hX; rcases hX with rfl | rfl | rfl | rfl
    .intro vals w91 hT hVs hAp hCp q_ hq_; have hS := hS.grow hT; obtain rfl : q_ = 3 := hq_.trans (by decide +kernel); refine Jr 13 rfl <| Jp (cs' := is (si x67 z69 z68)) 3 z69.toNat hS rfl XE3 rfl rfl rfl (JN (hS.rd (i := 3) rfl) o90) (JA _ _ _) ?_; intro w92 hS; refine Ja <| Jr 14 rfl ?_; obtain ⟨o93, hv⟩ := hv; refine Ji Jn XE3 (hS.rd (i := 2) rfl) rfl rfl o93 rfl <| Ja <| Jr 15 rfl <| Jp (cs' := is (si x66 z68 z69)) 2 z68.toNat hS rfl XE3 rfl rfl rfl (JN (hS.rd (i := 2) rfl) o93) (JA _ _ _) ?_; intro w94 hS; refine Ja <| JQ ?_; exact ⟨(), sp rfl, rfl, hv, hS⟩
    .intro vals w91 hT hVs hAp hCp q_ hq_; have hS := hS.grow hT; obtain rfl : q_ = 4 := hq_.trans (by decide +kernel); refine Ja8 11 13 rfl rfl ?_ ?_
     .refine Jc 2 <| Jr 13 rfl <| Jp (cs' := is (si x67 z69 z68)) 3 z69.toNat hS rfl XE3 rfl rfl rfl (JN (hS.rd (i := 3) rfl) o90) (JA _ _ _) ?_; intro w92 hS; refine Ja <| Jr 14 rfl ?_; obtain ⟨o93, hv⟩ := hv; refine Ji Jn XE3 (hS.rd (i := 2) rfl) rfl rfl o93 rfl <| Ja <| Jr 15 rfl <| Jp (cs' := is (si x66 z68 z69)) 2 z68.toNat hS rfl XE3 rfl rfl rfl (JN (hS.rd (i := 2) rfl) o93) (JA _ _ _) ?_; intro w94 hS; refine Ja <| JQ ?_; exact ⟨(), sp rfl, rfl, hv, hS⟩
     refine Jp (cs' := is (si x67 z69 z68)) 3 z69.toNat hS rfl XE3 rfl rfl rfl (JN (hS.rd (i := 3) rfl) o90) (JA _ _ _) ?_; intro w92 hS; refine Ja <| Jr 11 rfl <| Jc 2 <| Jr 14 rfl ?_; obtain ⟨o93, hv⟩ := hv; refine Ji Jn XE3 (hS.rd (i := 2) rfl) rfl rfl o93 rfl <| Ja <| Jr 15 rfl <| Jp (cs' := is (si x66 z68 z69)) 2 z68.toNat hS rfl XE3 rfl rfl rfl (JN (hS.rd (i := 2) rfl) o93) (JA _ _ _) ?_; intro w94 hS; refine Ja <| JQ ?_; exact ⟨(), sp rfl, rfl, hv, hS⟩
    .intro vals w91 hT hVs hAp hCp q_ hq_; have hS := hS.grow hT; obtain rfl : q_ = 4 := hq_.trans (by decide +kernel); refine Ja8 9 13 rfl rfl ?_ ?_
     .refine Jc 2 <| Jr 13 rfl <| Jp (cs' := is (si x67 z69 z68)) 3 z69.toNat hS rfl XE3 rfl rfl rfl (JN (hS.rd (i := 3) rfl) o90) (JA _ _ _) ?_; intro w92 hS; refine Ja <| Jr 14 rfl ?_; obtain ⟨o93, hv⟩ := hv; refine Ji Jn XE3 (hS.rd (i := 2) rfl) rfl rfl o93 rfl <| Ja <| Jr 15 rfl <| Jp (cs' := is (si x66 z68 z69)) 2 z68.toNat hS rfl XE3 rfl rfl rfl (JN (hS.rd (i := 2) rfl) o93) (JA _ _ _) ?_; intro w94 hS; refine Ja <| JQ ?_; exact ⟨(), sp rfl, rfl, hv, hS⟩
     refine Jp (cs' := is (si x67 z69 z68)) 3 z69.toNat hS rfl XE3 rfl rfl rfl (JN (hS.rd (i := 3) rfl) o90) (JA _ _ _) ?_; intro w92 hS; refine Ja <| Jr 9 rfl <| Jc 2 <| Jr 14 rfl ?_; obtain ⟨o93, hv⟩ := hv; refine Ji Jn XE3 (hS.rd (i := 2) rfl) rfl rfl o93 rfl <| Ja <| Jr 15 rfl <| Jp (cs' := is (si x66 z68 z69)) 2 z68.toNat hS rfl XE3 rfl rfl rfl (JN (hS.rd (i := 2) rfl) o93) (JA _ _ _) ?_; intro w94 hS; refine Ja <| JQ ?_; exact ⟨(), sp rfl, rfl, hv, hS⟩
    intro vals w91 hT hVs hAp hCp q_ hq_; have hS := hS.grow hT; obtain rfl : q_ = 5 := hq_.trans (by decide +kernel); refine WA.s3 9 11 13 rfl rfl rfl ?_ ?_ ?_
    .refine Jc 2 <| Ja8 11 13 rfl rfl ?_ ?_
     .refine Jc 2 <| Jr 13 rfl <| Jp (cs' := is (si x67 z69 z68)) 3 z69.toNat hS rfl XE3 rfl rfl rfl (JN (hS.rd (i := 3) rfl) o90) (JA _ _ _) ?_; intro w92 hS; refine Ja <| Jr 14 rfl ?_; obtain ⟨o93, hv⟩ := hv; refine Ji Jn XE3 (hS.rd (i := 2) rfl) rfl rfl o93 rfl <| Ja <| Jr 15 rfl <| Jp (cs' := is (si x66 z68 z69)) 2 z68.toNat hS rfl XE3 rfl rfl rfl (JN (hS.rd (i := 2) rfl) o93) (JA _ _ _) ?_; intro w94 hS; refine Ja <| JQ ?_; exact ⟨(), sp rfl, rfl, hv, hS⟩
     refine Jp (cs' := is (si x67 z69 z68)) 3 z69.toNat hS rfl XE3 rfl rfl rfl (JN (hS.rd (i := 3) rfl) o90) (JA _ _ _) ?_; intro w92 hS; refine Ja <| Jr 11 rfl <| Jc 2 <| Jr 14 rfl ?_; obtain ⟨o93, hv⟩ := hv; refine Ji Jn XE3 (hS.rd (i := 2) rfl) rfl rfl o93 rfl <| Ja <| Jr 15 rfl <| Jp (cs' := is (si x66 z68 z69)) 2 z68.toNat hS rfl XE3 rfl rfl rfl (JN (hS.rd (i := 2) rfl) o93) (JA _ _ _) ?_; intro w94 hS; refine Ja <| JQ ?_; exact ⟨(), sp rfl, rfl, hv, hS⟩
    .refine Jc 2 <| Ja8 9 13 rfl rfl ?_ ?_
     .refine Jc 2 <| Jr 13 rfl <| Jp (cs' := is (si x67 z69 z68)) 3 z69.toNat hS rfl XE3 rfl rfl rfl (JN (hS.rd (i := 3) rfl) o90) (JA _ _ _) ?_; intro w92 hS; refine Ja <| Jr 14 rfl ?_; obtain ⟨o93, hv⟩ := hv; refine Ji Jn XE3 (hS.rd (i := 2) rfl) rfl rfl o93 rfl <| Ja <| Jr 15 rfl <| Jp (cs' := is (si x66 z68 z69)) 2 z68.toNat hS rfl XE3 rfl rfl rfl (JN (hS.rd (i := 2) rfl) o93) (JA _ _ _) ?_; intro w94 hS; refine Ja <| JQ ?_; exact ⟨(), sp rfl, rfl, hv, hS⟩
     refine Jp (cs' := is (si x67 z69 z68)) 3 z69.toNat hS rfl XE3 rfl rfl rfl (JN (hS.rd (i := 3) rfl) o90) (JA _ _ _) ?_; intro w92 hS; refine Ja <| Jr 9 rfl <| Jc 2 <| Jr 14 rfl ?_; obtain ⟨o93, hv⟩ := hv; refine Ji Jn XE3 (hS.rd (i := 2) rfl) rfl rfl o93 rfl <| Ja <| Jr 15 rfl <| Jp (cs' := is (si x66 z68 z69)) 2 z68.toNat hS rfl XE3 rfl rfl rfl (JN (hS.rd (i := 2) rfl) o93) (JA _ _ _) ?_; intro w94 hS; refine Ja <| JQ ?_; exact ⟨(), sp rfl, rfl, hv, hS⟩
    refine Jp (cs' := is (si x67 z69 z68)) 3 z69.toNat hS rfl XE3 rfl rfl rfl (JN (hS.rd (i := 3) rfl) o90) (JA _ _ _) ?_; intro w92 hS; refine Ja <| Ja8 9 11 rfl rfl ?_ ?_
    .refine Jc 2 <| Jr 11 rfl <| Jc 2 <| Jr 14 rfl ?_; obtain ⟨o93, hv⟩ := hv; refine Ji Jn XE3 (hS.rd (i := 2) rfl) rfl rfl o93 rfl <| Ja <| Jr 15 rfl <| Jp (cs' := is (si x66 z68 z69)) 2 z68.toNat hS rfl XE3 rfl rfl rfl (JN (hS.rd (i := 2) rfl) o93) (JA _ _ _) ?_; intro w94 hS; refine Ja <| JQ ?_; exact ⟨(), sp rfl, rfl, hv, hS⟩
    refine Jc 2 <| Jr 9 rfl <| Jc 2 <| Jr 14 rfl ?_; obtain ⟨o93, hv⟩ := hv; refine Ji Jn XE3 (hS.rd (i := 2) rfl) rfl rfl o93 rfl <| Ja <| Jr 15 rfl <| Jp (cs' := is (si x66 z68 z69)) 2 z68.toNat hS rfl XE3 rfl rfl rfl (JN (hS.rd (i := 2) rfl) o93) (JA _ _ _) ?_; intro w94 hS; refine Ja <| JQ ?_; exact ⟨(), sp rfl, rfl, hv, hS⟩
   rintro _ w95 ⟨hv, hS⟩; have hv := hk98  hv; refine Jd 4 <| SL.call hS (ok_Mul (GFR.ext (GFR.norm hgg) hS.ext) hv) XF31 rfl XN31 rfl rfl ?_; rintro _ _ w96 ⟨r97, rfl, rfl, hv⟩ hGw96 hS; have hS := hS.n0; refine Jc 2 ?_; exact ⟨r97, sp rfl, rfl, hv, hS⟩
  rintro z74 w99 ⟨hv, hS⟩; have hv := hk101 z74 hv; refine Jw ?_; obtain ⟨o100, hv⟩ := hv; refine WL.add (r := (z69 + 1)) rfl rfl (wr o100) rfl <| Jc 2 ?_; exact ⟨(si x66 z68 z69, si x67 z69 z68, z74, (z69 + 1)), sp rfl, hv.2, rfl, hv.1, hS⟩
 have hv := hv.2 (oF c73); refine Jt <| Jd 5 <| Jb (off := 1) Ja6 rfl rfl <| SL.lv 0 1 Jn hS rfl rfl rfl ⟨rfl, rfl⟩ <| WL.len Jn rfl rfl <| Jc 2 <| W.block ?_; obtain ⟨I108, μ109, hv, hk135⟩ := hv; refine Jy (σ := LI × Int) (fun q w1 => match q with | (x106, z107) => I108 x106 z107 /\ St TT w none w1 [.row 48 4 (nA g54) 1 1 [nI x, .slice A25_2 ((r19 - 1).toNat) k29_2, .slice A37_5 r32.toNat k41_5, .slice A45_7 ((r19 - 1).toNat) k49_7], .row 3 1 A45_7 ((r19 - 1).toNat) k49_7 (is x106), .row 3 1 A37_5 r32.toNat k41_5 (is x66), .row 3 1 A25_2 ((r19 - 1).toNat) k29_2 (is x67)]) (fun (x106, z107) => [(0, .pointer (some ag)), (4, .pointer Option.none), (5, nI 0), (9, nP g54), (71, .slice A25_2 ((r19 - 1).toNat) k29_2), (72, nI (((r19 - 1).toNat : Nat) : Int)), (73, nI z107)]) (fun (x106, z107) => μ109 x106 z107) (List.replicate (r19 - 1).toNat (0 : Int), (0 : Int)) ⟨hv, hS⟩ ⟨rfl, rfl, rfl, rfl, rfl, rfl, rfl, trivial⟩ ?_; rintro ⟨x106, z107⟩ w110 ⟨hv, hS⟩; have hv := hk135 x106 z107 hv; refine Jd 5 <| Jg rfl (fun c111 => ?_) (fun c111 => ?_)
 .have hv := hv.1 (oT c111); refine Jj <| Js <| W.block <| Jd 3 ?_; obtain ⟨o112, hv⟩ := hv; refine Ji Jn XE3 (hS.rd (i := 3) rfl) rfl rfl o112 rfl <| Jk XU3 rfl rfl (JG (hS.rd (i := 3) rfl) o112) rfl <| Jc 3 ?_; obtain ⟨r125, o127, hv⟩ := hv; obtain ⟨o129, hv⟩ := hv; refine Ju 14 [⟨[], [9], true⟩, ⟨[0], [], true⟩, ⟨[1], [], true⟩, ⟨[2], [], false⟩, ⟨[], [12], true⟩, ⟨[], [9], true⟩, ⟨[5], [], true⟩, ⟨[6], [], true⟩, ⟨[7], [], false⟩, ⟨[], [0], true⟩, ⟨[], [13], true⟩, ⟨[9, 10], [], false⟩, ⟨[8, 11], [], true⟩, ⟨[12], [], false⟩] [(78, nP g54), (79, nP g54), (80, .pointer (some ((⟨g54, 0, none⟩ : Addr).add 3))), (81, .slice A45_7 ((r19 - 1).toNat) k49_7), (82, nI z107), (83, nP g54), (84, nP g54), (85, .pointer (some ((⟨g54, 0, none⟩ : Addr).add 2))), (86, .slice A37_5 r32.toNat k41_5), (87, .pointer (some ag)), (88, nI (gi x67 z107)), (89, nI r125), (90, .pointer (some ((JO A37_5).add r125.toNat))), (91, nI (gi x66 r125))] Try.mixed (by kernel_rfl) rfl rfl ?_ ?_
  . refine ⟨oD, oD, fun _ _ _ => Jb (off := 3) Jkr rfl rfl <| Ja ⟨rfl, rfl⟩, og hS fun _ _ hS => SL.lv 0 3 Jn hS rfl rfl rfl ⟨rfl, rfl⟩ <| Ja ⟨rfl, Je _⟩, oD, oD, oD, fun _ _ _ => Jb (off := 2) Ja5 rfl rfl <| Ja ⟨rfl, rfl⟩, og hS fun _ _ hS => SL.lv 0 2 Jn hS rfl rfl rfl ⟨rfl, rfl⟩ <| Ja ⟨rfl, Je _⟩, oD, oD, ?_, fun _ _ _ => Ji Jn XE3 (hS.rd (i := 2) rfl) rfl rfl o129 rfl <| Ja ⟨rfl, rfl⟩, og hS fun _ _ hS => Jk XU3 rfl rfl (JG (hS.rd (i := 2) rfl) o129) rfl <| Ja ⟨rfl, Je _⟩, trivial⟩; intro w124 hE RR; have hS := hS.grow (hE rfl); refine WL.call XF32 rfl XN32 rfl rfl (JB (ok_Add (GFR.ext (GFR.norm hgg) hS.ext) o127)) ?_; rintro _ w126 ⟨_, hGw126, hRww126, hNww126, r125q, rfl, rfl, he⟩; subst he; exact Ja ⟨rfl, hGw126⟩
  intro w131 hT; have hS := hS.grow hT; refine Jr 14 rfl ?_; obtain ⟨o132, hv⟩ := hv; refine Ji Jn XE3 (hS.rd (i := 1) rfl) rfl rfl o132 rfl <| Ja <| Jr 15 rfl <| Jp (cs' := is (si x106 z107 (gi x66 r125))) 1 z107.toNat hS rfl XE3 rfl rfl rfl (JN (hS.rd (i := 1) rfl) o132) (JA _ _ _) ?_; intro w133 hS; refine Ja <| JQ <| Jw ?_; obtain ⟨o134, hv⟩ := hv; refine WL.add (r := (z107 + 1)) rfl rfl (wr o134) rfl <| Jc 2 ?_; exact ⟨(si x106 z107 (gi x66 r125), (z107 + 1)), sp rfl, hv.2, rfl, hv.1, hS⟩
 have hv := hv.2 (oF c111); refine Jt <| Jd 6 <| W.ret <| ⟨_, rfl, Fin.nil ?_⟩
 exact (hS.pick [0, 3, 2, 1] rfl).fin rfl ⟨some (x, x67, x66, x106), 0, hv, rfl, g54, A25_2, A37_5, A45_7, k29_2, k41_5, k49_7, ((r19 - 1).toNat), r32.toNat, ((r19 - 1).toNat), rfl, rfl⟩
def Jdf (bj : Int) (je : LI) (jl : LI) (jz : LI) (Q : Int -> Prop) : Prop :=
  Q bj
theorem Jjq {w : World} {Q : Int -> Prop} {bj : Int} {je : LI} {jl : LI} {jz : LI} {Bje : Nat} {Aje : Option Addr} {nje kje : Nat} (hje : Rd Bje w 1 Aje nje kje (is je)) {Bjl : Nat} {Ajl : Option Addr} {njl kjl : Nat} (hjl : Rd Bjl w 1 Ajl njl kjl (is jl)) {Bjz : Nat} {Ajz : Option Addr} {njz kjz : Nat} (hjz : Rd Bjz w 1 Ajz njz kjz (is jz)) {aj : Addr} {Bj : Nat} (hcj : Rd Bj w 4 (some aj) 1 1 [.int .i64 bj, .slice Aje nje kje, .slice Ajl njl kjl, .slice Ajz njz kjz]) (hv : Jdf bj je jl jz Q) :
  Calls Try.prog 22 #[.pointer (some aj)] w <| Rt w fun v Qr => ∃ (r0 : Int), v = .int .i64 r0 /\ Qr = [] /\ Q r0 := by
 have hnje := hje.ilen; subst hnje; have hnjl := hjl.ilen; subst hnjl; have hnjz := hjz.ilen; subst hnjz; refine Jh <| Jf (vs := [.pointer (some aj)]) [2] XF22 rfl rfl rfl rfl ?_; have hS := Jm w; unfold Jdf at hv; refine Jd 8 <| Jb (off := 0) XA48_0 rfl rfl <| Jk XU3 rfl rfl (Rd.at_ (hS.ro hcj) (j := 0) rfl) rfl <| Jc 2 <| W.ret <| ⟨_, rfl, Fin.nil ?_⟩
 exact (hS.pick [] rfl).fin rfl ⟨bj, rfl, rfl, hv⟩
def Qq (bj : Int) (je : LI) (jl : LI) (jz : LI) (x : Int) (Q : Int × Int -> Prop) : Prop :=
  ((x <= 0) -> (Q ((0 : Int), (7 : Int)))) /\ (¬ (x <= 0) -> ((((jl.length : Int) <= x) -> (Q ((0 : Int), (7 : Int)))) /\ (¬ ((jl.length : Int) <= x) -> ((0 <= x /\ x < (jl.length : Nat)) /\ (Q ((gi jl x), (0 : Int)))))))
theorem QL {w : World} {Q : Int × Int -> Prop} {bj : Int} {je : LI} {jl : LI} {jz : LI} {x : Int} {Bje : Nat} {Aje : Option Addr} {nje kje : Nat} (hje : Rd Bje w 1 Aje nje kje (is je)) {Bjl : Nat} {Ajl : Option Addr} {njl kjl : Nat} (hjl : Rd Bjl w 1 Ajl njl kjl (is jl)) {Bjz : Nat} {Ajz : Option Addr} {njz kjz : Nat} (hjz : Rd Bjz w 1 Ajz njz kjz (is jz)) {aj : Addr} {Bj : Nat} (hcj : Rd Bj w 4 (some aj) 1 1 [.int .i64 bj, .slice Aje nje kje, .slice Ajl njl kjl, .slice Ajz njz kjz]) (hv : Qq bj je jl jz x Q) :
   Calls Try.prog 7 #[.pointer (some aj), .int .i64 x] w <| Rt w fun v Qr => ∃ (r0 : Int) (r1 : Int), v = .tuple #[.int .i64 r0, .int .i64 r1] /\ Qr = [] /\ Q (r0, r1) := by
 have hnje := hje.ilen; subst hnje; have hnjl := hjl.ilen; subst hnjl; have hnjz := hjz.ilen; subst hnjz; refine Jh <| Jf (vs := [.pointer (some aj), nI x]) [4, 5] XF7 rfl rfl rfl rfl ?_; have hS := Jm w; unfold Qq at hv; refine Jd 10 <| Jl rfl rfl ?_; by_cases g11 : x <= 0
 .have hv := hv.1 g11; rw [decide_eq_true g11]; refine Jc 9 <| JI rfl <| Jd 5 <| W.ret <| ⟨_, rfl, Fin.nil ?_⟩
  exact (hS.pick [] rfl).fin rfl ⟨(0 : Int), (7 : Int), rfl, rfl, hv⟩
 have hv := hv.2 g11; rw [decide_eq_false g11]; refine Jc 7 <| Jb (off := 2) Ja5 rfl rfl <| WL.take rfl <| Jk Jn rfl rfl (Rd.at_ (hS.ro hcj) (j := 2) rfl) rfl <| WL.take rfl <| WL.len Jn rfl rfl <| Jc 4 <| Jg rfl (fun c12 => ?_) (fun c12 => ?_)
 .have hv := hv.1 (oT c12); refine Jd 5 <| W.ret <| ⟨_, rfl, Fin.nil ?_⟩
  exact (hS.pick [] rfl).fin rfl ⟨(0 : Int), (7 : Int), rfl, rfl, hv⟩
 have hv := hv.2 (oF c12); refine Jj <| Jd 4 <| Jb (off := 2) Ja5 rfl rfl <| Jk Jn rfl rfl (Rd.at_ (hS.ro hcj) (j := 2) rfl) rfl <| Jl rfl rfl ?_; obtain ⟨o13, hv⟩ := hv; refine Ji Jn XE3 (hS.ro hjl) rfl rfl o13 rfl <| Jk XU3 rfl rfl (JG (hS.ro hjl) o13) rfl <| Jc 3 <| W.ret <| ⟨_, rfl, Fin.nil ?_⟩
 exact (hS.pick [] rfl).fin rfl ⟨(gi jl x), (0 : Int), rfl, rfl, hv⟩
def Qf (bj : Int) (je : LI) (jl : LI) (jz : LI) (x : Int) (Q : Int -> Prop) : Prop :=
  ((je.length : Int) ≠ 0) /\ (∃ J13 : Int -> Prop, ((((x.tmod (je.length : Int)) < 0) -> ((I64 ((x.tmod (je.length : Int)) + (je.length : Int))) /\ (J13 ((x.tmod (je.length : Int)) + (je.length : Int))))) /\ (¬ ((x.tmod (je.length : Int)) < 0) -> (J13 (x.tmod (je.length : Int))))) /\ ∀ (z12 : Int), (J13 z12 -> Q z12))
theorem Y8 {w : World} {Q : Int -> Prop} {bj : Int} {je : LI} {jl : LI} {jz : LI} {x : Int} {Bje : Nat} {Aje : Option Addr} {nje kje : Nat} (hje : Rd Bje w 1 Aje nje kje (is je)) {Bjl : Nat} {Ajl : Option Addr} {njl kjl : Nat} (hjl : Rd Bjl w 1 Ajl njl kjl (is jl)) {Bjz : Nat} {Ajz : Option Addr} {njz kjz : Nat} (hjz : Rd Bjz w 1 Ajz njz kjz (is jz)) {aj : Addr} {Bj : Nat} (hcj : Rd Bj w 4 (some aj) 1 1 [.int .i64 bj, .slice Aje nje kje, .slice Ajl njl kjl, .slice Ajz njz kjz]) (hv : Qf bj je jl jz x Q) :
   Calls Try.prog 24 #[.pointer (some aj), .int .i64 x] w <| Rt w fun v Qr => ∃ (r0 : Int), v = .int .i64 r0 /\ Qr = [] /\ Q r0 := by
 have hnje := hje.ilen; subst hnje; have hnjl := hjl.ilen; subst hnjl; have hnjz := hjz.ilen; subst hnjz; refine Jh <| Jf (vs := [.pointer (some aj), nI x]) [4] XF24 rfl rfl rfl rfl ?_; have hS := Jm w; unfold Qf at hv; refine Jd 9 <| Jb (off := 1) Ja6 rfl rfl <| Jk Jn rfl rfl (Rd.at_ (hS.ro hcj) (j := 1) rfl) rfl <| WL.len Jn rfl rfl ?_; obtain ⟨o11, hv⟩ := hv; refine J3 (r := (x.tmod (je.length : Int))) rfl rfl o11 rfl rfl <| Jc 2 <| Jd 6 ?_; obtain ⟨J13, hv, hk17⟩ := hv; refine YV (σ := Int) (fun z12 w1 => J13 z12 /\ St TT w none w1 []) (fun z12 => [(1, nI z12), (4, nI 0)]) ?_ ?_
 .refine Jg rfl (fun c14 => ?_) (fun c14 => ?_)
  .have hv := hv.1 (oT c14); refine Jd 4 <| Jb (off := 1) Ja6 rfl rfl <| Jk Jn rfl rfl (Rd.at_ (hS.ro hcj) (j := 1) rfl) rfl <| WL.len Jn rfl rfl ?_; obtain ⟨o15, hv⟩ := hv; refine WL.add (r := ((x.tmod (je.length : Int)) + (je.length : Int))) rfl rfl (wr o15) rfl <| Jc 2 ?_; exact ⟨((x.tmod (je.length : Int)) + (je.length : Int)), ⟨rfl, rfl, trivial⟩, rfl, hv, hS⟩
  have hv := hv.2 (oF c14); refine Jj ?_; exact ⟨(x.tmod (je.length : Int)), ⟨rfl, rfl, trivial⟩, rfl, hv, hS⟩
 rintro z12 w16 ⟨hv, hS⟩; have hv := hk17 z12 hv; refine Jd 5 <| W.ret <| ⟨_, rfl, Fin.nil ?_⟩
 exact (hS.pick [] rfl).fin rfl ⟨z12, rfl, rfl, hv⟩
def Q8 (bj : Int) (je : LI) (jl : LI) (jz : LI) (x : Int) (Q : Int -> Prop) : Prop :=
  ∃ (r18 : Int), Qf bj je jl jz x (fun q => q = r18) /\ ((0 <= r18 /\ r18 < (je.length : Nat)) /\ (Q (gi je r18)))
theorem Y9 {w : World} {Q : Int -> Prop} {bj : Int} {je : LI} {jl : LI} {jz : LI} {x : Int} {Bje : Nat} {Aje : Option Addr} {nje kje : Nat} (hje : Rd Bje w 1 Aje nje kje (is je)) {Bjl : Nat} {Ajl : Option Addr} {njl kjl : Nat} (hjl : Rd Bjl w 1 Ajl njl kjl (is jl)) {Bjz : Nat} {Ajz : Option Addr} {njz kjz : Nat} (hjz : Rd Bjz w 1 Ajz njz kjz (is jz)) {aj : Addr} {Bj : Nat} (hcj : Rd Bj w 4 (some aj) 1 1 [.int .i64 bj, .slice Aje nje kje, .slice Ajl njl kjl, .slice Ajz njz kjz]) (hv : Q8 bj je jl jz x Q) :
  Calls Try.prog 9 #[.pointer (some aj), .int .i64 x] w <| Rt w fun v Qr => ∃ (r0 : Int), v = .int .i64 r0 /\ Qr = [] /\ Q r0 := by
 have hnje := hje.ilen; subst hnje; have hnjl := hjl.ilen; subst hnjl; have hnjz := hjz.ilen; subst hnjz; refine Jh <| Jf (vs := [.pointer (some aj), nI x]) [4] XF9 rfl rfl rfl rfl ?_; have hS := Jm w; unfold Q8 at hv; refine Jd 5 ?_; obtain ⟨r18, o20, hv⟩ := hv; obtain ⟨o22, hv⟩ := hv; refine Ju 10 [⟨[], [0], true⟩, ⟨[0], [], true⟩, ⟨[1], [], true⟩, ⟨[2], [], false⟩, ⟨[], [0], true⟩, ⟨[], [1], true⟩, ⟨[4, 5], [], false⟩, ⟨[3, 6], [], true⟩, ⟨[7], [], false⟩, ⟨[8], [], true⟩] [(5, .pointer (some aj)), (6, .pointer (some aj)), (7, .pointer (some (aj.add 1))), (8, nS Aje je kje), (9, .pointer (some aj)), (10, nI x), (11, nI r18), (12, .pointer (some ((JO Aje).add r18.toNat))), (13, nI (gi je r18)), (4, nI (gi je r18))] Try.mixed (by kernel_rfl) rfl rfl ?_ ?_
 .refine ⟨oD, oD, fun _ _ _ => Jb (off := 1) Ja6 rfl rfl <| Ja ⟨rfl, rfl⟩, og hS fun _ _ hS => Jk Jn rfl rfl (Rd.at_ (hS.ro hcj) (j := 1) rfl) rfl <| Ja ⟨rfl, Je _⟩, oD, oD, ?_, fun _ _ _ => Ji Jn XE3 (hS.ro hje) rfl rfl o22 rfl <| Ja ⟨rfl, rfl⟩, og hS fun _ _ hS => Jk XU3 rfl rfl (JG (hS.ro hje) o22) rfl <| Ja ⟨rfl, Je _⟩, oD, trivial⟩; intro w17 hE RR; have hS := hS.grow (hE rfl); refine WL.call XF24 rfl XN24 rfl rfl (JB (Y8 (hS.ro hje) (hS.ro hjl) (hS.ro hjz) (hS.ro hcj) o20)) ?_; rintro _ w19 ⟨_, hGw19, hRww19, hNww19, r18q, rfl, rfl, he⟩; subst he; exact Ja ⟨rfl, hGw19⟩
 intro w25 hT; have hS := hS.grow hT; refine JQ <| W.ret <| ⟨_, rfl, Fin.nil ?_⟩
 exact (hS.pick [] rfl).fin rfl ⟨(gi je r18), rfl, rfl, hv⟩
def Jba (bj : Int) (je : LI) (jl : LI) (jz : LI) (x : Int) (y : Int) (Q : Int -> Prop) : Prop :=
  Qq bj je jl jz x (fun (r12, r13) => ((r13 ≠ 0) -> (Q 0)) /\ (¬ (r13 ≠ 0) -> (Qq bj je jl jz y (fun (r16, r17) => ((r17 ≠ 0) -> (Q 0)) /\ (¬ (r17 ≠ 0) -> ((I64 (r12 + r16)) /\ (Q8 bj je jl jz (r12 + r16) (fun r21 => Q r21))))))))
theorem Jgt {w : World} {Q : Int -> Prop} {bj : Int} {je : LI} {jl : LI} {jz : LI} {x : Int} {y : Int} {Bje : Nat} {Aje : Option Addr} {nje kje : Nat} (hje : Rd Bje w 1 Aje nje kje (is je)) {Bjl : Nat} {Ajl : Option Addr} {njl kjl : Nat} (hjl : Rd Bjl w 1 Ajl njl kjl (is jl)) {Bjz : Nat} {Ajz : Option Addr} {njz kjz : Nat} (hjz : Rd Bjz w 1 Ajz njz kjz (is jz)) {aj : Addr} {Bj : Nat} (hcj : Rd Bj w 4 (some aj) 1 1 [.int .i64 bj, .slice Aje nje kje, .slice Ajl njl kjl, .slice Ajz njz kjz]) (hv : Jba bj je jl jz x y Q) :
   Calls Try.prog 11 #[.pointer (some aj), .int .i64 x, .int .i64 y] w <| Rt w fun v Qr => ∃ (r0 : Int), v = .int .i64 r0 /\ Qr = [] /\ Q r0 := by
 have hnje := hje.ilen; subst hnje; have hnjl := hjl.ilen; subst hnjl; have hnjz := hjz.ilen; subst hnjz; refine Jh <| Jf (vs := [.pointer (some aj), nI x, nI y]) [6] XF11 rfl rfl rfl rfl ?_; have hS := Jm w; unfold Jba at hv; refine Jd 8 <| SL.call hS (QL (hS.ro hje) (hS.ro hjl) (hS.ro hjz) (hS.ro hcj) hv) XF7 rfl XN7 rfl rfl ?_; rintro _ _ w11 ⟨r12, r13, rfl, rfl, hv⟩ hGw11 hS; have hS := hS.n0; refine Jc 6 <| Jd 6 <| Jg rfl (fun c14 => ?_) (fun c14 => ?_)
 .have hv := hv.1 (oT c14); refine Jd 4 <| W.ret <| ⟨_, rfl, Fin.nil ?_⟩
  exact (hS.pick [] rfl).fin rfl ⟨(0 : Int), rfl, rfl, hv⟩
 have hv := hv.2 (oF c14); refine Jj <| Jd 4 <| SL.call hS (QL (hS.ro hje) (hS.ro hjl) (hS.ro hjz) (hS.ro hcj) hv) XF7 rfl XN7 rfl rfl ?_; rintro _ _ w15 ⟨r16, r17, rfl, rfl, hv⟩ hGw15 hS; have hS := hS.n0; refine Jc 6 <| Jd 6 <| Jg rfl (fun c18 => ?_) (fun c18 => ?_)
 .have hv := hv.1 (oT c18); refine Jd 4 <| W.ret <| ⟨_, rfl, Fin.nil ?_⟩
  exact (hS.pick [] rfl).fin rfl ⟨(0 : Int), rfl, rfl, hv⟩
 have hv := hv.2 (oF c18); refine Jj <| Jd 5 ?_; obtain ⟨o19, hv⟩ := hv; refine WL.add (r := (r12 + r16)) rfl rfl (wr o19) rfl <| SL.call hS (Y9 (hS.ro hje) (hS.ro hjl) (hS.ro hjz) (hS.ro hcj) hv) XF9 rfl XN9 rfl rfl ?_; rintro _ _ w20 ⟨r21, rfl, rfl, hv⟩ hGw20 hS; have hS := hS.n0; refine Jc 2 <| W.ret <| ⟨_, rfl, Fin.nil ?_⟩
 exact (hS.pick [] rfl).fin rfl ⟨r21, rfl, rfl, hv⟩
end Go.Proofs.Ytbdmnolcmeojbaa
namespace Go.Proofs.Ytbdmnolcmeojbaa
open Go.RowKit
def YB (Pf : Int) (Mf : Int) (mf : LI) (x : Int) (Q : Bool -> Prop) : Prop :=
  ∃ (r16 : Int), QN Pf Mf mf x (fun q => q = r16) /\ (∃ (r21 : Int), J1 Pf Mf mf (fun q => q = r21) /\ ((I64 (r21 - 1)) /\ (Q (decide (r16 = (r21 - 1))))))
theorem Jfc {w : World} {Q : Bool -> Prop} {Pf : Int} {Mf : Int} {mf : LI} {x : Int} {Bf : Nat} {Af : Option Addr} {nf kf : Nat} (hf : Rd Bf w 1 Af nf kf (is mf)) (hv : YB Pf Mf mf x Q) :
  Calls Try.prog 33 #[.agg #[.int .i64 Pf, .int .i64 Mf, .slice Af nf kf], .int .i64 x] w <| Rt w fun v Qr => ∃ (r0 : Bool), v = .bool r0 /\ Qr = [] /\ Q r0 := by
 have hnf := hf.ilen; subst hnf; refine Jh <| Jf (vs := [.agg #[nI Pf, nI Mf, nS Af mf kf], nI x]) [4] XF33 rfl rfl rfl rfl ?_; have hS := Jm w; unfold YB at hv; refine Jd 2 <| JC (z := 3) (cs := [nI Pf, nI Mf, nS Af mf kf]) hS rfl rfl rfl rfl ?_; intro g11 w12 hS; refine Jc 2 <| Js ?_; obtain ⟨r16, o18, hv⟩ := hv; obtain ⟨r21, o23, hv⟩ := hv; obtain ⟨o25, hv⟩ := hv; refine Ju 8 [⟨[], [2], false⟩, ⟨[], [1], true⟩, ⟨[0, 1], [], false⟩, ⟨[], [2], false⟩, ⟨[3], [], false⟩, ⟨[4], [], true⟩, ⟨[2, 5], [], true⟩, ⟨[6], [], true⟩] [(5, .agg #[nI Pf, nI Mf, nS Af mf kf]), (6, nI x), (7, nI r16), (8, .agg #[nI Pf, nI Mf, nS Af mf kf]), (9, nI r21), (10, nI (r21 - 1)), (11, .bool (decide (r16 = (r21 - 1)))), (4, .bool (decide (r16 = (r21 - 1))))] Try.mixed (by kernel_rfl) rfl rfl ?_ ?_
 .refine ⟨og hS fun _ _ hS => JF 0 JJ JM hS rfl ⟨rfl, rfl⟩ rfl <| Ja ⟨rfl, Je _⟩, oD, ?_, og hS fun _ _ hS => JF 0 JJ JM hS rfl ⟨rfl, rfl⟩ rfl <| Ja ⟨rfl, Je _⟩, ?_, fun _ _ _ => WL.sub (r := (r21 - 1)) rfl rfl (wr o25) rfl <| Ja ⟨rfl, rfl⟩, oD, oD, trivial⟩
  .intro w15 hE RR; have hS := hS.grow (hE rfl); refine WL.call XF46 rfl XN46 rfl rfl (JB (Jcr (hS.ro hf) o18)) ?_; rintro _ w17 ⟨_, hGw17, hRww17, hNww17, r16q, rfl, rfl, he⟩; subst he; exact Ja ⟨rfl, hGw17⟩
  intro w20 hE RR; have hS := hS.grow (hE rfl); refine WL.call Jda rfl Jer rfl rfl (JB (Qd (hS.ro hf) o23)) ?_; rintro _ w22 ⟨_, hGw22, hRww22, hNww22, r21q, rfl, rfl, he⟩; subst he; exact Ja ⟨rfl, hGw22⟩
 intro w28 hT; have hS := hS.grow hT; refine JQ <| W.ret <| ⟨_, rfl, Fin.nil ?_⟩
 exact (hS.pick [] rfl).fin rfl ⟨(decide (r16 = (r21 - 1))), rfl, rfl, hv⟩
def Ym (Pf : Int) (Mf : Int) (mf : LI) (x : Int) (y : Int) (Q : Int × Int -> Prop) : Prop :=
  Zl Pf Mf mf x (fun r14 => Zl Pf Mf mf y (fun r16 => ((r14 = 0) -> (Q ((0 : Int), (7 : Int)))) /\ (¬ (r14 = 0) -> (((r16 = 0) -> (Q ((0 : Int), (7 : Int)))) /\ (¬ (r16 = 0) -> (∃ (I25 : Int -> Int -> Prop) (μ26 : Int -> Int -> Nat), I25 1 (0 : Int) /\ ∀ (z23 : Int) (z24 : Int), (I25 z23 z24 -> (J1 Pf Mf mf (fun r29 => ((z24 < r29) -> (((z23 = r16) -> (Q (z24, (0 : Int)))) /\ (¬ (z23 = r16) -> (YX Pf Mf mf z23 r14 (fun r33 => (I64 (z24 + 1)) /\ (I25 r33 (z24 + 1) /\ μ26 r33 (z24 + 1) < μ26 z23 z24)))))) /\ (¬ (z24 < r29) -> (Q ((0 : Int), (11 : Int)))))))))))))
theorem Jbw {w : World} {Q : Int × Int -> Prop} {Pf : Int} {Mf : Int} {mf : LI} {x : Int} {y : Int} {Bf : Nat} {Af : Option Addr} {nf kf : Nat} (hf : Rd Bf w 1 Af nf kf (is mf)) (hv : Ym Pf Mf mf x y Q) :
   Calls Try.prog 8 #[.agg #[.int .i64 Pf, .int .i64 Mf, .slice Af nf kf], .int .i64 x, .int .i64 y] w <| Rt w fun v Qr => ∃ (r0 : Int) (r1 : Int), v = .tuple #[.int .i64 r0, .int .i64 r1] /\ Qr = [] /\ Q (r0, r1) := by
 have hnf := hf.ilen; subst hnf; refine Jh <| Jf (vs := [.agg #[nI Pf, nI Mf, nS Af mf kf], nI x, nI y]) [6, 7] XF8 rfl rfl rfl rfl ?_; have hS := Jm w; unfold Ym at hv; refine Jd 2 <| JC (z := 3) (cs := [nI Pf, nI Mf, nS Af mf kf]) hS rfl rfl rfl rfl ?_; intro g11 w12 hS; refine Jc 3 <| Jd 2 <| JF 0 JJ JM hS rfl ⟨rfl, rfl⟩ rfl <| Jl rfl rfl <| SL.call hS (Zu (hS.ro hf) hv) Jf6 rfl Jik rfl rfl ?_; rintro _ _ w13 ⟨r14, rfl, rfl, hv⟩ hGw13 hS; have hS := hS.n0; refine Jc 2 <| Jd 2 <| JF 0 JJ JM hS rfl ⟨rfl, rfl⟩ rfl <| Jl rfl rfl <| SL.call hS (Zu (hS.ro hf) hv) Jf6 rfl Jik rfl rfl ?_; rintro _ _ w15 ⟨r16, rfl, rfl, hv⟩ hGw15 hS; have hS := hS.n0; refine Jc 2 <| Jd 5 <| Jl rfl rfl ?_; by_cases g17 : r14 = 0
 .have hv := hv.1 g17; rw [decide_eq_true g17]; refine Jc 4 <| JI rfl <| Jd 5 <| W.ret <| ⟨_, rfl, Fin.nil ?_⟩
  exact (hS.pick [] rfl).fin rfl ⟨(0 : Int), (7 : Int), rfl, rfl, hv⟩
 have hv := hv.2 g17; rw [decide_eq_false g17]; refine Jc 6 <| Jg rfl (fun c18 => ?_) (fun c18 => ?_)
 .have hv := hv.1 (oT c18); refine Jd 5 <| W.ret <| ⟨_, rfl, Fin.nil ?_⟩
  exact (hS.pick [] rfl).fin rfl ⟨(0 : Int), (7 : Int), rfl, rfl, hv⟩
 have hv := hv.2 (oF c18); refine Jj <| Jd 9 <| W.block ?_; obtain ⟨I25, μ26, hv, hk35⟩ := hv; refine Jy (σ := Int × Int) (fun q w1 => match q with | (z23, z24) => I25 z23 z24 /\ St TT w none w1 [.row 24 3 (nA g11) 1 1 [nI Pf, nI Mf, nS Af mf kf]]) (fun (z23, z24) => [(1, nI r14), (2, nI r16), (3, nP g11), (6, nI 0), (7, nI 0), (8, nI z23), (9, nI z24)]) (fun (z23, z24) => μ26 z23 z24) ((1 : Int), (0 : Int)) ⟨hv, hS⟩ ⟨rfl, rfl, rfl, rfl, rfl, rfl, rfl, trivial⟩ ?_; rintro ⟨z23, z24⟩ w27 ⟨hv, hS⟩; have hv := hk35 z23 z24 hv; refine Jd 4 <| JF 0 JJ JM hS rfl ⟨rfl, rfl⟩ rfl <| SL.call hS (Qd (hS.ro hf) hv) Jda rfl Jer rfl rfl ?_; rintro _ _ w28 ⟨r29, rfl, rfl, hv⟩ hGw28 hS; have hS := hS.n0; refine Jc 2 <| Jg rfl (fun c30 => ?_) (fun c30 => ?_)
 .have hv := hv.1 (oT c30); refine Jj <| Js <| W.block <| Jd 7 <| Jg rfl (fun c31 => ?_) (fun c31 => ?_)
  .have hv := hv.1 (oT c31); refine Jd 6 <| W.ret <| ⟨_, rfl, Fin.nil ?_⟩
   exact (hS.pick [] rfl).fin rfl ⟨z24, (0 : Int), rfl, rfl, hv⟩
  have hv := hv.2 (oF c31); refine Jj <| Jw <| JF 0 JJ JM hS rfl ⟨rfl, rfl⟩ rfl <| Jc 2 <| SL.call hS (Z5 (hS.ro hf) hv) XF12 rfl XN12 rfl rfl ?_; rintro _ _ w32 ⟨r33, rfl, rfl, hv⟩ hGw32 hS; have hS := hS.n0; refine Jc 2 <| Jd 2 ?_; obtain ⟨o34, hv⟩ := hv; refine WL.add (r := (z24 + 1)) rfl rfl (wr o34) rfl <| Jc 2 ?_; exact ⟨(r33, (z24 + 1)), sp rfl, hv.2, rfl, hv.1, hS⟩
 have hv := hv.2 (oF c30); refine Jt <| Jd 5 <| W.ret <| ⟨_, rfl, Fin.nil ?_⟩
 exact (hS.pick [] rfl).fin rfl ⟨(0 : Int), (11 : Int), rfl, rfl, hv⟩
def Zm (Pf : Int) (Mf : Int) (mf : LI) (x : Int) (Q : Int -> Prop) : Prop :=
  Zl Pf Mf mf x (fun r14 => ((r14 = 0) -> (Q 7)) /\ (¬ (r14 = 0) -> (YB Pf Mf mf x (fun r17 => (((!r17) = true) -> (Q 5)) /\ ((!r17) = false -> (Q 0))))))
theorem Jdx {w : World} {Q : Int -> Prop} {Pf : Int} {Mf : Int} {mf : LI} {x : Int} {Bf : Nat} {Af : Option Addr} {nf kf : Nat} (hf : Rd Bf w 1 Af nf kf (is mf)) (hv : Zm Pf Mf mf x Q) :
   Calls Try.prog 20 #[.agg #[.int .i64 Pf, .int .i64 Mf, .slice Af nf kf], .int .i64 x] w <| Rt w fun v Qr => ∃ (r0 : Int), v = .int .i64 r0 /\ Qr = [] /\ Q r0 := by
 have hnf := hf.ilen; subst hnf; refine Jh <| Jf (vs := [.agg #[nI Pf, nI Mf, nS Af mf kf], nI x]) [4] XF20 rfl rfl rfl rfl ?_; have hS := Jm w; unfold Zm at hv; refine Jd 2 <| JC (z := 3) (cs := [nI Pf, nI Mf, nS Af mf kf]) hS rfl rfl rfl rfl ?_; intro g11 w12 hS; refine Jc 2 <| Jd 3 <| JF 0 JJ JM hS rfl ⟨rfl, rfl⟩ rfl <| Jl rfl rfl <| SL.call hS (Zu (hS.ro hf) hv) Jf6 rfl Jik rfl rfl ?_; rintro _ _ w13 ⟨r14, rfl, rfl, hv⟩ hGw13 hS; have hS := hS.n0; refine Jc 2 <| Jg rfl (fun c15 => ?_) (fun c15 => ?_)
 .have hv := hv.1 (oT c15); refine Jd 4 <| W.ret <| ⟨_, rfl, Fin.nil ?_⟩
  exact (hS.pick [] rfl).fin rfl ⟨(7 : Int), rfl, rfl, hv⟩
 have hv := hv.2 (oF c15); refine Jj <| Jd 3 <| JF 0 JJ JM hS rfl ⟨rfl, rfl⟩ rfl <| Jl rfl rfl <| SL.call hS (Jfc (hS.ro hf) hv) XF33 rfl XN33 rfl rfl ?_; rintro _ _ w16 ⟨r17, rfl, rfl, hv⟩ hGw16 hS; have hS := hS.n0; refine Jc 2 <| Jg rfl (fun c18 => ?_) (fun c18 => ?_)
 .have hv := hv.1 (c18); refine Jd 4 <| W.ret <| ⟨_, rfl, Fin.nil ?_⟩
  exact (hS.pick [] rfl).fin rfl ⟨(5 : Int), rfl, rfl, hv⟩
 have hv := hv.2 (c18); refine Jj <| Jd 4 <| W.ret <| ⟨_, rfl, Fin.nil ?_⟩
 exact (hS.pick [] rfl).fin rfl ⟨(0 : Int), rfl, rfl, hv⟩
end Go.Proofs.Ytbdmnolcmeojbaa
namespace Go.Proofs.Ytbdmnolcmeojbaa
open Go.RowKit
def Jdg (Pf : Int) (Mf : Int) (mf : LI) (Q : Option GFv × Bool -> Prop) : Prop :=
  Jhf Pf Mf mf (fun q => match q with | (none, r15) => Yn Pf Mf mf (fun r23 => ((r23 ≠ 0) -> (Q (none, (decide (r15 ≠ 0))))) /\ (¬ (r23 ≠ 0) -> (((r15 ≠ 0) -> (Q (none, false))) /\ (¬ (r15 ≠ 0) -> (Q (none, false)))))) | (some F16, r15) => Yn Pf Mf mf (fun r27 => ((r27 ≠ 0) -> (Q (none, (decide (r15 ≠ 0))))) /\ (¬ (r27 ≠ 0) -> (((r15 ≠ 0) -> (Q (none, false))) /\ (¬ (r15 ≠ 0) -> (Q (some F16, true)))))))
theorem Jlj {w : World} {Q : Option GFv × Bool -> Prop} {Pf : Int} {Mf : Int} {mf : LI} {Bf : Nat} {Af : Option Addr} {nf kf : Nat} (hf : Rd Bf w 1 Af nf kf (is mf)) (hv : Jdg Pf Mf mf Q) :
  Calls Try.prog 18 #[.agg #[.int .i64 Pf, .int .i64 Mf, .slice Af nf kf]] w <| Rt w fun v Qr => ∃ (o : Option GFv) (b2 : Bool), Q (o, b2) /\ match o with | none => v = .tuple #[.pointer none, .bool true, .bool b2] /\ Qr = [] | some F => ∃ (ad : Addr) (lo hi : Nat), v = .tuple #[.pointer (some ad), .bool false, .bool true] /\ Qr = [.ch lo hi (fun wz => GFX lo hi wz ad F)] := by
 have hnf := hf.ilen; subst hnf; refine Jh <| Jf (vs := [.agg #[nI Pf, nI Mf, nS Af mf kf]]) [2, 3, 4] XF18 rfl rfl rfl rfl ?_; have hS := Jm w; unfold Jdg at hv; refine Jd 2 <| JC (z := 3) (cs := [nI Pf, nI Mf, nS Af mf kf]) hS rfl rfl rfl rfl ?_; intro g11 w12 hS; refine Jc 4 <| Jd 2 <| JF 0 JJ JM hS rfl ⟨rfl, rfl⟩ rfl <| SL.call hS (ok_New (hS.ro hf) hv) XF27 rfl XN27 rfl rfl ?_; rintro _ _ w14 ⟨o, r15, hv, hK⟩ hGw14 hS; cases o with
 | none =>
  obtain ⟨rfl, rfl⟩ := hK
  change St _ _ _ _ [_] at hS
  refine Jc 6 <| Jd 3 <| JF 0 JJ JM hS rfl ⟨rfl, rfl⟩ rfl <| SL.call hS (Jby (hS.ro hf) hv) XF28 rfl XN28 rfl rfl ?_; rintro _ _ w22 ⟨r23, rfl, rfl, hv⟩ hGw22 hS; have hS := hS.n0; refine Jc 2 <| Jg rfl (fun c24 => ?_) (fun c24 => ?_)
  .have hv := hv.1 (oT c24); refine Jd 8 <| W.ret <| ⟨_, rfl, Fin.nil ?_⟩
   exact (hS.pick [] rfl).fin rfl ⟨none, (decide (r15 ≠ 0)), hv, rfl, rfl⟩
  have hv := hv.2 (oF c24); refine Jj <| Jd 5 <| Jl rfl rfl ?_; by_cases g25 : r15 ≠ 0
  .have hv := hv.1 g25; rw [decide_eq_true g25]; refine Jc 4 <| JI rfl <| Jd 6 <| W.ret <| ⟨_, rfl, Fin.nil ?_⟩
   exact (hS.pick [] rfl).fin rfl ⟨none, false, hv, rfl, rfl⟩
  have hv := hv.2 g25; rw [decide_eq_false g25]; refine Jc 3 <| Ja7 Jij rfl rfl rfl rfl <| Jc 2 <| JI rfl <| Jd 6 <| W.ret <| ⟨_, rfl, Fin.nil ?_⟩
  exact (hS.pick [] rfl).fin rfl ⟨none, false, hv, rfl, rfl⟩
 | some F16 =>
  obtain ⟨ad17, lo18, hi19, rfl, rfl⟩ := hK
  change St _ _ _ _ [_, _] at hS
  refine Jc 6 <| Jd 3 <| JF 1 JJ JM hS rfl ⟨rfl, rfl⟩ rfl <| SL.call hS (Jby (hS.ro hf) hv) XF28 rfl XN28 rfl rfl ?_; rintro _ _ w26 ⟨r27, rfl, rfl, hv⟩ hGw26 hS; have hS := hS.n0; refine Jc 2 <| Jg rfl (fun c28 => ?_) (fun c28 => ?_)
  .have hv := hv.1 (oT c28); refine Jd 8 <| W.ret <| ⟨_, rfl, Fin.nil ?_⟩
   exact (hS.pick [] rfl).fin rfl ⟨none, (decide (r15 ≠ 0)), hv, rfl, rfl⟩
  have hv := hv.2 (oF c28); refine Jj <| Jd 5 <| Jl rfl rfl ?_; by_cases g29 : r15 ≠ 0
  .have hv := hv.1 g29; rw [decide_eq_true g29]; refine Jc 4 <| JI rfl <| Jd 6 <| W.ret <| ⟨_, rfl, Fin.nil ?_⟩
   exact (hS.pick [] rfl).fin rfl ⟨none, false, hv, rfl, rfl⟩
  have hv := hv.2 g29; rw [decide_eq_false g29]; refine Jc 3 <| Ja7 Jij rfl rfl rfl rfl <| Jc 2 <| J9 rfl <| Jj <| Jd 7 <| W.ret <| ⟨_, rfl, Fin.nil ?_⟩
  exact (hS.pick [0] rfl).fin rfl ⟨some F16, true, hv, _, _, _, rfl, rfl⟩
def YA (Pf : Int) (Mf : Int) (mf : LI) (x : Int) (Q : Option (Int × LI × LI × LI) × Bool -> Prop) : Prop :=
  Jdg Pf Mf mf (fun q => match q with | (none, r15) => Q (none, r15) | (some F16, _) => Jde F16 x (fun q => match q with | (none, r24) => (r24 ≠ 0) -> (Zm Pf Mf mf x (fun r44 => ((r44 ≠ 0) -> (((r24 = r44) -> (∃ (r53 : Bool), QA F16 (1 : Int) (fun q => q = r53) /\ (∃ (r58 : Int), J1 Pf Mf mf (fun q => q = r58) /\ (Q (none, (r53 == (decide (r58 = 2)))))))) /\ (¬ (r24 = r44) -> (Q (none, false))))) /\ (¬ (r44 ≠ 0) -> (Q (none, false))))) | (some (b27, x28, x29, x30), _) => Zm Pf Mf mf x (fun r84 => ((r84 ≠ 0) -> ((((0 : Int) = r84) -> (∃ (r93 : Bool), QA F16 (1 : Int) (fun q => q = r93) /\ (∃ (r98 : Int), J1 Pf Mf mf (fun q => q = r98) /\ (Q (none, (r93 == (decide (r98 = 2)))))))) /\ (¬ ((0 : Int) = r84) -> (Q (none, false))))) /\ (¬ (r84 ≠ 0) -> (Jdf b27 x28 x29 x30 (fun r124 => ((r124 ≠ x) -> (Q (none, false))) /\ (¬ (r124 ≠ x) -> (Q (some (b27, x28, x29, x30), true)))))))))
theorem Jan {w : World} {Q : Option (Int × LI × LI × LI) × Bool -> Prop} {Pf : Int} {Mf : Int} {mf : LI} {x : Int} {Bf : Nat} {Af : Option Addr} {nf kf : Nat} (hf : Rd Bf w 1 Af nf kf (is mf)) (hv : YA Pf Mf mf x Q) :
  Calls Try.prog 6 #[.agg #[.int .i64 Pf, .int .i64 Mf, .slice Af nf kf], .int .i64 x] w <| Rt w fun v Qr => ∃ (o : Option (Int × LI × LI × LI)) (e2 : Bool), Q (o, e2) /\ match o with | none => v = .tuple #[.pointer none, .bool true, .bool e2] /\ Qr = [] | some (b, x0, x1, x2) => ∃ (g : Nat) (A0 A1 A2 : Option Addr) (c0 c1 c2 m0 m1 m2 : Nat), v = .tuple #[.pointer (some ⟨g, 0, none⟩), .bool false, .bool true] /\ Qr = [.row 48 4 (some ⟨g, 0, none⟩) 1 1 [.int .i64 b, .slice A0 m0 c0, .slice A1 m1 c1, .slice A2 m2 c2], .row 3 1 A0 m0 c0 (is x0), .row 3 1 A1 m1 c1 (is x1), .row 3 1 A2 m2 c2 (is x2)] := by
 have hnf := hf.ilen; subst hnf; refine Jh <| Jf (vs := [.agg #[nI Pf, nI Mf, nS Af mf kf], nI x]) [4, 5, 6] XF6 rfl rfl rfl rfl ?_; have hS := Jm w; unfold YA at hv; refine Jd 2 <| JC (z := 3) (cs := [nI Pf, nI Mf, nS Af mf kf]) hS rfl rfl rfl rfl ?_; intro g11 w12 hS; refine Jc 4 <| Jd 2 <| JF 0 JJ JM hS rfl ⟨rfl, rfl⟩ rfl <| SL.call hS (Jlj (hS.ro hf) hv) XF18 rfl XN18 rfl rfl ?_; rintro _ _ w14 ⟨o, r15, hv, hK⟩ hGw14 hS; cases o with
 | none =>
  obtain ⟨rfl, rfl⟩ := hK
  change St _ _ _ _ [_] at hS
  refine Jc 8 <| Jd 5 <| JI rfl <| Jd 8 <| W.ret <| ⟨_, rfl, Fin.nil ?_⟩
  exact (hS.pick [] rfl).fin rfl ⟨none, r15, hv, rfl, rfl⟩
 | some F16 =>
  obtain ⟨ad17, lo18, hi19, rfl, rfl⟩ := hK
  change St _ _ _ _ [_, _] at hS
  refine Jc 8 <| Jd 5 <| J9 rfl <| Jj <| Jd 4 <| SL.call hS (Jlg (Jdi (hS.chunk (i := 0) rfl)) hv) XF19 rfl XN19 rfl rfl ?_; rintro _ _ w23 ⟨o, r24, hv, hK⟩ hGw23 hS; cases o with
  | none =>
   obtain ⟨hn25, rfl, rfl⟩ := hK; have hv := hv hn25; have hS := hS.n0; refine Jc 6 <| Jd 2 <| JF 1 JJ JM hS rfl ⟨rfl, rfl⟩ rfl <| Jl rfl rfl <| SL.call hS (Jdx (hS.ro hf) hv) XF20 rfl XN20 rfl rfl ?_; rintro _ _ w43 ⟨r44, rfl, rfl, hv⟩ hGw43 hS; have hS := hS.n0; refine Jc 2 <| Jd 6 <| Jg rfl (fun c45 => ?_) (fun c45 => ?_)
   .have hv := hv.1 (oT c45); refine Js ?_; by_cases g46 : r24 = r44
    .have hv := hv.1 g46; obtain ⟨r53, o55, hv⟩ := hv; obtain ⟨r58, o60, hv⟩ := hv; refine Ju 14 [⟨[], [8], true⟩, ⟨[], [9], true⟩, ⟨[0, 1], [], true⟩, ⟨[2], [], true⟩, ⟨[3], [7], true⟩, ⟨[3, 4], [], false⟩, ⟨[3], [2], false⟩, ⟨[3, 6], [], false⟩, ⟨[3, 7], [], true⟩, ⟨[3, 5, 8], [], true⟩, ⟨[3, 9], [], true⟩, ⟨[], [], true⟩, ⟨[], [], true⟩, ⟨[10], [], true⟩] [(30, nI r24), (31, nI r44), (32, .bool true), (33, .bool true), (34, .pointer (some ad17)), (35, .bool r53), (36, .agg #[nI Pf, nI Mf, nS Af mf kf]), (37, nI r58), (38, .bool (decide (r58 = 2))), (39, .bool (r53 == (decide (r58 = 2)))), (40, .bool (r53 == (decide (r58 = 2)))), (4, .pointer Option.none), (5, .bool true), (6, .bool (r53 == (decide (r58 = 2))))] Try.mixed (by kernel_rfl) rfl rfl ?_ ?_
     .refine ⟨oD, oD, ?_, oD, oD, ?_, og hS fun _ _ hS => WL.take rfl <| JF 1 JJ JM hS rfl ⟨rfl, rfl⟩ rfl <| Ja ⟨rfl, Je _⟩, ?_, oD, fun _ _ _ => WL.take rfl <| Jkt (r := (r53 == (decide (r58 = 2)))) rfl rfl XU4 rfl rfl <| Ja ⟨rfl, rfl⟩, oD, oD, oD, oD, trivial⟩
      .intro w49 hE RR; refine Ql rfl rfl rfl ?_; rw [decide_eq_true g46]; exact Ja ⟨rfl, rfl⟩
      .intro w52 hE RR; have hS := hS.grow (hE rfl); refine WL.take rfl <| WL.call XF21 rfl XN21 rfl rfl (JB (Zv (Jdi (hS.chunk (i := 0) rfl)) o55)) ?_; rintro _ w54 ⟨_, hGw54, hRww54, hNww54, r53q, rfl, rfl, he⟩; subst he; exact Ja ⟨rfl, hGw54⟩
      intro w57 hE RR; have hS := hS.grow (hE rfl); refine WL.take rfl <| WL.call Jda rfl Jer rfl rfl (JB (Qd (hS.ro hf) o60)) ?_; rintro _ w59 ⟨_, hGw59, hRww59, hNww59, r58q, rfl, rfl, he⟩; subst he; exact Ja ⟨rfl, hGw59⟩
     intro w67 hT; have hS := hS.grow hT; refine JQ <| W.ret <| ⟨_, rfl, Fin.nil ?_⟩
     exact (hS.pick [] rfl).fin rfl ⟨none, (r53 == (decide (r58 = 2))), hv, rfl, rfl⟩
    have hv := hv.2 g46; refine Ju 14 [⟨[], [8], true⟩, ⟨[], [9], true⟩, ⟨[0, 1], [], true⟩, ⟨[2], [], true⟩, ⟨[3], [7], true⟩, ⟨[3, 4], [], false⟩, ⟨[3], [2], false⟩, ⟨[3, 6], [], false⟩, ⟨[3, 7], [], true⟩, ⟨[3, 5, 8], [], true⟩, ⟨[3, 9], [], true⟩, ⟨[], [], true⟩, ⟨[], [], true⟩, ⟨[10], [], true⟩] [(30, nI r24), (31, nI r44), (32, .bool false), (33, .bool false), (34, undef), (35, undef), (36, undef), (37, undef), (38, undef), (39, undef), (40, .bool false), (4, .pointer Option.none), (5, .bool true), (6, .bool false)] Try.mixed (by kernel_rfl) rfl rfl ?_ ?_
    .refine ⟨oD, oD, ?_, oD, oD, oD, oD, oD, oD, oD, oD, oD, oD, oD, trivial⟩; intro w70 hE RR; refine Ql rfl rfl rfl ?_; rw [decide_eq_false g46]; exact Ja ⟨rfl, rfl⟩
    intro w82 hT; have hS := hS.grow hT; refine JQ <| W.ret <| ⟨_, rfl, Fin.nil ?_⟩
    exact (hS.pick [] rfl).fin rfl ⟨none, false, hv, rfl, rfl⟩
   have hv := hv.2 (oF c45); refine Jj <| Jd 4 <| Jdd rfl rfl rfl ?_; rw [decide_eq_true hn25]; refine Jc 11 <| JI rfl <| Jd 6 <| W.ret <| ⟨_, rfl, Fin.nil ?_⟩
   exact (hS.pick [] rfl).fin rfl ⟨none, false, hv, rfl, rfl⟩
  | some t_ =>
   obtain ⟨b27, x28, x29, x30⟩ := t_; obtain ⟨rfl, g26, A31, A32, A33, k34, k35, k36, m37, m38, m39, rfl, rfl⟩ := hK; have hS := hS.n4; refine Jc 6 <| Jd 2 <| JF 5 JJ JM hS rfl ⟨rfl, rfl⟩ rfl <| Jl rfl rfl <| SL.call hS (Jdx (hS.ro hf) hv) XF20 rfl XN20 rfl rfl ?_; rintro _ _ w83 ⟨r84, rfl, rfl, hv⟩ hGw83 hS; have hS := hS.n0; refine Jc 2 <| Jd 6 <| Jg rfl (fun c85 => ?_) (fun c85 => ?_)
   .have hv := hv.1 (oT c85); refine Js ?_; by_cases g86 : (0 : Int) = r84
    .have hv := hv.1 g86; obtain ⟨r93, o95, hv⟩ := hv; obtain ⟨r98, o100, hv⟩ := hv; refine Ju 14 [⟨[], [8], true⟩, ⟨[], [9], true⟩, ⟨[0, 1], [], true⟩, ⟨[2], [], true⟩, ⟨[3], [7], true⟩, ⟨[3, 4], [], false⟩, ⟨[3], [2], false⟩, ⟨[3, 6], [], false⟩, ⟨[3, 7], [], true⟩, ⟨[3, 5, 8], [], true⟩, ⟨[3, 9], [], true⟩, ⟨[], [], true⟩, ⟨[], [], true⟩, ⟨[10], [], true⟩] [(30, nI 0), (31, nI r84), (32, .bool true), (33, .bool true), (34, .pointer (some ad17)), (35, .bool r93), (36, .agg #[nI Pf, nI Mf, nS Af mf kf]), (37, nI r98), (38, .bool (decide (r98 = 2))), (39, .bool (r93 == (decide (r98 = 2)))), (40, .bool (r93 == (decide (r98 = 2)))), (4, .pointer Option.none), (5, .bool true), (6, .bool (r93 == (decide (r98 = 2))))] Try.mixed (by kernel_rfl) rfl rfl ?_ ?_
     .refine ⟨oD, oD, ?_, oD, oD, ?_, og hS fun _ _ hS => WL.take rfl <| JF 5 JJ JM hS rfl ⟨rfl, rfl⟩ rfl <| Ja ⟨rfl, Je _⟩, ?_, oD, fun _ _ _ => WL.take rfl <| Jkt (r := (r93 == (decide (r98 = 2)))) rfl rfl XU4 rfl rfl <| Ja ⟨rfl, rfl⟩, oD, oD, oD, oD, trivial⟩
      .intro w89 hE RR; refine Ql rfl rfl rfl ?_; rw [decide_eq_true g86]; exact Ja ⟨rfl, rfl⟩
      .intro w92 hE RR; have hS := hS.grow (hE rfl); refine WL.take rfl <| WL.call XF21 rfl XN21 rfl rfl (JB (Zv (Jdi (hS.chunk (i := 4) rfl)) o95)) ?_; rintro _ w94 ⟨_, hGw94, hRww94, hNww94, r93q, rfl, rfl, he⟩; subst he; exact Ja ⟨rfl, hGw94⟩
      intro w97 hE RR; have hS := hS.grow (hE rfl); refine WL.take rfl <| WL.call Jda rfl Jer rfl rfl (JB (Qd (hS.ro hf) o100)) ?_; rintro _ w99 ⟨_, hGw99, hRww99, hNww99, r98q, rfl, rfl, he⟩; subst he; exact Ja ⟨rfl, hGw99⟩
     intro w107 hT; have hS := hS.grow hT; refine JQ <| W.ret <| ⟨_, rfl, Fin.nil ?_⟩
     exact (hS.pick [] rfl).fin rfl ⟨none, (r93 == (decide (r98 = 2))), hv, rfl, rfl⟩
    have hv := hv.2 g86; refine Ju 14 [⟨[], [8], true⟩, ⟨[], [9], true⟩, ⟨[0, 1], [], true⟩, ⟨[2], [], true⟩, ⟨[3], [7], true⟩, ⟨[3, 4], [], false⟩, ⟨[3], [2], false⟩, ⟨[3, 6], [], false⟩, ⟨[3, 7], [], true⟩, ⟨[3, 5, 8], [], true⟩, ⟨[3, 9], [], true⟩, ⟨[], [], true⟩, ⟨[], [], true⟩, ⟨[10], [], true⟩] [(30, nI 0), (31, nI r84), (32, .bool false), (33, .bool false), (34, undef), (35, undef), (36, undef), (37, undef), (38, undef), (39, undef), (40, .bool false), (4, .pointer Option.none), (5, .bool true), (6, .bool false)] Try.mixed (by kernel_rfl) rfl rfl ?_ ?_
    .refine ⟨oD, oD, ?_, oD, oD, oD, oD, oD, oD, oD, oD, oD, oD, oD, trivial⟩; intro w110 hE RR; refine Ql rfl rfl rfl ?_; rw [decide_eq_false g86]; exact Ja ⟨rfl, rfl⟩
    intro w122 hT; have hS := hS.grow hT; refine JQ <| W.ret <| ⟨_, rfl, Fin.nil ?_⟩
    exact (hS.pick [] rfl).fin rfl ⟨none, false, hv, rfl, rfl⟩
   have hv := hv.2 (oF c85); refine Jj <| Jd 9 <| Ja7 XU27 rfl rfl rfl rfl <| Jc 5 <| SL.call hS (Jjq (hS.rd (i := 1) rfl) (hS.rd (i := 2) rfl) (hS.rd (i := 3) rfl) (hS.rd (i := 0) rfl) hv) XF22 rfl XN22 rfl rfl ?_; rintro _ _ w123 ⟨r124, rfl, rfl, hv⟩ hGw123 hS; have hS := hS.n0; refine Jc 6 <| Jg rfl (fun c125 => ?_) (fun c125 => ?_)
   .have hv := hv.1 (oT c125); refine Jd 6 <| W.ret <| ⟨_, rfl, Fin.nil ?_⟩
    exact (hS.pick [] rfl).fin rfl ⟨none, false, hv, rfl, rfl⟩
   have hv := hv.2 (oF c125); refine Jj <| Jd 7 <| W.ret <| ⟨_, rfl, Fin.nil ?_⟩
   exact (hS.pick [0, 1, 2, 3] rfl).fin rfl ⟨some (b27, x28, x29, x30), true, hv, g26, A31, A32, A33, k34, k35, k36, m37, m38, m39, rfl, rfl⟩
end Go.Proofs.Ytbdmnolcmeojbaa
namespace Go.Proofs.Ytbdmnolcmeojbaa
open Go.RowKit
end Go.Proofs.Ytbdmnolcmeojbaa
namespace Go.Proofs.Ytbdmnolcmeojbaa
end Go.Proofs.Ytbdmnolcmeojbaa
namespace Go.Proofs.Ytbdmnolcmeojbaa
abbrev Vec := Nat -> Int
def tX (m : Nat) (c : Vec) (v : Vec) : Vec := fun i => if i < m then (if i = 0 then 0 else v (i - 1)) - c i * v (m - 1) else 0
def Jz (u v : Vec) : Vec := fun i => u i + v i
def vsm (a : Int) (v : Vec) : Vec := fun i => a * v i
def vz : Vec := fun _ => 0
def e0 : Vec := fun i => if i = 0 then 1 else 0
def tXn (m : Nat) (c : Vec) : Nat -> Vec -> Vec
  | 0, v => v
  | n + 1, v => tX m c (tXn m c n v)
def opr (m : Nat) (c b : Vec) : Nat -> Vec -> Vec
  | 0, _ => vz
  | n + 1, v => Jz (opr m c b n v) (vsm (b n) (tXn m c n v))
def Qv (m : Nat) (c a b : Vec) : Vec := opr m c b m a
section
variable (m : Nat) (c : Vec)
theorem tX_add (u v : Vec) : tX m c (Jz u v) = Jz (tX m c u) (tX m c v) := by
 funext i; simp only [tX, Jz]; split
 .split <;> grind
 .rfl
theorem tX_sm (a : Int) (v : Vec) : tX m c (vsm a v) = vsm a (tX m c v) := by
 funext i; simp only [tX, vsm]; split
 .split <;> grind
 .grind
theorem tX_z : tX m c vz = vz := by funext i; simp [tX, vz]
theorem YO (u : Vec) : Jz u vz = u := by funext i; simp [Jz, vz]
theorem z_vadd (u : Vec) : Jz vz u = u := by funext i; simp [Jz, vz]
theorem Jbo (u v : Vec) : Jz u v = Jz v u := by funext i; simp only [Jz]; omega
theorem QY (u v w : Vec) : Jz (Jz u v) w = Jz u (Jz v w) := by funext i; simp only [Jz]; omega
theorem ZY (a : Int) (u v : Vec) : vsm a (Jz u v) = Jz (vsm a u) (vsm a v) := by funext i; simp only [Jz, vsm]; grind
theorem Jcb (a b : Int) (u : Vec) : vsm a (vsm b u) = vsm (a * b) u := by funext i; simp only [vsm]; grind
theorem Jgf (a : Int) : vsm a vz = vz := by funext i; simp [vsm, vz]
theorem Y5 (n : Nat) (u v : Vec) : tXn m c n (Jz u v) = Jz (tXn m c n u) (tXn m c n v) := by
 induction n with
 | zero => rfl
 | succ n ih => simp only [tXn, ih, tX_add]
theorem Zq (n : Nat) (a : Int) (v : Vec) : tXn m c n (vsm a v) = vsm a (tXn m c n v) := by
 induction n with
 | zero => rfl
 | succ n ih => simp only [tXn, ih, tX_sm]
theorem Jdn (n : Nat) : tXn m c n vz = vz := by
 induction n with
 | zero => rfl
 | succ n ih => simp only [tXn, ih, tX_z]
theorem Ji9 (n : Nat) (v : Vec) : tXn m c n (tX m c v) = tX m c (tXn m c n v) := by
 induction n with
 | zero => rfl
 | succ n ih => simp only [tXn, ih]
theorem Z4 (n k : Nat) (v : Vec) : tXn m c n (tXn m c k v) = tXn m c (n + k) v := by
 induction n with
 | zero => simp [tXn]
 | succ n ih => rw [Nat.succ_add]; simp only [tXn, ih]
variable (b : Vec)
theorem Jgs (n : Nat) (u v : Vec) : opr m c b n (Jz u v) = Jz (opr m c b n u) (opr m c b n v) := by
 induction n with
 | zero => simp [opr, YO]
 | succ n ih => simp only [opr, ih, Y5, ZY]; funext i; simp only [Jz]; omega
theorem Jjo (n : Nat) (a : Int) (v : Vec) : opr m c b n (vsm a v) = vsm a (opr m c b n v) := by
 induction n with
 | zero => simp [opr, Jgf]
 | succ n ih => simp only [opr, ih, Zq, ZY, Jcb]; rw [Int.mul_comm (b n) a]
theorem opr_z (n : Nat) : opr m c b n vz = vz := by
 induction n with
 | zero => rfl
 | succ n ih => simp only [opr, ih, Jdn, Jgf, YO]
theorem Jgr (n k : Nat) (v : Vec) : opr m c b n (tXn m c k v) = tXn m c k (opr m c b n v) := by
 induction n with
 | zero => simp [opr, Jdn]
 | succ n ih => simp only [opr, ih, Y5, Zq, Z4]; rw [Nat.add_comm n k]
theorem Jdu (d : Vec) (n k : Nat) (v : Vec) : opr m c b n (opr m c d k v) = opr m c d k (opr m c b n v) := by
 induction n with
 | zero => simp only [opr, opr_z]
 | succ n ih => simp only [opr, ih, Jgs, Jjo, Jgr]
theorem Jjn (d : Vec) (n : Nat) (v : Vec) : opr m c (Jz b d) n v = Jz (opr m c b n v) (opr m c d n v) := by
 induction n with
 | zero => simp [opr, YO]
 | succ n ih => simp only [opr, ih]; funext i; simp only [Jz, vsm]; grind
end
def vei (k : Nat) : Vec := fun i => if i = k then 1 else 0
theorem Je5 {m : Nat} {c : Vec} : ∀ {k : Nat}, k < m -> tXn m c k e0 = vei k
 | 0, _ => rfl
 | k + 1, h => by
  have ih : tXn m c k e0 = vei k := Je5 (by omega); simp only [tXn, ih]; funext i; simp only [tX, vei]; split
  .rw [if_neg (show ¬ m - 1 = k by omega)]; by_cases h0 : i = 0
   .subst h0; simp
   .simp only [h0, if_false]; by_cases h1 : i = k + 1
    .subst h1; simp
    .rw [if_neg (by omega), if_neg h1]; simp
  .rw [if_neg (by omega)]
theorem Jco {m : Nat} {c a : Vec} : ∀ {n : Nat}, n <= m -> ∀ i, opr m c a n e0 i = if i < n then a i else 0
  | 0, _, i => by simp [opr, vz]
  | n + 1, h, i => by
    simp only [opr, Jz, vsm]
    rw [Jco (n := n) (by omega) i, Je5 (by omega)]
    simp only [vei]
    by_cases h1 : i = n
    . subst h1; simp
    . by_cases h2 : i < n
      . simp [h2, h1, show i < n + 1 by omega]
      . simp [h2, h1, show ¬ i < n + 1 by omega]
def Sup (m : Nat) (v : Vec) : Prop := ∀ i, m <= i -> v i = 0
theorem Yf {m : Nat} {c a : Vec} (h : Sup m a) : opr m c a m e0 = a := by
 funext i; rw [Jco (Nat.le_refl m)]; split
 .rfl
 .exact (h i (by omega)).symm
theorem Sup.z {m : Nat} : Sup m vz := fun _ _ => rfl
theorem Sup.tX {m : Nat} {c v : Vec} : Sup m (tX m c v) := fun i h => by simp [Go.Proofs.Ytbdmnolcmeojbaa.tX, show ¬ i < m by omega]
theorem Sup.add {m : Nat} {u v : Vec} (hu : Sup m u) (hv : Sup m v) : Sup m (Jz u v) := fun i h => by simp [Jz, hu i h, hv i h]
theorem Sup.sm {m : Nat} {a : Int} {v : Vec} (hv : Sup m v) : Sup m (vsm a v) := fun i h => by simp [vsm, hv i h]
theorem Sup.tXn {m : Nat} {c v : Vec} (hv : Sup m v) : ∀ n, Sup m (tXn m c n v)
 | 0 => hv
 | _ + 1 => Sup.tX
theorem Sup.opr {m : Nat} {c b v : Vec} (hv : Sup m v) : ∀ n, Sup m (opr m c b n v)
 | 0 => Sup.z
 | n + 1 => (Sup.opr hv n).add (hv.tXn n).sm
theorem Yo {m : Nat} {c a b : Vec} (ha : Sup m a) (hb : Sup m b) : Qv m c a b = Qv m c b a := by
 unfold Qv
 calc opr m c b m a = opr m c b m (opr m c a m e0) := by rw [Yf ha]
  _ = opr m c a m (opr m c b m e0) := Jdu ..
  _ = opr m c a m b := by rw [Yf hb]
theorem Je1 {m : Nat} {c a b d : Vec} (ha : Sup m a) (hb : Sup m b) (hd : Sup m d) : Qv m c (Qv m c a b) d = Qv m c a (Qv m c b d) := by
 rw [Yo (a := a) (b := Qv m c b d) ha (Sup.opr hb m)]; show opr m c d m (opr m c b m a) = opr m c a m (opr m c d m b); rw [<- Jdu m c d a m m b]; show opr m c d m (Qv m c a b) = opr m c d m (Qv m c b a); rw [Yo ha hb]
theorem Jix {m : Nat} {c a b d : Vec} : Qv m c a (Jz b d) = Jz (Qv m c a b) (Qv m c a d) := Jjn ..
theorem Jiw {m : Nat} {c a : Vec} (hm : 0 < m) : Qv m c a e0 = a := by
 have key : ∀ n, 0 < n -> opr m c e0 n a = a := by
  intro n
  induction n with
  | zero => intro h; omega
  | succ n ih =>
   intro _; rcases Nat.eq_zero_or_pos n with h | h
   .subst h; funext i; simp [opr, e0, Jz, vsm, vz, tXn]
   .simp only [opr, ih h]; funext i; simp [e0, Jz, vsm, show n ≠ 0 by omega]
 exact key m hm
def vcg (p : Int) (u v : Vec) : Prop := ∀ i, u i % p = v i % p
section
variable {p : Int} {m : Nat} {c c' u u' v v' b b' : Vec}
theorem vcg.refl (u : Vec) : vcg p u u := fun _ => rfl
theorem vcg.symm (h : vcg p u v) : vcg p v u := fun i => (h i).symm
theorem vcg.trans {w : Vec} (h : vcg p u v) (k : vcg p v w) : vcg p u w := fun i => (h i).trans (k i)
theorem Zz {a a' d d' : Int} (h : a % p = a' % p) (k : d % p = d' % p) : (a * d) % p = (a' * d') % p := by
 rw [Int.mul_emod, h, k, <- Int.mul_emod]
theorem ZI {a a' d d' : Int} (h : a % p = a' % p) (k : d % p = d' % p) : (a + d) % p = (a' + d') % p := by
 rw [Int.add_emod, h, k, <- Int.add_emod]
theorem Je6 {a a' d d' : Int} (h : a % p = a' % p) (k : d % p = d' % p) : (a - d) % p = (a' - d') % p := by
 rw [Int.sub_emod, h, k, <- Int.sub_emod]
theorem vcg.add (h : vcg p u u') (k : vcg p v v') : vcg p (Jz u v) (Jz u' v') := fun i => ZI (h i) (k i)
theorem vcg.sm {a a' : Int} (ha : a % p = a' % p) (h : vcg p u u') : vcg p (vsm a u) (vsm a' u') := fun i => Zz ha (h i)
theorem vcg.tX (hc : vcg p c c') (h : vcg p u u') : vcg p (tX m c u) (tX m c' u') := fun i => by
 simp only [Go.Proofs.Ytbdmnolcmeojbaa.tX]; split
 .split
  .exact Je6 rfl (Zz (hc i) (h _))
  .exact Je6 (h _) (Zz (hc i) (h _))
 .rfl
theorem vcg.tXn (hc : vcg p c c') (h : vcg p u u') : ∀ n, vcg p (tXn m c n u) (tXn m c' n u')
 | 0 => h
 | n + 1 => vcg.tX hc (vcg.tXn hc h n)
theorem vcg.opr (hc : vcg p c c') (hb : vcg p b b') (h : vcg p u u') : ∀ n, vcg p (opr m c b n u) (opr m c' b' n u')
 | 0 => .refl _
 | n + 1 => (vcg.opr hc hb h n).add (vcg.sm (hb n) (vcg.tXn hc h n))
theorem vcg.mul (hc : vcg p c c') (h : vcg p u u') (hb : vcg p b b') : vcg p (Qv m c u b) (Qv m c' u' b') := vcg.opr hc hb h m
end
end Go.Proofs.Ytbdmnolcmeojbaa
namespace Go.Proofs.Ytbdmnolcmeojbaa
def dv (p x : Nat) : Vec := fun i => ((x / p ^ i % p : Nat) : Int)
def vl (p : Nat) : Nat -> Vec -> Int
  | 0, _ => 0
  | n + 1, v => v 0 + (p : Int) * vl p n (fun i => v (i + 1))
def Cn (p n : Nat) (v : Vec) : Prop := ∀ i, i < n -> 0 <= v i /\ v i < p
def nm (p m : Nat) (v : Vec) : Nat := (vl p m (fun i => v i % (p : Int))).toNat
theorem Yx (p x i : Nat) : dv p x (i + 1) = dv p (x / p) i := by
 simp only [dv]; rw [Nat.pow_succ', <- Nat.div_div_eq_div_mul]
theorem Q6 (p x : Nat) : dv p x 0 = ((x % p : Nat) : Int) := by simp [dv]
theorem Cn.tl {p n : Nat} {v : Vec} (h : Cn p (n + 1) v) : Cn p n (fun i => v (i + 1)) := fun i hi => h (i + 1) (by omega)
theorem Jgg {p : Nat} (hp : 0 < p) : ∀ {n : Nat} {v : Vec}, Cn p n v -> 0 <= vl p n v /\ vl p n v < ((p ^ n : Nat) : Int)
 | 0, v, _ => by simp [vl]
 | n + 1, v, h => by
  have ih := Jgg hp h.tl; have h0 := h 0 (by omega); simp only [vl]; have h1 : (p : Int) * vl p n (fun i => v (i + 1)) <= p * (((p ^ n : Nat) : Int) - 1) := Int.mul_le_mul_of_nonneg_left (by omega) (by omega); have h2 : 0 <= (p : Int) * vl p n (fun i => v (i + 1)) := Int.mul_nonneg (by omega) ih.1; have h3 : ((p ^ (n + 1) : Nat) : Int) = p * ((p ^ n : Nat) : Int) := by rw [Nat.pow_succ']; push_cast; rfl
  have h4 : (p : Int) * (((p ^ n : Nat) : Int) - 1) = p * ((p ^ n : Nat) : Int) - p := by rw [Int.mul_sub, Int.mul_one]
  omega
theorem Jac {p : Nat} : ∀ {n : Nat} {u v : Vec}, (∀ i, i < n -> u i = v i) -> vl p n u = vl p n v
 | 0, _, _, _ => rfl
 | n + 1, u, v, h => by simp only [vl]; rw [h 0 (by omega), Jac (n := n) fun i hi => h (i + 1) (by omega)]
theorem Jiy {p : Nat} (hp : 0 < p) : ∀ {n x : Nat}, x < p ^ n -> vl p n (dv p x) = x
 | 0, x, h => by simp at h; subst h; rfl
 | n + 1, x, h => by
  simp only [vl]; have : (fun i => dv p x (i + 1)) = dv p (x / p) := by funext i; exact Yx p x i
  rw [this, Jiy hp (n := n) (by rw [Nat.div_lt_iff_lt_mul hp, <- Nat.pow_succ]; exact h), Q6]; have := Nat.mod_add_div x p; have h2 : ((x % p + p * (x / p) : Nat) : Int) = (x : Int) := by rw [this]
  push_cast at h2 ⊢; exact h2
theorem dv_vl {p : Nat} (hp : 0 < p) : ∀ {n : Nat} {v : Vec}, Cn p n v -> ∀ i, i < n -> dv p (vl p n v).toNat i = v i
 | 0, _, _, i, hi => by omega
 | n + 1, v, h, i, hi => by
  have ih := Jgg hp h.tl; have h0 := h 0 (by omega); obtain ⟨t, ht⟩ := Int.eq_ofNat_of_zero_le ih.1; obtain ⟨a, ha⟩ := Int.eq_ofNat_of_zero_le h0.1; have hv : (vl p (n + 1) v).toNat = a + p * t := by
   simp only [vl]; rw [ht, ha]; have : (a : Int) + (p : Int) * (t : Int) = ((a + p * t : Nat) : Int) := by push_cast; rfl
   rw [this]; rfl
  have hap : a < p := by have := h0.2; rw [ha] at this; omega
  rw [hv]; cases i with
  | zero => rw [Q6, Nat.add_mul_mod_self_left, Nat.mod_eq_of_lt hap, ha]
  | succ i =>
   rw [Yx]; have h2 : (a + p * t) / p = t := by rw [Nat.add_mul_div_left _ _ hp, Nat.div_eq_of_lt hap, Nat.zero_add]
   have ih2 := dv_vl hp h.tl i (by omega); rw [ht] at ih2; rw [h2]; exact ih2
section
variable {p m : Nat}
theorem md_cn (hp : 0 < p) (v : Vec) (n : Nat) : Cn p n (fun i => v i % (p : Int)) := fun i _ => ⟨Int.emod_nonneg _ (by omega), Int.emod_lt_of_pos _ (by omega)⟩
theorem YM (hp : 0 < p) (v : Vec) : nm p m v < p ^ m := by
 have := Jgg hp (md_cn hp v m); unfold nm; omega
theorem Jg4 (hp : 0 < p) (v : Vec) {i : Nat} (hi : i < m) : dv p (nm p m v) i = v i % (p : Int) := dv_vl hp (md_cn hp v m) i hi
theorem Jb3 (hp : 0 < p) (x n : Nat) : Cn p n (dv p x) := fun i _ => by
 have := Nat.mod_lt (x / p ^ i) hp; simp only [dv]; omega
theorem Jkd {x i : Nat} (hx : x < p ^ m) (hi : m <= i) : dv p x i = 0 := by
 rcases Nat.eq_zero_or_pos p with rfl | hp
 .simp only [dv]; cases m with
  | zero =>
   have : x = 0 := by simpa using hx
   subst this; simp
  | succ m => simp at hx
 .have : x / p ^ i = 0 := Nat.div_eq_of_lt (Nat.lt_of_lt_of_le hx (Nat.pow_le_pow_right hp hi)); simp [dv, this]
theorem Qp {x : Nat} (hx : x < p ^ m) : Sup m (dv p x) := fun i hi => Jkd hx hi
theorem YS (x i : Nat) : dv p x i % (p : Int) = dv p x i := by
 simp only [dv]; rw [<- Int.natCast_emod, Nat.mod_mod]
theorem YN (hp : 0 < p) {x : Nat} (hx : x < p ^ m) : nm p m (dv p x) = x := by
 unfold nm; rw [Jac (v := dv p x) fun i _ => YS x i, Jiy hp hx]; rfl
theorem Jjw {u v : Vec} (h : ∀ i, i < m -> u i % (p : Int) = v i % (p : Int)) : nm p m u = nm p m v := by
 unfold nm; rw [Jac h]
theorem Q1 {u v : Vec} (h : vcg p u v) : nm p m u = nm p m v := Jjw fun i _ => h i
theorem Jeo (hp : 0 < p) {v : Vec} (hv : Sup m v) : vcg p (dv p (nm p m v)) v := fun i => by
 rcases Nat.lt_or_ge i m with h | h
 .rw [Jg4 hp v h, Int.emod_emod]
 .rw [Jkd (YM hp v) h, hv i h]
theorem nm_eq (hp : 0 < p) {x : Nat} {v : Vec} (hx : x < p ^ m) (h : ∀ i, i < m -> dv p x i = v i % (p : Int)) : nm p m v = x := by
 rw [<- YN hp hx]; exact Jjw fun i hi => by rw [h i hi, Int.emod_emod]
end
def JT (p m x y : Nat) : Nat := nm p m (Jz (dv p x) (dv p y))
def fneg (p m x : Nat) : Nat := nm p m (vsm (-1) (dv p x))
def Jq (p m : Nat) (c : Vec) (x y : Nat) : Nat := nm p m (Qv m c (dv p x) (dv p y))
section
variable {p m : Nat} {c : Vec}
theorem Jlz (hp : 0 < p) (x y : Nat) : JT p m x y < p ^ m := YM hp _
theorem Jly (hp : 0 < p) (x : Nat) : fneg p m x < p ^ m := YM hp _
theorem Jg3 (hp : 0 < p) (x y : Nat) : Jq p m c x y < p ^ m := YM hp _
theorem Jc3 (hp : 0 < p) {x y : Nat} (hx : x < p ^ m) (hy : y < p ^ m) : vcg p (dv p (JT p m x y)) (Jz (dv p x) (dv p y)) := Jeo hp ((Qp hx).add (Qp hy))
theorem Jl0 (hp : 0 < p) {x : Nat} (hx : x < p ^ m) : vcg p (dv p (fneg p m x)) (vsm (-1) (dv p x)) := Jeo hp (Qp hx).sm
theorem Jiv {a b : Vec} (ha : Sup m a) : Sup m (Qv m c a b) := Sup.opr ha m
theorem Za (hp : 0 < p) {x y : Nat} (hx : x < p ^ m) : vcg p (dv p (Jq p m c x y)) (Qv m c (dv p x) (dv p y)) := Jeo hp (Jiv (Qp hx))
theorem Jh2 (x y : Nat) : JT p m x y = JT p m y x := by unfold JT; rw [Jbo]
theorem Jfp (hp : 0 < p) {x y z : Nat} (hx : x < p ^ m) (hy : y < p ^ m) (hz : z < p ^ m) : JT p m (JT p m x y) z = JT p m x (JT p m y z) := by
 show nm p m (Jz (dv p (JT p m x y)) (dv p z)) = nm p m (Jz (dv p x) (dv p (JT p m y z))); rw [Q1 ((Jc3 hp hx hy).add (vcg.refl _)), Q1 ((vcg.refl (p := p) (dv p x)).add (Jc3 hp hy hz)), QY]
theorem Jbi (p : Nat) : dv p 0 = vz := by funext i; simp [dv, vz]
theorem Jh1 (hp : 0 < p) {x : Nat} (hx : x < p ^ m) : JT p m x 0 = x := by unfold JT; rw [Jbi, YO, YN hp hx]
theorem Jj9 (hp : 0 < p) {x : Nat} (hx : x < p ^ m) : JT p m x (fneg p m x) = 0 := by
 show nm p m (Jz (dv p x) (dv p (fneg p m x))) = 0; rw [Q1 ((vcg.refl (p := p) (dv p x)).add (Jl0 hp hx))]; have : Jz (dv p x) (vsm (-1) (dv p x)) = vz := by funext i; simp only [Jz, vsm, vz]; omega
 rw [this, <- Jbi p, YN hp (by exact Nat.pow_pos hp)]
theorem ZB {x y : Nat} (hx : x < p ^ m) (hy : y < p ^ m) : Jq p m c x y = Jq p m c y x := by
 unfold Jq; rw [Yo (Qp hx) (Qp hy)]
theorem Jfn (hp : 0 < p) {x y z : Nat} (hx : x < p ^ m) (hy : y < p ^ m) (hz : z < p ^ m) : Jq p m c (Jq p m c x y) z = Jq p m c x (Jq p m c y z) := by
 show nm p m (Qv m c (dv p (Jq p m c x y)) (dv p z)) = nm p m (Qv m c (dv p x) (dv p (Jq p m c y z))); rw [Q1 (vcg.mul (vcg.refl c) (Za hp hx) (vcg.refl _)), Q1 (vcg.mul (vcg.refl c) (vcg.refl (dv p x)) (Za hp hy)), Je1 (Qp hx) (Qp hy) (Qp hz)]
theorem Jc2 (hp : 2 <= p) : dv p 1 = e0 := by
 funext i; cases i with
 | zero => rw [Q6, Nat.mod_eq_of_lt (by omega)]; rfl
 | succ i =>
  have : (1 : Nat) / p ^ (i + 1) = 0 := Nat.div_eq_of_lt (Nat.one_lt_pow (by omega) (by omega)); simp [dv, this, e0]
theorem Ja0 (hp : 2 <= p) (hm : 0 < m) {x : Nat} (hx : x < p ^ m) : Jq p m c x 1 = x := by
 unfold Jq; rw [Jc2 hp, Jiw hm, YN (by omega) hx]
theorem Jhz (hp : 0 < p) {x : Nat} (hx : x < p ^ m) : Jq p m c x 0 = 0 := by
 rw [ZB hx (Nat.pow_pos hp)]; unfold Jq; rw [Jbi]; have : Qv m c vz (dv p x) = vz := opr_z ..; rw [this, <- Jbi p, YN hp (Nat.pow_pos hp)]
theorem Jj7 (hp : 0 < p) {x y z : Nat} (hx : x < p ^ m) (hy : y < p ^ m) (hz : z < p ^ m) : Jq p m c x (JT p m y z) = JT p m (Jq p m c x y) (Jq p m c x z) := by
 show nm p m (Qv m c (dv p x) (dv p (JT p m y z))) = nm p m (Jz (dv p (Jq p m c x y)) (dv p (Jq p m c x z))); rw [Q1 (vcg.mul (vcg.refl c) (vcg.refl (dv p x)) (Jc3 hp hy hz)), Q1 ((Za (c := c) hp hx).add (Za hp hx)), Jix]
end
structure CR (q : Nat) (A M : Nat -> Nat -> Nat) : Prop where
  q2 : 2 <= q
  Al : ∀ x y, A x y < q
  Ml : ∀ x y, M x y < q
  Ac : ∀ x y, A x y = A y x
  Aa : ∀ {x y z}, x < q -> y < q -> z < q -> A (A x y) z = A x (A y z)
  Az : ∀ {x}, x < q -> A x 0 = x
  An : ∀ {x}, x < q -> ∃ y, y < q /\ A x y = 0
  Mc : ∀ {x y}, x < q -> y < q -> M x y = M y x
  Ma : ∀ {x y z}, x < q -> y < q -> z < q -> M (M x y) z = M x (M y z)
  M1 : ∀ {x}, x < q -> M x 1 = x
  M0 : ∀ {x}, x < q -> M x 0 = 0
  Md : ∀ {x y z}, x < q -> y < q -> z < q -> M x (A y z) = A (M x y) (M x z)
theorem Jgc {p m : Nat} (c : Vec) (hp : 2 <= p) (hm : 0 < m) : CR (p ^ m) (JT p m) (Jq p m c) where
 q2 := Nat.le_trans hp (by have := Nat.pow_le_pow_right (n := p) (by omega) hm; simpa using this)
 Al := Jlz (by omega)
 Ml := Jg3 (by omega)
 Ac := Jh2
 Aa := Jfp (by omega)
 Az := Jh1 (by omega)
 An := fun {x} hx => ⟨fneg p m x, Jly (by omega) x, Jj9 (by omega) hx⟩
 Mc := ZB
 Ma := Jfn (by omega)
 M1 := Ja0 hp hm
 M0 := Jhz (by omega)
 Md := Jj7 (by omega)
end Go.Proofs.Ytbdmnolcmeojbaa
namespace Go.Proofs.Ytbdmnolcmeojbaa
def pw (M : Nat -> Nat -> Nat) (g : Nat) : Nat -> Nat
  | 0 => 1
  | k + 1 => M (pw M g k) g
theorem php : ∀ (n : Nat) (f : Nat -> Nat), (∀ i, i < n + 1 -> f i < n) -> ∃ i j, i < j /\ j < n + 1 /\ f i = f j
 | 0, f, h => absurd (h 0 (by omega)) (by omega)
 | n + 1, f, h => by
  by_cases hc : ∃ i, i < n + 1 /\ f i = f (n + 1)
  .obtain ⟨i, hi, he⟩ := hc; exact ⟨i, n + 1, hi, by omega, he⟩
  .have hv := h (n + 1) (by omega); obtain ⟨i, j, hij, hj, he⟩ := php n (fun i => if f i = n then f (n + 1) else f i) (fun i hi => by
    have hne : f i ≠ f (n + 1) := fun e => hc ⟨i, hi, e⟩; have := h i (by omega); show (if f i = n then f (n + 1) else f i) < n; split
    .omega
    .omega)
   refine ⟨i, j, hij, by omega, ?_⟩; have hi1 : f i ≠ f (n + 1) := fun e => hc ⟨i, by omega, e⟩; have hj1 : f j ≠ f (n + 1) := fun e => hc ⟨j, by omega, e⟩; split at he <;> split at he <;> omega
theorem Jdo {n : Nat} {f : Nat -> Nat} (hb : ∀ i, i < n -> f i < n) (hi : ∀ i j, i < j -> j < n -> f i ≠ f j) {y : Nat} (hy : y < n) : ∃ i, i < n /\ f i = y := by
 obtain ⟨i, j, hij, hj, he⟩ := php n (fun i => if i < n then f i else y) (fun i _ => by
  show (if i < n then f i else y) < n; split
  .rename_i h; exact hb i h
  .exact hy)
 rcases Nat.lt_or_ge j n with h | h
 .rw [if_pos h, if_pos (show i < n by omega)] at he; exact absurd he (hi i j hij h)
 .rw [if_neg (show ¬ j < n by omega), if_pos (show i < n by omega)] at he; exact ⟨i, by omega, he⟩
section
variable {q : Nat} {A M : Nat -> Nat -> Nat} (R : CR q A M)
include R
namespace CR
theorem one_lt : 1 < q := R.q2
theorem pos : 0 < q := by have := R.q2; omega
theorem I1 {x : Nat} (hx : x < q) : M 1 x = x := by rw [R.Mc R.one_lt hx, R.M1 hx]
theorem Z0 {x : Nat} (hx : x < q) : M 0 x = 0 := by rw [R.Mc R.pos hx, R.M0 hx]
theorem zA {x : Nat} (hx : x < q) : A 0 x = x := by rw [R.Ac, R.Az hx]
theorem pw_lt (g : Nat) : ∀ k, pw M g k < q
 | 0 => R.one_lt
 | k + 1 => R.Ml _ _
theorem pw_one {g : Nat} (hg : g < q) : pw M g 1 = g := R.I1 hg
theorem pw_add {g : Nat} (hg : g < q) (i : Nat) : ∀ j, pw M g (i + j) = M (pw M g i) (pw M g j)
 | 0 => (R.M1 (R.pw_lt g i)).symm
 | j + 1 => by
  show M (pw M g (i + j)) g = M (pw M g i) (M (pw M g j) g); rw [pw_add hg i j, R.Ma (R.pw_lt g i) (R.pw_lt g j) hg]
theorem pw_pw {g : Nat} (hg : g < q) (i : Nat) : ∀ j, pw M (pw M g i) j = pw M g (i * j)
 | 0 => rfl
 | j + 1 => by
  show M (pw M (pw M g i) j) (pw M g i) = _; rw [pw_pw hg i j, <- R.pw_add hg]; rfl
theorem one_pw : ∀ j, pw M 1 j = 1
 | 0 => rfl
 | j + 1 => by show M (pw M 1 j) 1 = 1; rw [one_pw j, R.M1 R.one_lt]
theorem zero_pw {n : Nat} (h : 0 < n) : pw M 0 n = 0 := by
 cases n with
 | zero => omega
 | succ n => exact R.M0 (R.pw_lt 0 n)
end CR
end
structure Gn (q : Nat) (M : Nat -> Nat -> Nat) (g : Nat) : Prop where
  lt : g < q
  one : pw M g (q - 1) = 1
  no : ∀ k, 0 < k -> k < q - 1 -> pw M g k ≠ 1
namespace Gn
variable {q g : Nat} {A M : Nat -> Nat -> Nat}
theorem per (G : Gn q M g) (R : CR q A M) (i k : Nat) : pw M g (i + (q - 1) * k) = pw M g i := by
 rw [R.pw_add G.lt, <- R.pw_pw G.lt, G.one, R.one_pw, R.M1 (R.pw_lt g i)]
theorem modp (G : Gn q M g) (R : CR q A M) (i : Nat) : pw M g (i % (q - 1)) = pw M g i := by
 have := G.per R (i % (q - 1)) (i / (q - 1)); rw [Nat.mod_add_div] at this; exact this.symm
theorem ne0 (G : Gn q M g) (R : CR q A M) (k : Nat) : pw M g k ≠ 0 := fun h => by
 have h1 := G.per R 0 (k + 1); have hq := R.q2; rw [Nat.zero_add] at h1; have : (q - 1) * (k + 1) = k + ((q - 1) * (k + 1) - k) := by
  have : k + 1 <= (q - 1) * (k + 1) := Nat.le_mul_of_pos_left _ (by omega); omega
 rw [this, R.pw_add G.lt, h, R.Z0 (R.pw_lt g _)] at h1; exact absurd h1 (by show ¬ (0 : Nat) = 1; omega)
theorem inj (G : Gn q M g) (R : CR q A M) {i j : Nat} (hij : i < j) (hj : j < q - 1) : pw M g i ≠ pw M g j := fun h => by
 have e1 : M (pw M g i) (pw M g (q - 1 - i)) = 1 := by rw [<- R.pw_add G.lt, show i + (q - 1 - i) = q - 1 by omega, G.one]
 have e2 : M (pw M g j) (pw M g (q - 1 - i)) = pw M g (j - i) := by
  rw [<- R.pw_add G.lt, show j + (q - 1 - i) = (j - i) + (q - 1) * 1 by omega, G.per R]
 rw [h] at e1; exact G.no (j - i) (by omega) (by omega) (e2.symm.trans e1)
theorem surj (G : Gn q M g) (R : CR q A M) {x : Nat} (h0 : 0 < x) (hx : x < q) : ∃ k, k < q - 1 /\ pw M g k = x := by
 obtain ⟨i, hi, he⟩ := Jdo (n := q - 1) (f := fun k => pw M g k - 1) (fun i hi => by
  have := R.pw_lt g i; have := G.ne0 R i; show pw M g i - 1 < q - 1; omega) (fun i j hij hj he => by
  have h1 := G.ne0 R i; have h2 := G.ne0 R j; exact G.inj R hij hj (by omega)) (y := x - 1) (by omega)
 have := G.ne0 R i; exact ⟨i, hi, by omega⟩
open Classical in
noncomputable def lg (q : Nat) (M : Nat -> Nat -> Nat) (g x : Nat) : Nat := if h : ∃ k, k < q - 1 /\ pw M g k = x then Classical.choose h else 0
theorem lg_spec (G : Gn q M g) (R : CR q A M) {x : Nat} (h0 : 0 < x) (hx : x < q) : lg q M g x < q - 1 /\ pw M g (lg q M g x) = x := by
 have h := G.surj R h0 hx; unfold lg; rw [dif_pos h]; exact Classical.choose_spec h
theorem one_iff (G : Gn q M g) (R : CR q A M) (k : Nat) : pw M g k = 1 ↔ (q - 1) ∣ k := by
 have hq := R.q2; rw [<- G.modp R k]; constructor
 .intro h; rcases Nat.eq_zero_or_pos (k % (q - 1)) with h0 | h0
  .exact Nat.dvd_of_mod_eq_zero h0
  .exact absurd h (G.no _ h0 (Nat.mod_lt _ (by omega)))
 .intro h; rw [Nat.mod_eq_zero_of_dvd h]; rfl
theorem xone (G : Gn q M g) (R : CR q A M) {x : Nat} (h0 : 0 < x) (hx : x < q) : pw M x (q - 1) = 1 := by
  obtain ⟨k, hk, rfl⟩ := G.surj R h0 hx
  rw [R.pw_pw G.lt, Nat.mul_comm, <- R.pw_pw G.lt, G.one, R.one_pw]
theorem ord_iff (G : Gn q M g) (R : CR q A M) (e k : Nat) : pw M (pw M g e) k = 1 ↔ (q - 1) / Nat.gcd (q - 1) e ∣ k := by
  have hq := R.q2
  rw [R.pw_pw G.lt, G.one_iff R]
  have hg : 0 < Nat.gcd (q - 1) e := Nat.gcd_pos_of_pos_left _ (by omega)
  obtain ⟨a, ha⟩ := Nat.gcd_dvd_left (q - 1) e
  obtain ⟨b, hb⟩ := Nat.gcd_dvd_right (q - 1) e
  generalize hd : Nat.gcd (q - 1) e = d at *
  have hco : Nat.Coprime a b := by
    have := Nat.coprime_div_gcd_div_gcd (m := q - 1) (n := e) (by omega)
    rw [hd] at this
    rwa [show (q - 1) / d = a by rw [ha]; exact Nat.mul_div_cancel_left _ hg, show e / d = b by rw [hb]; exact Nat.mul_div_cancel_left _ hg] at this
  have e1 : (q - 1) / d = a := by rw [ha]; exact Nat.mul_div_cancel_left _ hg
  rw [e1]
  constructor
  . intro h
    have : a ∣ b * k := Nat.dvd_of_mul_dvd_mul_left hg (by rw [<- ha, <- Nat.mul_assoc, <- hb]; exact h)
    exact hco.dvd_of_dvd_mul_left this
  . rintro ⟨t, rfl⟩
    exact ⟨b * t, by rw [ha, hb]; simp only [Nat.mul_comm, Nat.mul_left_comm]⟩
end Gn
end Go.Proofs.Ytbdmnolcmeojbaa
namespace Go.Proofs.Ytbdmnolcmeojbaa
structure IsLf (n d : Nat) : Prop where
  two : 2 <= d
  dvd : n % d = 0
  min : ∀ e, 2 <= e -> n % e = 0 -> d <= e
def Jke : Nat -> Nat -> Nat
  | _, 0 => 1
  | 0, _ + 1 => 0
  | n + 1, k + 1 => Jke n k + Jke n (k + 1)
section
variable {q : Nat} {A M : Nat -> Nat -> Nat} (R : CR q A M)
include R
namespace CR
theorem Aac {a b c : Nat} (ha : a < q) (hb : b < q) (hc : c < q) : A (A a b) c = A (A a c) b := by
 rw [R.Aa ha hb hc, R.Ac b c, <- R.Aa ha hc hb]
theorem A4 {a b c d : Nat} (ha : a < q) (hb : b < q) (hc : c < q) (hd : d < q) : A (A a b) (A c d) = A (A a c) (A b d) := by
 rw [<- R.Aa (R.Al a b) hc hd, R.Aac ha hb hc, R.Aa (R.Al a c) hb hd]
end CR
end
end Go.Proofs.Ytbdmnolcmeojbaa
