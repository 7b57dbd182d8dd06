/- Contracts of functions of the program, and what they lean on: D6, D7, D8, D11, Dt, Fa, Fb, Fg, Fp, Fk, Fc, V1. -/
import Derived.Test.YtppkigdakobebaaGrsChecksG3
set_option linter.unusedSimpArgs false
set_option linter.unusedVariables false
set_option maxRecDepth 4000
set_option maxHeartbeats 4000000
namespace Go.Proofs.Ytppkigdakobebaa
open Go.RowKit
def Yz (l : LI) (o : LI) (p : Int) (Q : Bool -> Prop) : Prop :=
  (((0 : Nat) + (o.length : Nat) : Int) * 8 <= 140737488355328) /\ (((((([] : LI) ++ o).length : Nat) + (1 : Nat) : Int) * 8 <= 140737488355328) /\ ((I64 (((((([] : LI) ++ o) ++ ([(1 : Int)] : LI)).length : Nat) : Int) - (1 : Int))) /\ (∃ (I32 : LI -> Int -> Prop) (μ33 : LI -> Int -> Nat), I32 ((([] : LI) ++ o) ++ ([(1 : Int)] : LI)) (((((([] : LI) ++ o) ++ ([(1 : Int)] : LI)).length : Nat) : Int) - (1 : Int)) /\ ∀ (x30 : LI) (z31 : Int), (I32 x30 z31 -> ((((l.length : Int) <= z31) -> ((0 <= z31 /\ z31 < (((([] : LI) ++ o) ++ ([(1 : Int)] : LI)).length : Nat)) /\ (∃ (I43 : LI -> Int -> Prop) (μ44 : LI -> Int -> Nat), I43 x30 (0 : Int) /\ ∀ (x41 : LI) (z42 : Int), (I43 x41 z42 -> (((z42 < (l.length : Int)) -> ((I64 (z31 - (l.length : Int))) /\ ((I64 ((z31 - (l.length : Int)) + z42)) /\ ((I64 (z31 - (l.length : Int))) /\ ((I64 ((z31 - (l.length : Int)) + z42)) /\ ((0 <= ((z31 - (l.length : Int)) + z42) /\ ((z31 - (l.length : Int)) + z42) < (((([] : LI) ++ o) ++ ([(1 : Int)] : LI)).length : Nat)) /\ ((I64 (p - (gi x30 z31))) /\ ((0 <= z42 /\ z42 < (l.length : Nat)) /\ ((I64 ((p - (gi x30 z31)) * (gi l z42))) /\ ((I64 ((gi x41 ((z31 - (l.length : Int)) + z42)) + ((p - (gi x30 z31)) * (gi l z42)))) /\ ((p ≠ 0) /\ ((0 <= ((z31 - (l.length : Int)) + z42) /\ ((z31 - (l.length : Int)) + z42) < (((([] : LI) ++ o) ++ ([(1 : Int)] : LI)).length : Nat)) /\ ((I64 (z42 + 1)) /\ (I43 (si x41 ((z31 - (l.length : Int)) + z42) (((gi x41 ((z31 - (l.length : Int)) + z42)) + ((p - (gi x30 z31)) * (gi l z42))).tmod p)) (z42 + 1) /\ μ44 (si x41 ((z31 - (l.length : Int)) + z42) (((gi x41 ((z31 - (l.length : Int)) + z42)) + ((p - (gi x30 z31)) * (gi l z42))).tmod p)) (z42 + 1) < μ44 x41 z42)))))))))))))) /\ (¬ (z42 < (l.length : Int)) -> ((0 <= z31 /\ z31 < (((([] : LI) ++ o) ++ ([(1 : Int)] : LI)).length : Nat)) /\ ((I64 (z31 - 1)) /\ (I32 (si x41 z31 0) (z31 - 1) /\ μ33 (si x41 z31 0) (z31 - 1) < μ33 x30 z31))))))))) /\ (¬ ((l.length : Int) <= z31) -> (∃ (I93 : Int -> Prop) (μ94 : Int -> Nat), I93 0 /\ ∀ (z92 : Int), (I93 z92 -> (((z92 < ((((([] : LI) ++ o) ++ ([(1 : Int)] : LI)).length : Nat) : Int)) -> ((0 <= z92 /\ z92 < (((([] : LI) ++ o) ++ ([(1 : Int)] : LI)).length : Nat)) /\ ((((gi x30 z92) ≠ (0 : Int)) -> Q false) /\ (¬ ((gi x30 z92) ≠ (0 : Int)) -> ((I64 (z92 + 1)) /\ (I93 (z92 + 1) /\ μ94 (z92 + 1) < μ94 z92)))))) /\ (¬ (z92 < ((((([] : LI) ++ o) ++ ([(1 : Int)] : LI)).length : Nat) : Int)) -> Q true))))))))))
theorem Jhw {w : World} {Q : Bool -> Prop} {l : LI} {o : LI} {p : Int} {Bl : Nat} {Al : Option Addr} {nl kl : Nat} (hl : Rd Bl w 1 Al nl kl (is l)) {Bo : Nat} {Ao : Option Addr} {no ko : Nat} (ho : Rd Bo w 1 Ao no ko (is o)) (hv : Yz l o p Q) :
   Calls Try.prog 107 #[.slice Al nl kl, .slice Ao no ko, .int .i64 p] w <| Rt w fun v Qr => ∃ (r0 : Bool), v = .bool r0 /\ Qr = [] /\ Q r0 := by
 have hnl := hl.ilen; subst hnl; have hno := ho.ilen; subst hno; refine Jn <| Jl (vs := [nS Al l kl, nS Ao o ko, nI p]) [6] XF107 rfl rfl rfl rfl ?_; have hS := Jt w; unfold Yz at hv; refine Jd 7 <| WL.len Jh rfl rfl <| Jc 2 <| Jd 2 <| JL (vs := is ([] : LI)) hS Jh XE3 rfl rfl rfl rfl (Jm _) rfl ?_; intro A11 w12 hS; refine Jq rfl rfl ?_; obtain ⟨o14, hv⟩ := hv; refine SL.append (cs := is ([] : LI)) (cs' := is o) 0 ((([] : LI) ++ o).length) (is (([] : LI) ++ o)) hS rfl Jh XE3 (hS.ro ho) (Jm _) rfl rfl (apk o14).1 (apk o14).2 (Jy (hS.rd (i := 0) rfl) (hS.ro ho)) (Ji _ _) rfl ?_; intro A15 k16 w17 hS; refine Jc 2 <| Jd 3 <| JL (vs := is ([(1 : Int)] : LI)) hS Jh XE3 rfl rfl rfl rfl (Jm _) rfl ?_; intro A18 w19 hS; obtain ⟨o21, hv⟩ := hv; refine SL.append (cs := is (([] : LI) ++ o)) (cs' := is ([(1 : Int)] : LI)) 1 (((([] : LI) ++ o) ++ ([(1 : Int)] : LI)).length) (is ((([] : LI) ++ o) ++ ([(1 : Int)] : LI))) hS rfl Jh XE3 (hS.rd (i := 0) rfl) (Jm _) rfl rfl (apk o21).1 (apk o21).2 (Jy (hS.rd (i := 1) rfl) (hS.rd (i := 0) rfl)) (Ji _ _) rfl ?_; intro A22 k23 w24 hS; refine Jc 2 <| Jd 4 <| WL.len Jh rfl rfl ?_; obtain ⟨o25, hv⟩ := hv; refine WL.sub (r := (((((([] : LI) ++ o) ++ ([(1 : Int)] : LI)).length : Nat) : Int) - (1 : Int))) rfl rfl (wr o25) rfl <| Jc 2 <| W.block ?_; obtain ⟨I32, μ33, hv, hk101⟩ := hv; refine JE (σ := LI × Int) (fun q w1 => match q with | (x30, z31) => I32 x30 z31 /\ St TT w none w1 [.row 3 1 A18 1 1 (is ([(1 : Int)] : LI)), .row 3 1 A22 (((([] : LI) ++ o) ++ ([(1 : Int)] : LI)).length) k23 (is x30)]) (fun (x30, z31) => [(0, nS Al l kl), (2, nI p), (6, .bool false), (7, nI (l.length : Int)), (8, .slice A22 (((([] : LI) ++ o) ++ ([(1 : Int)] : LI)).length) k23), (9, nI z31)]) (fun (x30, z31) => μ33 x30 z31) ((([] : LI) ++ o) ++ ([(1 : Int)] : LI), (((((([] : LI) ++ o) ++ ([(1 : Int)] : LI)).length : Nat) : Int) - (1 : Int))) ⟨hv, hS⟩ ⟨rfl, rfl, rfl, rfl, rfl, rfl, trivial⟩ ?_; rintro ⟨x30, z31⟩ w34 ⟨hv, hS⟩; have hv := hk101 x30 z31 hv; refine Jd 7 <| Jj rfl (fun c35 => ?_) (fun c35 => ?_)
 .have hv := hv.1 (oT c35); refine Jr <| JA <| W.block <| Jd 4 ?_; obtain ⟨o36, hv⟩ := hv; refine Jo Jh XE3 (hS.rd (i := 1) rfl) rfl rfl o36 rfl <| Js XU3 rfl rfl (JJ (hS.rd (i := 1) rfl) o36) rfl <| Jc 2 <| Jd 5 <| W.block ?_; obtain ⟨I43, μ44, hv, hk89⟩ := hv; refine JE (σ := LI × Int) (fun q w1 => match q with | (x41, z42) => I43 x41 z42 /\ St TT w none w1 [.row 3 1 A18 1 1 (is ([(1 : Int)] : LI)), .row 3 1 A22 (((([] : LI) ++ o) ++ ([(1 : Int)] : LI)).length) k23 (is x41)]) (fun (x41, z42) => [(0, nS Al l kl), (2, nI p), (6, .bool false), (7, nI (l.length : Int)), (8, .slice A22 (((([] : LI) ++ o) ++ ([(1 : Int)] : LI)).length) k23), (9, nI z31), (10, nI (gi x30 z31)), (11, nI z42), (26, .bool (decide ((l.length : Int) <= z31)))]) (fun (x41, z42) => μ44 x41 z42) (x30, (0 : Int)) ⟨hv, hS⟩ ⟨rfl, rfl, rfl, rfl, rfl, rfl, rfl, rfl, rfl, trivial⟩ ?_; rintro ⟨x41, z42⟩ w45 ⟨hv, hS⟩; have hv := hk89 x41 z42 hv; refine Jd 7 <| Jj rfl (fun c46 => ?_) (fun c46 => ?_)
  .have hv := hv.1 (oT c46); refine Jr <| JA <| W.block ?_; obtain ⟨o51, hv⟩ := hv; obtain ⟨o54, hv⟩ := hv; obtain ⟨o59, hv⟩ := hv; obtain ⟨o62, hv⟩ := hv; obtain ⟨o64, hv⟩ := hv; obtain ⟨o69, hv⟩ := hv; obtain ⟨o73, hv⟩ := hv; obtain ⟨o76, hv⟩ := hv; obtain ⟨o78, hv⟩ := hv; obtain ⟨o81, hv⟩ := hv; refine JK 25 [⟨[], [8], true⟩, ⟨[], [9], true⟩, ⟨[], [7], true⟩, ⟨[1, 2], [], true⟩, ⟨[], [11], true⟩, ⟨[3, 4], [], true⟩, ⟨[], [8], true⟩, ⟨[], [9], true⟩, ⟨[], [7], true⟩, ⟨[7, 8], [], true⟩, ⟨[], [11], true⟩, ⟨[9, 10], [], true⟩, ⟨[6, 11], [], true⟩, ⟨[12], [], false⟩, ⟨[], [2], true⟩, ⟨[], [10], true⟩, ⟨[14, 15], [], true⟩, ⟨[], [0], true⟩, ⟨[], [11], true⟩, ⟨[17, 18], [], true⟩, ⟨[19], [], false⟩, ⟨[16, 20], [], true⟩, ⟨[13, 21], [], true⟩, ⟨[], [2], true⟩, ⟨[22, 23], [], true⟩] [(38, .slice A22 (((([] : LI) ++ o) ++ ([(1 : Int)] : LI)).length) k23), (39, nI z31), (40, nI (l.length : Int)), (41, nI (z31 - (l.length : Int))), (42, nI z42), (43, nI ((z31 - (l.length : Int)) + z42)), (44, .slice A22 (((([] : LI) ++ o) ++ ([(1 : Int)] : LI)).length) k23), (45, nI z31), (46, nI (l.length : Int)), (47, nI (z31 - (l.length : Int))), (48, nI z42), (49, nI ((z31 - (l.length : Int)) + z42)), (50, .pointer (some ((JU A22).add (((z31 - (l.length : Int)) + z42).toNat)))), (51, nI (gi x41 ((z31 - (l.length : Int)) + z42))), (52, nI p), (53, nI (gi x30 z31)), (54, nI (p - (gi x30 z31))), (55, nS Al l kl), (56, nI z42), (57, .pointer (some ((JU Al).add z42.toNat))), (58, nI (gi l z42)), (59, nI ((p - (gi x30 z31)) * (gi l z42))), (60, nI ((gi x41 ((z31 - (l.length : Int)) + z42)) + ((p - (gi x30 z31)) * (gi l z42)))), (61, nI p), (62, nI (((gi x41 ((z31 - (l.length : Int)) + z42)) + ((p - (gi x30 z31)) * (gi l z42))).tmod p))] Try.mixed (by kernel_rfl) rfl rfl ?_ ?_
   .refine ⟨oD, oD, oD, fun _ _ _ => WL.sub (r := (z31 - (l.length : Int))) rfl rfl (wr o51) rfl <| Ja ⟨rfl, rfl⟩, oD, fun _ _ _ => WL.add (r := ((z31 - (l.length : Int)) + z42)) rfl rfl (wr o54) rfl <| Ja ⟨rfl, rfl⟩, oD, oD, oD, fun _ _ _ => WL.sub (r := (z31 - (l.length : Int))) rfl rfl (wr o59) rfl <| Ja ⟨rfl, rfl⟩, oD, fun _ _ _ => WL.add (r := ((z31 - (l.length : Int)) + z42)) rfl rfl (wr o62) rfl <| Ja ⟨rfl, rfl⟩, fun _ _ _ => Jo Jh XE3 (hS.rd (i := 1) rfl) rfl rfl o64 rfl <| Ja ⟨rfl, rfl⟩, og hS fun _ _ hS => Js XU3 rfl rfl (JJ (hS.rd (i := 1) rfl) o64) rfl <| Ja ⟨rfl, Jg _⟩, oD, oD, fun _ _ _ => WL.sub (r := (p - (gi x30 z31))) rfl rfl (wr o69) rfl <| Ja ⟨rfl, rfl⟩, oD, oD, fun _ _ _ => Jo Jh XE3 (hS.ro hl) rfl rfl o73 rfl <| Ja ⟨rfl, rfl⟩, og hS fun _ _ hS => Js XU3 rfl rfl (JJ (hS.ro hl) o73) rfl <| Ja ⟨rfl, Jg _⟩, fun _ _ _ => WL.mul (r := ((p - (gi x30 z31)) * (gi l z42))) rfl rfl (wr o76) rfl <| Ja ⟨rfl, rfl⟩, fun _ _ _ => WL.add (r := ((gi x41 ((z31 - (l.length : Int)) + z42)) + ((p - (gi x30 z31)) * (gi l z42)))) rfl rfl (wr o78) rfl <| Ja ⟨rfl, rfl⟩, oD, fun _ _ _ => QD (r := (((gi x41 ((z31 - (l.length : Int)) + z42)) + ((p - (gi x30 z31)) * (gi l z42))).tmod p)) rfl rfl o81 rfl rfl <| Ja ⟨rfl, rfl⟩, trivial⟩
   intro w82 hT; have hS := hS.grow hT; refine Je 25 rfl ?_; obtain ⟨o83, hv⟩ := hv; refine Jo Jh XE3 (hS.rd (i := 1) rfl) rfl rfl o83 rfl <| Ja <| Je 26 rfl <| Jf (cs' := is (si x41 ((z31 - (l.length : Int)) + z42) (((gi x41 ((z31 - (l.length : Int)) + z42)) + ((p - (gi x30 z31)) * (gi l z42))).tmod p))) 1 ((z31 - (l.length : Int)) + z42).toNat hS rfl XE3 rfl rfl rfl (Qu (hS.rd (i := 1) rfl) o83) (Qb _ _ _) ?_; intro w84 hS; refine Ja <| JC <| Jd 2 ?_; obtain ⟨o85, hv⟩ := hv; refine WL.add (r := (z42 + 1)) rfl rfl (wr o85) rfl <| Jc 2 ?_; exact ⟨(si x41 ((z31 - (l.length : Int)) + z42) (((gi x41 ((z31 - (l.length : Int)) + z42)) + ((p - (gi x30 z31)) * (gi l z42))).tmod p), (z42 + 1)), sp rfl, hv.2, rfl, hv.1, hS⟩
  have hv := hv.2 (oF c46); refine JB <| Jd 3 ?_; obtain ⟨o86, hv⟩ := hv; refine Jo Jh XE3 (hS.rd (i := 1) rfl) rfl rfl o86 rfl <| Jf (cs' := is (si x41 z31 0)) 1 z31.toNat hS rfl XE3 rfl rfl rfl (Qu (hS.rd (i := 1) rfl) o86) (Qb _ _ _) ?_; intro w87 hS; refine Ja <| Jd 2 ?_; obtain ⟨o88, hv⟩ := hv; refine WL.sub (r := (z31 - 1)) rfl rfl (wr o88) rfl <| Jc 2 ?_; exact ⟨(si x41 z31 0, (z31 - 1)), sp rfl, hv.2, rfl, hv.1, hS⟩
 have hv := hv.2 (oF c35); refine JB <| Jd 5 <| W.block ?_; obtain ⟨I93, μ94, hv, hk100⟩ := hv; refine JE (σ := Int) (fun z92 w1 => I93 z92 /\ St TT w none w1 [.row 3 1 A18 1 1 (is ([(1 : Int)] : LI)), .row 3 1 A22 (((([] : LI) ++ o) ++ ([(1 : Int)] : LI)).length) k23 (is x30)]) (fun z92 => [(6, .bool false), (8, .slice A22 (((([] : LI) ++ o) ++ ([(1 : Int)] : LI)).length) k23), (12, nI z92)]) (fun z92 => μ94 z92) (0 : Int) ⟨hv, hS⟩ ⟨rfl, rfl, rfl, trivial⟩ ?_; rintro z92 w95 ⟨hv, hS⟩; have hv := hk100 z92 hv; refine Jd 5 <| WL.len Jh rfl rfl <| Jc 2 <| Jj rfl (fun c96 => ?_) (fun c96 => ?_)
 .have hv := hv.1 (oT c96); refine Jr <| JA <| W.block <| Jd 4 ?_; obtain ⟨o97, hv⟩ := hv; refine Jo Jh XE3 (hS.rd (i := 1) rfl) rfl rfl o97 rfl <| Js XU3 rfl rfl (JJ (hS.rd (i := 1) rfl) o97) rfl <| Jc 2 <| Jj rfl (fun c98 => ?_) (fun c98 => ?_)
  .have hv := hv.1 (oT c98); refine Jd 4 <| W.ret <| ⟨_, rfl, Fin.nil ?_⟩
   exact (hS.pick [] rfl).fin rfl ⟨false, rfl, rfl, hv⟩
  have hv := hv.2 (oF c98); refine Jr <| Jd 2 ?_; obtain ⟨o99, hv⟩ := hv; refine WL.add (r := (z92 + 1)) rfl rfl (wr o99) rfl <| Jc 2 ?_; exact ⟨(z92 + 1), sp rfl, hv.2, rfl, hv.1, hS⟩
 have hv := hv.2 (oF c96); refine JB <| Jd 4 <| W.ret <| ⟨_, rfl, Fin.nil ?_⟩
 exact (hS.pick [] rfl).fin rfl ⟨true, rfl, rfl, hv⟩
def Jek (l : LI) (p : Int) (Q : Bool -> Prop) : Prop :=
  ∃ (I17 : Int -> Int -> Prop) (μ18 : Int -> Int -> Nat), I17 1 (1 : Int) /\ ∀ (z15 : Int) (z16 : Int), (I17 z15 z16 -> ((I64 ((2 : Int) * z16)) /\ (((((2 : Int) * z16) <= (l.length : Int)) -> ((I64 (z15 * p)) /\ (∃ (I26 : Int -> Prop) (μ27 : Int -> Nat), I26 0 /\ ∀ (z25 : Int), (I26 z25 -> (((z25 < (z15 * p)) -> (YY z25 p z16 (fun x31 => Yz x31 l p (fun r36 => ((r36 = true) -> Q false) /\ (r36 = false -> ((I64 (z25 + 1)) /\ (I26 (z25 + 1) /\ μ27 (z25 + 1) < μ27 z25))))))) /\ (¬ (z25 < (z15 * p)) -> ((I64 (z16 + 1)) /\ (I17 (z15 * p) (z16 + 1) /\ μ18 (z15 * p) (z16 + 1) < μ18 z15 z16)))))))) /\ (¬ (((2 : Int) * z16) <= (l.length : Int)) -> Q true))))
theorem Jsl {w : World} {Q : Bool -> Prop} {l : LI} {p : Int} {Bl : Nat} {Al : Option Addr} {nl kl : Nat} (hl : Rd Bl w 1 Al nl kl (is l)) (hv : Jek l p Q) :
   Calls Try.prog 76 #[.slice Al nl kl, .int .i64 p] w <| Rt w fun v Qr => ∃ (r0 : Bool), v = .bool r0 /\ Qr = [] /\ Q r0 := by
 have hnl := hl.ilen; subst hnl; refine Jn <| Jl (vs := [nS Al l kl, nI p]) [4] XF76 rfl rfl rfl rfl ?_; have hS := Jt w; unfold Jek at hv; refine Jd 13 <| W.block ?_; obtain ⟨I17, μ18, hv, hk41⟩ := hv; refine JE (σ := Int × Int) (fun q w1 => match q with | (z15, z16) => I17 z15 z16 /\ St TT w none w1 []) (fun (z15, z16) => [(0, nS Al l kl), (1, nI p), (4, .bool false), (5, nI z15), (6, nI z16)]) (fun (z15, z16) => μ18 z15 z16) ((1 : Int), (1 : Int)) ⟨hv, hS⟩ ⟨rfl, rfl, rfl, rfl, rfl, trivial⟩ ?_; rintro ⟨z15, z16⟩ w19 ⟨hv, hS⟩; have hv := hk41 z15 z16 hv; refine Jd 4 ?_; obtain ⟨o20, hv⟩ := hv; refine WL.mul (r := ((2 : Int) * z16)) rfl rfl (wr o20) rfl <| Jq rfl rfl <| WL.len Jh rfl rfl <| Jc 2 <| Jj rfl (fun c21 => ?_) (fun c21 => ?_)
 .have hv := hv.1 (oT c21); refine Jr <| JA <| W.block <| Jd 4 ?_; obtain ⟨o22, hv⟩ := hv; refine WL.mul (r := (z15 * p)) rfl rfl (wr o22) rfl <| Jc 2 <| Jd 4 <| W.block ?_; obtain ⟨I26, μ27, hv, hk40⟩ := hv; refine JE (σ := Int) (fun z25 w1 => I26 z25 /\ St TT w none w1 []) (fun z25 => [(0, nS Al l kl), (1, nI p), (4, .bool false), (5, nI (z15 * p)), (6, nI z16), (7, nI z25), (12, .bool (decide (((2 : Int) * z16) <= (l.length : Int))))]) (fun z25 => μ27 z25) (0 : Int) ⟨hv, hS⟩ ⟨rfl, rfl, rfl, rfl, rfl, rfl, rfl, trivial⟩ ?_; rintro z25 w28 ⟨hv, hS⟩; have hv := hk40 z25 hv; refine Jd 7 <| Jj rfl (fun c29 => ?_) (fun c29 => ?_)
  .have hv := hv.1 (oT c29); refine Jr <| JA <| W.block <| Jd 5 <| SL.call hS (Jdv  hv) Jrk rfl XN108 rfl rfl ?_; rintro _ _ w30 ⟨x31, A32, k33, rfl, rfl, hv⟩ hGw30 hS; have hS := hS.n1; refine Jc 2 <| SL.call hS (Jhw (hS.rd (i := 0) rfl) (hS.ro hl) hv) XF107 rfl XN107 rfl rfl ?_; rintro _ _ w35 ⟨r36, rfl, rfl, hv⟩ hGw35 hS; have hS := hS.n0; refine Ja <| Jj rfl (fun c37 => ?_) (fun c37 => ?_)
   .have hv := hv.1 (c37); refine Jd 4 <| W.ret <| ⟨_, rfl, Fin.nil ?_⟩
    exact (hS.pick [] rfl).fin rfl ⟨false, rfl, rfl, hv⟩
   have hv := hv.2 (c37); refine Jr <| Jd 2 ?_; obtain ⟨o38, hv⟩ := hv; refine WL.add (r := (z25 + 1)) rfl rfl (wr o38) rfl <| Jc 2 ?_; have hS := hS.pick [] rfl; exact ⟨(z25 + 1), sp rfl, hv.2, rfl, hv.1, hS⟩
  have hv := hv.2 (oF c29); refine JB <| Jd 2 ?_; obtain ⟨o39, hv⟩ := hv; refine WL.add (r := (z16 + 1)) rfl rfl (wr o39) rfl <| Jc 2 ?_; exact ⟨((z15 * p), (z16 + 1)), sp rfl, hv.2, rfl, hv.1, hS⟩
 have hv := hv.2 (oF c21); refine JB <| Jd 4 <| W.ret <| ⟨_, rfl, Fin.nil ?_⟩
 exact (hS.pick [] rfl).fin rfl ⟨true, rfl, rfl, hv⟩
def ZB (Pf : Int) (Mf : Int) (mf : LI) (Q : Int -> Prop) : Prop :=
  YB Pf Mf mf (fun r14 => ((r14 = 0) -> (Q 1)) /\ (¬ (r14 = 0) -> (Jba Pf (fun r17 => (((!r17) = true) -> (Q 1)) /\ ((!r17) = false -> (((Mf = 1) -> ((((mf.length : Int) ≠ (0 : Int)) -> (Q 1)) /\ (¬ ((mf.length : Int) ≠ (0 : Int)) -> (Q 0)))) /\ (¬ (Mf = 1) -> ((((mf.length : Int) ≠ Mf) -> (Q 1)) /\ (¬ ((mf.length : Int) ≠ Mf) -> (∃ (I25 : Int -> Prop) (μ26 : Int -> Nat), I25 0 /\ ∀ (z24 : Int), (I25 z24 -> (((z24 < Mf) -> ((((gi mf z24) < (0 : Int)) -> ((0 <= z24 /\ z24 < (mf.length : Nat)) /\ (Q 1))) /\ (¬ ((gi mf z24) < (0 : Int)) -> ((0 <= z24 /\ z24 < (mf.length : Nat)) /\ ((0 <= z24 /\ z24 < (mf.length : Nat)) /\ (((Pf <= (gi mf z24)) -> (Q 1)) /\ (¬ (Pf <= (gi mf z24)) -> ((I64 (z24 + 1)) /\ (I25 (z24 + 1) /\ μ26 (z24 + 1) < μ26 z24))))))))) /\ (¬ (z24 < Mf) -> (Jek mf Pf (fun r70 => (((!r70) = true) -> (Q 1)) /\ ((!r70) = false -> (Q 0)))))))))))))))))
theorem Jfd {w : World} {Q : Int -> Prop} {Pf : Int} {Mf : Int} {mf : LI} {Bf : Nat} {Af : Option Addr} {nf kf : Nat} (hf : Rd Bf w 1 Af nf kf (is mf)) (hv : ZB Pf Mf mf Q) :
   Calls Try.prog 34 #[.agg #[.int .i64 Pf, .int .i64 Mf, .slice Af nf kf]] w <| Rt w fun v Qr => ∃ (r0 : Int), v = .int .i64 r0 /\ Qr = [] /\ Q r0 := by
 have hnf := hf.ilen; subst hnf; refine Jn <| Jl (vs := [.agg #[nI Pf, nI Mf, nS Af mf kf]]) [2] XF34 rfl rfl rfl rfl ?_; have hS := Jt w; unfold ZB at hv; refine Jd 2 <| JH (z := 3) (cs := [nI Pf, nI Mf, nS Af mf kf]) hS rfl rfl rfl rfl ?_; intro g11 w12 hS; refine Jc 2 <| Jd 3 <| JD 0 JW J0 hS rfl ⟨rfl, rfl⟩ rfl <| SL.call hS (ZK (hS.ro hf) hv) XF33 rfl XN33 rfl rfl ?_; rintro _ _ w13 ⟨r14, rfl, rfl, hv⟩ hGw13 hS; have hS := hS.n0; refine Qn rfl rfl rfl <| Jq rfl rfl ?_; by_cases g15 : r14 = 0
 .have hv := hv.1 g15; rw [decide_eq_true g15]; refine Jc 6 <| JP rfl <| Jd 4 <| W.ret <| ⟨_, rfl, Fin.nil ?_⟩
  exact (hS.pick [] rfl).fin rfl ⟨(1 : Int), rfl, rfl, hv⟩
 have hv := hv.2 g15; rw [decide_eq_false g15]; refine WL.take rfl <| Jb (off := 0) J1 rfl rfl <| WL.take rfl <| Jp 0 0 XU3 hS rfl rfl rfl ⟨rfl, rfl⟩ <| WL.take rfl <| SL.call hS (Jna  hv) XF75 rfl XN75 rfl rfl ?_; rintro _ _ w16 ⟨r17, rfl, rfl, hv⟩ hGw16 hS; have hS := hS.n0; refine Jc 4 <| Jj rfl (fun c18 => ?_) (fun c18 => ?_)
 .have hv := hv.1 (c18); refine Jd 4 <| W.ret <| ⟨_, rfl, Fin.nil ?_⟩
  exact (hS.pick [] rfl).fin rfl ⟨(1 : Int), rfl, rfl, hv⟩
 have hv := hv.2 (c18); refine Jr <| Jd 3 <| Jb (off := 1) J5 rfl rfl <| Jp 0 1 XU3 hS rfl rfl rfl ⟨rfl, rfl⟩ <| Jc 2 <| Jj rfl (fun c19 => ?_) (fun c19 => ?_)
 .have hv := hv.1 (oT c19); refine Jd 3 <| Jb (off := 2) Qg rfl rfl <| Jp 0 2 Jh hS rfl rfl rfl ⟨rfl, rfl⟩ <| WL.len Jh rfl rfl <| Jc 2 <| Jj rfl (fun c20 => ?_) (fun c20 => ?_)
  .have hv := hv.1 (oT c20); refine Jd 4 <| W.ret <| ⟨_, rfl, Fin.nil ?_⟩
   exact (hS.pick [] rfl).fin rfl ⟨(1 : Int), rfl, rfl, hv⟩
  have hv := hv.2 (oF c20); refine Jr <| Jd 4 <| W.ret <| ⟨_, rfl, Fin.nil ?_⟩
  exact (hS.pick [] rfl).fin rfl ⟨(0 : Int), rfl, rfl, hv⟩
 have hv := hv.2 (oF c19); refine Jr <| Jd 3 <| Jb (off := 2) Qg rfl rfl <| Jp 0 2 Jh hS rfl rfl rfl ⟨rfl, rfl⟩ <| WL.len Jh rfl rfl <| Jb (off := 1) J5 rfl rfl <| Jp 0 1 XU3 hS rfl rfl rfl ⟨rfl, rfl⟩ <| Jc 2 <| Jj rfl (fun c21 => ?_) (fun c21 => ?_)
 .have hv := hv.1 (oT c21); refine Jd 4 <| W.ret <| ⟨_, rfl, Fin.nil ?_⟩
  exact (hS.pick [] rfl).fin rfl ⟨(1 : Int), rfl, rfl, hv⟩
 have hv := hv.2 (oF c21); refine Jr <| Jd 5 <| W.block ?_; obtain ⟨I25, μ26, hv, hk72⟩ := hv; refine JE (σ := Int) (fun z24 w1 => I25 z24 /\ St TT w none w1 [.row 24 3 (nA g11) 1 1 [nI Pf, nI Mf, nS Af mf kf]]) (fun z24 => [(1, nP g11), (2, nI 0), (3, nI z24)]) (fun z24 => μ26 z24) (0 : Int) ⟨hv, hS⟩ ⟨rfl, rfl, rfl, trivial⟩ ?_; rintro z24 w27 ⟨hv, hS⟩; have hv := hk72 z24 hv; refine Jd 4 <| Jb (off := 1) J5 rfl rfl <| Jp 0 1 XU3 hS rfl rfl rfl ⟨rfl, rfl⟩ <| Jc 2 <| Jj rfl (fun c28 => ?_) (fun c28 => ?_)
 .have hv := hv.1 (oT c28); refine Jr <| JA <| W.block <| JA ?_; by_cases g29 : (gi mf z24) < (0 : Int)
  .have hv := hv.1 g29; obtain ⟨o34, hv⟩ := hv; refine JK 16 [⟨[], [1], true⟩, ⟨[0], [], false⟩, ⟨[], [3], true⟩, ⟨[1, 2], [], true⟩, ⟨[3], [], false⟩, ⟨[4], [], true⟩, ⟨[5], [], true⟩, ⟨[6], [1], true⟩, ⟨[6, 7], [], false⟩, ⟨[6], [3], true⟩, ⟨[6, 8, 9], [], true⟩, ⟨[6, 10], [], false⟩, ⟨[6], [1], true⟩, ⟨[6, 12], [], false⟩, ⟨[6, 11, 13], [], true⟩, ⟨[6, 14], [], true⟩] [(32, .pointer (some ((⟨g11, 0, none⟩ : Addr).add 2))), (33, nS Af mf kf), (34, nI z24), (35, .pointer (some ((JU Af).add z24.toNat))), (36, nI (gi mf z24)), (37, .bool true), (38, .bool true), (39, undef), (40, undef), (41, undef), (42, undef), (43, undef), (44, undef), (45, undef), (46, undef), (47, .bool true)] Try.mixed (by kernel_rfl) rfl rfl ?_ ?_
   .refine ⟨fun _ _ _ => Jb (off := 2) Qg rfl rfl <| Ja ⟨rfl, rfl⟩, og hS fun _ _ hS => Jp 0 2 Jh hS rfl rfl rfl ⟨rfl, rfl⟩ <| Ja ⟨rfl, Jg _⟩, oD, fun _ _ _ => Jo Jh XE3 (hS.ro hf) rfl rfl o34 rfl <| Ja ⟨rfl, rfl⟩, og hS fun _ _ hS => Js XU3 rfl rfl (JJ (hS.ro hf) o34) rfl <| Ja ⟨rfl, Jg _⟩, ?_, oD, oD, oD, oD, oD, oD, oD, oD, oD, oD, trivial⟩; intro w36 hE RR; refine Q8 rfl rfl rfl ?_; rw [decide_eq_true g29]; exact Ja ⟨rfl, rfl⟩
   intro w47 hT; have hS := hS.grow hT; refine JC <| JP rfl <| Jd 4 <| W.ret <| ⟨_, rfl, Fin.nil ?_⟩
   exact (hS.pick [] rfl).fin rfl ⟨(1 : Int), rfl, rfl, hv⟩
  have hv := hv.2 g29; obtain ⟨o52, hv⟩ := hv; obtain ⟨o60, hv⟩ := hv; refine JK 16 [⟨[], [1], true⟩, ⟨[0], [], false⟩, ⟨[], [3], true⟩, ⟨[1, 2], [], true⟩, ⟨[3], [], false⟩, ⟨[4], [], true⟩, ⟨[5], [], true⟩, ⟨[6], [1], true⟩, ⟨[6, 7], [], false⟩, ⟨[6], [3], true⟩, ⟨[6, 8, 9], [], true⟩, ⟨[6, 10], [], false⟩, ⟨[6], [1], true⟩, ⟨[6, 12], [], false⟩, ⟨[6, 11, 13], [], true⟩, ⟨[6, 14], [], true⟩] [(32, .pointer (some ((⟨g11, 0, none⟩ : Addr).add 2))), (33, nS Af mf kf), (34, nI z24), (35, .pointer (some ((JU Af).add z24.toNat))), (36, nI (gi mf z24)), (37, .bool false), (38, .bool false), (39, .pointer (some ((⟨g11, 0, none⟩ : Addr).add 2))), (40, nS Af mf kf), (41, nI z24), (42, .pointer (some ((JU Af).add z24.toNat))), (43, nI (gi mf z24)), (44, nP g11), (45, nI Pf), (46, .bool (decide (Pf <= (gi mf z24)))), (47, .bool (decide (Pf <= (gi mf z24))))] Try.mixed (by kernel_rfl) rfl rfl ?_ ?_
  .refine ⟨fun _ _ _ => Jb (off := 2) Qg rfl rfl <| Ja ⟨rfl, rfl⟩, og hS fun _ _ hS => Jp 0 2 Jh hS rfl rfl rfl ⟨rfl, rfl⟩ <| Ja ⟨rfl, Jg _⟩, oD, fun _ _ _ => Jo Jh XE3 (hS.ro hf) rfl rfl o52 rfl <| Ja ⟨rfl, rfl⟩, og hS fun _ _ hS => Js XU3 rfl rfl (JJ (hS.ro hf) o52) rfl <| Ja ⟨rfl, Jg _⟩, ?_, oD, fun _ _ _ => WL.take rfl <| Jb (off := 2) Qg rfl rfl <| Ja ⟨rfl, rfl⟩, og hS fun _ _ hS => WL.take rfl <| Jp 0 2 Jh hS rfl rfl rfl ⟨rfl, rfl⟩ <| Ja ⟨rfl, Jg _⟩, oD, fun _ _ _ => WL.take rfl <| Jo Jh XE3 (hS.ro hf) rfl rfl o60 rfl <| Ja ⟨rfl, rfl⟩, og hS fun _ _ hS => WL.take rfl <| Js XU3 rfl rfl (JJ (hS.ro hf) o60) rfl <| Ja ⟨rfl, Jg _⟩, fun _ _ _ => WL.take rfl <| Jb (off := 0) J1 rfl rfl <| Ja ⟨rfl, rfl⟩, og hS fun _ _ hS => WL.take rfl <| Jp 0 0 XU3 hS rfl rfl rfl ⟨rfl, rfl⟩ <| Ja ⟨rfl, Jg _⟩, oD, oD, trivial⟩; intro w54 hE RR; refine Q8 rfl rfl rfl ?_; rw [decide_eq_false g29]; exact Ja ⟨rfl, rfl⟩
  intro w66 hT; have hS := hS.grow hT; refine JC <| Jj rfl (fun c67 => ?_) (fun c67 => ?_)
  .have hv := hv.1 (oT c67); refine Jd 4 <| W.ret <| ⟨_, rfl, Fin.nil ?_⟩
   exact (hS.pick [] rfl).fin rfl ⟨(1 : Int), rfl, rfl, hv⟩
  have hv := hv.2 (oF c67); refine Jr <| Jd 2 ?_; obtain ⟨o68, hv⟩ := hv; refine WL.add (r := (z24 + 1)) rfl rfl (wr o68) rfl <| Jc 2 ?_; exact ⟨(z24 + 1), sp rfl, hv.2, rfl, hv.1, hS⟩
 have hv := hv.2 (oF c28); refine JB <| Jd 3 <| Jb (off := 2) Qg rfl rfl <| Jp 0 2 Jh hS rfl rfl rfl ⟨rfl, rfl⟩ <| Jb (off := 0) J1 rfl rfl <| Jp 0 0 XU3 hS rfl rfl rfl ⟨rfl, rfl⟩ <| SL.call hS (Jsl (hS.ro hf) hv) XF76 rfl XN76 rfl rfl ?_; rintro _ _ w69 ⟨r70, rfl, rfl, hv⟩ hGw69 hS; have hS := hS.n0; refine Jc 2 <| Jj rfl (fun c71 => ?_) (fun c71 => ?_)
 .have hv := hv.1 (c71); refine Jd 4 <| W.ret <| ⟨_, rfl, Fin.nil ?_⟩
  exact (hS.pick [] rfl).fin rfl ⟨(1 : Int), rfl, rfl, hv⟩
 have hv := hv.2 (c71); refine Jr <| Jd 4 <| W.ret <| ⟨_, rfl, Fin.nil ?_⟩
 exact (hS.pick [] rfl).fin rfl ⟨(0 : Int), rfl, rfl, hv⟩
def Jck (Pf : Int) (Mf : Int) (mf : LI) (x : Int) (Q : Bool -> Prop) : Prop :=
  (((0 : Int) <= x) -> (YB Pf Mf mf (fun r15 => Q (decide (x < r15))))) /\ (¬ ((0 : Int) <= x) -> Q false)
theorem Jdw {w : World} {Q : Bool -> Prop} {Pf : Int} {Mf : Int} {mf : LI} {x : Int} {Bf : Nat} {Af : Option Addr} {nf kf : Nat} (hf : Rd Bf w 1 Af nf kf (is mf)) (hv : Jck Pf Mf mf x Q) :
   Calls Try.prog 72 #[.agg #[.int .i64 Pf, .int .i64 Mf, .slice Af nf kf], .int .i64 x] w <| Rt w fun v Qr => ∃ (r0 : Bool), v = .bool r0 /\ Qr = [] /\ Q r0 := by
 have hnf := hf.ilen; subst hnf; refine Jn <| Jl (vs := [.agg #[nI Pf, nI Mf, nS Af mf kf], nI x]) [4] Jod rfl rfl rfl rfl ?_; have hS := Jt w; unfold Jck at hv; refine Jd 2 <| JH (z := 3) (cs := [nI Pf, nI Mf, nS Af mf kf]) hS rfl rfl rfl rfl ?_; intro g11 w12 hS; refine Jc 2 <| Jd 4 <| Jq rfl rfl ?_; by_cases g13 : (0 : Int) <= x
 .have hv := hv.1 g13; rw [decide_eq_true g13]; refine Jc 3 <| JD 0 JW J0 hS rfl ⟨rfl, rfl⟩ rfl <| WL.take rfl <| SL.call hS (ZK (hS.ro hf) hv) XF33 rfl XN33 rfl rfl ?_; rintro _ _ w14 ⟨r15, rfl, rfl, hv⟩ hGw14 hS; have hS := hS.n0; refine Jc 5 <| W.ret <| ⟨_, rfl, Fin.nil ?_⟩
  exact (hS.pick [] rfl).fin rfl ⟨(decide (x < r15)), rfl, rfl, hv⟩
 have hv := hv.2 g13; rw [decide_eq_false g13]; refine Jc 7 <| W.ret <| ⟨_, rfl, Fin.nil ?_⟩
 exact (hS.pick [] rfl).fin rfl ⟨false, rfl, rfl, hv⟩
def Jem (Pf : Int) (Mf : Int) (mf : LI) (x : Int) (Q : Int -> Prop) : Prop :=
  Jck Pf Mf mf x (fun r14 => ((r14 = true) -> Q x) /\ (r14 = false -> (Q 0)))
theorem Jj3 {w : World} {Q : Int -> Prop} {Pf : Int} {Mf : Int} {mf : LI} {x : Int} {Bf : Nat} {Af : Option Addr} {nf kf : Nat} (hf : Rd Bf w 1 Af nf kf (is mf)) (hv : Jem Pf Mf mf x Q) :
   Calls Try.prog 98 #[.agg #[.int .i64 Pf, .int .i64 Mf, .slice Af nf kf], .int .i64 x] w <| Rt w fun v Qr => ∃ (r0 : Int), v = .int .i64 r0 /\ Qr = [] /\ Q r0 := by
 have hnf := hf.ilen; subst hnf; refine Jn <| Jl (vs := [.agg #[nI Pf, nI Mf, nS Af mf kf], nI x]) [4] XF98 rfl rfl rfl rfl ?_; have hS := Jt w; unfold Jem at hv; refine Jd 2 <| JH (z := 3) (cs := [nI Pf, nI Mf, nS Af mf kf]) hS rfl rfl rfl rfl ?_; intro g11 w12 hS; refine Jc 2 <| Jd 3 <| JD 0 JW J0 hS rfl ⟨rfl, rfl⟩ rfl <| Jq rfl rfl <| SL.call hS (Jdw (hS.ro hf) hv) Jod rfl XN72 rfl rfl ?_; rintro _ _ w13 ⟨r14, rfl, rfl, hv⟩ hGw13 hS; have hS := hS.n0; refine Ja <| Jj rfl (fun c15 => ?_) (fun c15 => ?_)
 .have hv := hv.1 (c15); refine Jd 5 <| W.ret <| ⟨_, rfl, Fin.nil ?_⟩
  exact (hS.pick [] rfl).fin rfl ⟨x, rfl, rfl, hv⟩
 have hv := hv.2 (c15); refine Jr <| Jd 4 <| W.ret <| ⟨_, rfl, Fin.nil ?_⟩
 exact (hS.pick [] rfl).fin rfl ⟨(0 : Int), rfl, rfl, hv⟩
def QP (Pf : Int) (Mf : Int) (mf : LI) (x : Int) (Q : LI -> Prop) : Prop :=
  ∃ (r16 : Int), Jem Pf Mf mf x (fun q => q = r16) /\ (∃ (x24 : LI), YY r16 Pf Mf (fun q => q = x24) /\ Q x24)
theorem Ys {w : World} {Q : LI -> Prop} {Pf : Int} {Mf : Int} {mf : LI} {x : Int} {Bf : Nat} {Af : Option Addr} {nf kf : Nat} (hf : Rd Bf w 1 Af nf kf (is mf)) (hv : QP Pf Mf mf x Q) :
  Calls Try.prog 113 #[.agg #[.int .i64 Pf, .int .i64 Mf, .slice Af nf kf], .int .i64 x] w <| Rt w fun v Qr => ∃ (x : LI)  (A : Option Addr) (c : Nat), v = .slice A x.length c /\ Qr = [.row 3 1 A x.length c (is x)] /\ Q x := by
 have hnf := hf.ilen; subst hnf; refine Jn <| Jl (vs := [.agg #[nI Pf, nI Mf, nS Af mf kf], nI x]) [4] Jfm rfl rfl rfl rfl ?_; have hS := Jt w; unfold QP at hv; refine Jd 2 <| JH (z := 3) (cs := [nI Pf, nI Mf, nS Af mf kf]) hS rfl rfl rfl rfl ?_; intro g11 w12 hS; refine Jc 2 <| JA ?_; obtain ⟨r16, o18, hv⟩ := hv; obtain ⟨x24, o31, hv⟩ := hv; have hS0 := hS; refine Ye 9 (fun iA => [false, false, false, false, false, false, false, true, false].getD iA false) (fun iC => match iC with | 8 => some 7 | _ => none) (fun _ v u => u = v) [⟨[], [2], false⟩, ⟨[], [1], true⟩, ⟨[0, 1], [], false⟩, ⟨[], [2], true⟩, ⟨[3], [], false⟩, ⟨[], [2], true⟩, ⟨[5], [], false⟩, ⟨[2, 4, 6], [], false⟩, ⟨[7], [], true⟩] [.k 5 (.agg #[nI Pf, nI Mf, nS Af mf kf]), .k 6 (nI x), .k 7 (nI r16), .k 8 (nP g11), .k 9 (nI Pf), .k 10 (.pointer (some ((⟨g11, 0, none⟩ : Addr).add 1))), .k 11 (nI Mf), eS w12 12 3 x24.length (is x24), eS w12 4 3 x24.length (is x24)] (fun _ => vbD) Try.mixed (by kernel_rfl) rfl rfl (fun _ _ _ _ _ _ _ h => h) ?_ ?_
 .refine ⟨og hS fun _ _ hS => JD 0 JW J0 hS rfl ⟨rfl, rfl⟩ rfl <| Ja ⟨rfl, Jg _⟩, oC, ?_, fun _ _ _ => Jb (off := 0) J1 rfl rfl <| Ja ⟨rfl, rfl⟩, og hS fun _ _ hS => Jp 0 0 XU3 hS rfl rfl rfl ⟨rfl, rfl⟩ <| Ja ⟨rfl, Jg _⟩, fun _ _ _ => Jb (off := 1) J5 rfl rfl <| Ja ⟨rfl, rfl⟩, og hS fun _ _ hS => Jp 0 1 XU3 hS rfl rfl rfl ⟨rfl, rfl⟩ <| Ja ⟨rfl, Jg _⟩, ?_, ?_, trivial⟩
  .intro w15 hE; have hS := hS.grow (hE rfl); intro RR; refine WL.call XF98 rfl XN98 rfl rfl (JF (Jj3 (hS.ro hf) o18)) ?_; rintro _ w17 ⟨_, hGw17, hRww17, hNww17, r16q, rfl, rfl, he⟩; subst he; exact Ja ⟨rfl, hGw17⟩
  .intro w23 hE; have hE := hE rfl; have hS := hS.grow hE; intro RR; refine WL.call Jrk rfl XN108 rfl rfl (JF (Jdv  o31)) ?_; rintro _ w28 ⟨_, hGw28, hRww28, hNww28, x24q, A25, k26, rfl, rfl, he⟩; subst he; have hO29 := (hRww28.get (i := 0) rfl).1; have hN30 : ∀ g, bl A25 = some g -> _ <= g := fun g hg => Nat.le_trans hE.size (hNww28.1 g hg); exact Ja ⟨_, rfl, hGw28, ⟨A25, k26, rfl, hO29, hN30⟩, (fun _ => fun g hg => ⟨hNww28.1 g hg, (hO29.bl_ge g hg).2⟩), (fun j h => by cases h)⟩
  intro w32 hE; rintro _ ⟨A25_7, k26_7, rfl, hO29_7, hN30_7⟩; intro RR; refine Qk rfl rfl ?_; exact Ja ⟨_, rfl, rfl, ⟨A25_7, k26_7, rfl, hO29_7, hN30_7⟩, (fun h => absurd h (by decide)), (fun j h => by cases h; exact ⟨_, rfl, rfl⟩)⟩
 intro vals w33 hT hVs hAp hCp; have hS := hS.grow hT; obtain ⟨A25_7, k26_7, hv7, hO29_7, hN30_7⟩ := hVs 7 (by decide); have hv8 : vals 8 = nS A25_7 x24 k26_7 := (hCp 8 7 (by decide) rfl).trans hv7; have hS := JX [] hS0 hS hO29_7 hN30_7 (fun s hs => by cases hs); refine Yg [(7, nS A25_7 x24 k26_7), (8, nS A25_7 x24 k26_7)] ⟨hv7, hv8, trivial⟩ <| JC <| W.ret <| ⟨_, rfl, Fin.nil ?_⟩
 exact (hS.pick [0] rfl).fin rfl ⟨x24, A25_7, k26_7, rfl, rfl, hv⟩
def YA (Pf : Int) (Mf : Int) (mf : LI) (l : LI) (Q : Int -> Prop) : Prop :=
  (I64 ((l.length : Int) - (1 : Int))) /\ (∃ (I20 : Int -> Int -> Prop) (μ21 : Int -> Int -> Nat), I20 0 ((l.length : Int) - (1 : Int)) /\ ∀ (z18 : Int) (z19 : Int), (I20 z18 z19 -> ((((0 : Int) <= z19) -> ((I64 (z18 * Pf)) /\ ((0 <= z19 /\ z19 < (l.length : Nat)) /\ ((I64 ((z18 * Pf) + (gi l z19))) /\ ((I64 (z19 - 1)) /\ (I20 ((z18 * Pf) + (gi l z19)) (z19 - 1) /\ μ21 ((z18 * Pf) + (gi l z19)) (z19 - 1) < μ21 z18 z19)))))) /\ (¬ ((0 : Int) <= z19) -> Q z18))))
theorem Jbl {w : World} {Q : Int -> Prop} {Pf : Int} {Mf : Int} {mf : LI} {l : LI} {Bf : Nat} {Af : Option Addr} {nf kf : Nat} (hf : Rd Bf w 1 Af nf kf (is mf)) {Bl : Nat} {Al : Option Addr} {nl kl : Nat} (hl : Rd Bl w 1 Al nl kl (is l)) (hv : YA Pf Mf mf l Q) :
   Calls Try.prog 114 #[.agg #[.int .i64 Pf, .int .i64 Mf, .slice Af nf kf], .slice Al nl kl] w <| Rt w fun v Qr => ∃ (r0 : Int), v = .int .i64 r0 /\ Qr = [] /\ Q r0 := by
 have hnf := hf.ilen; subst hnf; have hnl := hl.ilen; subst hnl; refine Jn <| Jl (vs := [.agg #[nI Pf, nI Mf, nS Af mf kf], nS Al l kl]) [4] Jmp rfl rfl rfl rfl ?_; have hS := Jt w; unfold YA at hv; refine Jd 2 <| JH (z := 3) (cs := [nI Pf, nI Mf, nS Af mf kf]) hS rfl rfl rfl rfl ?_; intro g11 w12 hS; refine Jc 2 <| Jd 8 <| WL.len Jh rfl rfl ?_; obtain ⟨o13, hv⟩ := hv; refine WL.sub (r := ((l.length : Int) - (1 : Int))) rfl rfl (wr o13) rfl <| Jc 2 <| W.block ?_; obtain ⟨I20, μ21, hv, hk39⟩ := hv; refine JE (σ := Int × Int) (fun q w1 => match q with | (z18, z19) => I20 z18 z19 /\ St TT w none w1 [.row 24 3 (nA g11) 1 1 [nI Pf, nI Mf, nS Af mf kf]]) (fun (z18, z19) => [(1, nS Al l kl), (2, nP g11), (4, nI 0), (5, nI z18), (6, nI z19)]) (fun (z18, z19) => μ21 z18 z19) ((0 : Int), ((l.length : Int) - (1 : Int))) ⟨hv, hS⟩ ⟨rfl, rfl, rfl, rfl, rfl, trivial⟩ ?_; rintro ⟨z18, z19⟩ w22 ⟨hv, hS⟩; have hv := hk39 z18 z19 hv; refine Jd 6 <| Jj rfl (fun c23 => ?_) (fun c23 => ?_)
 .have hv := hv.1 (oT c23); refine Jr <| JA <| W.block ?_; obtain ⟨o28, hv⟩ := hv; obtain ⟨o32, hv⟩ := hv; obtain ⟨o35, hv⟩ := hv; refine JK 10 [⟨[], [5], true⟩, ⟨[], [2], true⟩, ⟨[1], [], false⟩, ⟨[0, 2], [], true⟩, ⟨[], [1], true⟩, ⟨[], [6], true⟩, ⟨[4, 5], [], true⟩, ⟨[6], [], false⟩, ⟨[3, 7], [], true⟩, ⟨[8], [], true⟩] [(14, nI z18), (15, nP g11), (16, nI Pf), (17, nI (z18 * Pf)), (18, nS Al l kl), (19, nI z19), (20, .pointer (some ((JU Al).add z19.toNat))), (21, nI (gi l z19)), (22, nI ((z18 * Pf) + (gi l z19))), (5, nI ((z18 * Pf) + (gi l z19)))] Try.mixed (by kernel_rfl) rfl rfl ?_ ?_
  .refine ⟨oD, fun _ _ _ => Jb (off := 0) J1 rfl rfl <| Ja ⟨rfl, rfl⟩, og hS fun _ _ hS => Jp 0 0 XU3 hS rfl rfl rfl ⟨rfl, rfl⟩ <| Ja ⟨rfl, Jg _⟩, fun _ _ _ => WL.mul (r := (z18 * Pf)) rfl rfl (wr o28) rfl <| Ja ⟨rfl, rfl⟩, oD, oD, fun _ _ _ => Jo Jh XE3 (hS.ro hl) rfl rfl o32 rfl <| Ja ⟨rfl, rfl⟩, og hS fun _ _ hS => Js XU3 rfl rfl (JJ (hS.ro hl) o32) rfl <| Ja ⟨rfl, Jg _⟩, fun _ _ _ => WL.add (r := ((z18 * Pf) + (gi l z19))) rfl rfl (wr o35) rfl <| Ja ⟨rfl, rfl⟩, oD, trivial⟩
  intro w37 hT; have hS := hS.grow hT; refine JC <| Jd 2 ?_; obtain ⟨o38, hv⟩ := hv; refine WL.sub (r := (z19 - 1)) rfl rfl (wr o38) rfl <| Jc 2 ?_; exact ⟨(((z18 * Pf) + (gi l z19)), (z19 - 1)), sp rfl, hv.2, rfl, hv.1, hS⟩
 have hv := hv.2 (oF c23); refine JB <| Jd 5 <| W.ret <| ⟨_, rfl, Fin.nil ?_⟩
 exact (hS.pick [] rfl).fin rfl ⟨z18, rfl, rfl, hv⟩
def ZC (Pf : Int) (Mf : Int) (mf : LI) (x : Int) (y : Int) (Q : Int -> Prop) : Prop :=
  QP Pf Mf mf x (fun x14 => QP Pf Mf mf y (fun x19 => ∃ (I29 : LI -> Int -> Prop) (μ30 : LI -> Int -> Nat), I29 x14 (0 : Int) /\ ∀ (x27 : LI) (z28 : Int), (I29 x27 z28 -> (((z28 < (x14.length : Int)) -> ((0 <= z28 /\ z28 < (x14.length : Nat)) /\ ((0 <= z28 /\ z28 < (x19.length : Nat)) /\ ((I64 ((gi x27 z28) + (gi x19 z28))) /\ ((Pf ≠ 0) /\ ((0 <= z28 /\ z28 < (x14.length : Nat)) /\ ((I64 (z28 + 1)) /\ (I29 (si x27 z28 (((gi x27 z28) + (gi x19 z28)).tmod Pf)) (z28 + 1) /\ μ30 (si x27 z28 (((gi x27 z28) + (gi x19 z28)).tmod Pf)) (z28 + 1) < μ30 x27 z28)))))))) /\ (¬ (z28 < (x14.length : Int)) -> (YA Pf Mf mf x27 (fun r56 => Q r56)))))))
theorem Jc7 {w : World} {Q : Int -> Prop} {Pf : Int} {Mf : Int} {mf : LI} {x : Int} {y : Int} {Bf : Nat} {Af : Option Addr} {nf kf : Nat} (hf : Rd Bf w 1 Af nf kf (is mf)) (hv : ZC Pf Mf mf x y Q) :
   Calls Try.prog 89 #[.agg #[.int .i64 Pf, .int .i64 Mf, .slice Af nf kf], .int .i64 x, .int .i64 y] w <| Rt w fun v Qr => ∃ (r0 : Int), v = .int .i64 r0 /\ Qr = [] /\ Q r0 := by
 have hnf := hf.ilen; subst hnf; refine Jn <| Jl (vs := [.agg #[nI Pf, nI Mf, nS Af mf kf], nI x, nI y]) [6] XF89 rfl rfl rfl rfl ?_; have hS := Jt w; unfold ZC at hv; refine Jd 2 <| JH (z := 3) (cs := [nI Pf, nI Mf, nS Af mf kf]) hS rfl rfl rfl rfl ?_; intro g11 w12 hS; refine Jc 2 <| Jd 2 <| JD 0 JW J0 hS rfl ⟨rfl, rfl⟩ rfl <| Jq rfl rfl <| SL.call hS (Ys (hS.ro hf) hv) Jfm rfl Ji4 rfl rfl ?_; rintro _ _ w13 ⟨x14, A15, k16, rfl, rfl, hv⟩ hGw13 hS; have hS := hS.n1; refine Jc 2 <| Jd 2 <| JD 1 JW J0 hS rfl ⟨rfl, rfl⟩ rfl <| Jq rfl rfl <| SL.call hS (Ys (hS.ro hf) hv) Jfm rfl Ji4 rfl rfl ?_; rintro _ _ w18 ⟨x19, A20, k21, rfl, rfl, hv⟩ hGw18 hS; have hS := hS.n1; refine Jc 2 <| Jd 5 <| W.block ?_; obtain ⟨I29, μ30, hv, hk57⟩ := hv; refine JE (σ := LI × Int) (fun q w1 => match q with | (x27, z28) => I29 x27 z28 /\ St TT w none w1 [nR 3 A20 x19 k21, .row 3 1 A15 x14.length k16 (is x27), .row 24 3 (nA g11) 1 1 [nI Pf, nI Mf, nS Af mf kf]]) (fun (x27, z28) => [(3, nP g11), (6, nI 0), (7, nS A15 x14 k16), (8, nS A20 x19 k21), (9, nI z28)]) (fun (x27, z28) => μ30 x27 z28) (x14, (0 : Int)) ⟨hv, hS⟩ ⟨rfl, rfl, rfl, rfl, rfl, trivial⟩ ?_; rintro ⟨x27, z28⟩ w31 ⟨hv, hS⟩; have hv := hk57 x27 z28 hv; refine Jd 5 <| WL.len Jh rfl rfl <| Jc 2 <| Jj rfl (fun c32 => ?_) (fun c32 => ?_)
 .have hv := hv.1 (oT c32); refine Jr <| JA <| W.block ?_; obtain ⟨o38, hv⟩ := hv; obtain ⟨o43, hv⟩ := hv; obtain ⟨o46, hv⟩ := hv; obtain ⟨o50, hv⟩ := hv; refine JK 14 [⟨[], [7], true⟩, ⟨[], [9], true⟩, ⟨[], [7], true⟩, ⟨[], [9], true⟩, ⟨[2, 3], [], true⟩, ⟨[4], [], false⟩, ⟨[], [8], true⟩, ⟨[], [9], true⟩, ⟨[6, 7], [], true⟩, ⟨[8], [], false⟩, ⟨[5, 9], [], true⟩, ⟨[], [3], true⟩, ⟨[11], [], false⟩, ⟨[10, 12], [], true⟩] [(22, nS A15 x14 k16), (23, nI z28), (24, nS A15 x14 k16), (25, nI z28), (26, .pointer (some ((JU A15).add z28.toNat))), (27, nI (gi x27 z28)), (28, nS A20 x19 k21), (29, nI z28), (30, .pointer (some ((JU A20).add z28.toNat))), (31, nI (gi x19 z28)), (32, nI ((gi x27 z28) + (gi x19 z28))), (33, nP g11), (34, nI Pf), (35, nI (((gi x27 z28) + (gi x19 z28)).tmod Pf))] Try.mixed (by kernel_rfl) rfl rfl ?_ ?_
  .refine ⟨oD, oD, oD, oD, fun _ _ _ => Jo Jh XE3 (hS.rd (i := 1) rfl) rfl rfl o38 rfl <| Ja ⟨rfl, rfl⟩, og hS fun _ _ hS => Js XU3 rfl rfl (JJ (hS.rd (i := 1) rfl) o38) rfl <| Ja ⟨rfl, Jg _⟩, oD, oD, fun _ _ _ => Jo Jh XE3 (hS.rd (i := 0) rfl) rfl rfl o43 rfl <| Ja ⟨rfl, rfl⟩, og hS fun _ _ hS => Js XU3 rfl rfl (JJ (hS.rd (i := 0) rfl) o43) rfl <| Ja ⟨rfl, Jg _⟩, fun _ _ _ => WL.add (r := ((gi x27 z28) + (gi x19 z28))) rfl rfl (wr o46) rfl <| Ja ⟨rfl, rfl⟩, fun _ _ _ => Jb (off := 0) J1 rfl rfl <| Ja ⟨rfl, rfl⟩, og hS fun _ _ hS => Jp 2 0 XU3 hS rfl rfl rfl ⟨rfl, rfl⟩ <| Ja ⟨rfl, Jg _⟩, fun _ _ _ => QD (r := (((gi x27 z28) + (gi x19 z28)).tmod Pf)) rfl rfl o50 rfl rfl <| Ja ⟨rfl, rfl⟩, trivial⟩
  intro w51 hT; have hS := hS.grow hT; refine Je 14 rfl ?_; obtain ⟨o52, hv⟩ := hv; refine Jo Jh XE3 (hS.rd (i := 1) rfl) rfl rfl o52 rfl <| Ja <| Je 15 rfl <| Jf (cs' := is (si x27 z28 (((gi x27 z28) + (gi x19 z28)).tmod Pf))) 1 z28.toNat hS rfl XE3 rfl rfl rfl (Qu (hS.rd (i := 1) rfl) o52) (Qb _ _ _) ?_; intro w53 hS; refine Ja <| JC <| Jd 2 ?_; obtain ⟨o54, hv⟩ := hv; refine WL.add (r := (z28 + 1)) rfl rfl (wr o54) rfl <| Jc 2 ?_; exact ⟨(si x27 z28 (((gi x27 z28) + (gi x19 z28)).tmod Pf), (z28 + 1)), sp rfl, hv.2, rfl, hv.1, hS⟩
 have hv := hv.2 (oF c32); refine JB <| Jd 2 <| JD 2 JW J0 hS rfl ⟨rfl, rfl⟩ rfl <| Jq rfl rfl <| SL.call hS (Jbl (hS.ro hf) (hS.rd (i := 1) rfl) hv) Jmp rfl Jq7 rfl rfl ?_; rintro _ _ w55 ⟨r56, rfl, rfl, hv⟩ hGw55 hS; have hS := hS.n0; refine Jc 2 <| W.ret <| ⟨_, rfl, Fin.nil ?_⟩
 exact (hS.pick [] rfl).fin rfl ⟨r56, rfl, rfl, hv⟩
def Jb9 (Pf : Int) (Mf : Int) (mf : LI) (x : Int) (Q : Int -> Prop) : Prop :=
  QP Pf Mf mf x (fun x14 => ∃ (I24 : LI -> Int -> Prop) (μ25 : LI -> Int -> Nat), I24 x14 (0 : Int) /\ ∀ (x22 : LI) (z23 : Int), (I24 x22 z23 -> (((z23 < (x14.length : Int)) -> ((0 <= z23 /\ z23 < (x14.length : Nat)) /\ ((I64 (Pf - (gi x22 z23))) /\ ((Pf ≠ 0) /\ ((0 <= z23 /\ z23 < (x14.length : Nat)) /\ ((I64 (z23 + 1)) /\ (I24 (si x22 z23 ((Pf - (gi x22 z23)).tmod Pf)) (z23 + 1) /\ μ25 (si x22 z23 ((Pf - (gi x22 z23)).tmod Pf)) (z23 + 1) < μ25 x22 z23))))))) /\ (¬ (z23 < (x14.length : Int)) -> (YA Pf Mf mf x22 (fun r48 => Q r48))))))
theorem Jl3 {w : World} {Q : Int -> Prop} {Pf : Int} {Mf : Int} {mf : LI} {x : Int} {Bf : Nat} {Af : Option Addr} {nf kf : Nat} (hf : Rd Bf w 1 Af nf kf (is mf)) (hv : Jb9 Pf Mf mf x Q) :
   Calls Try.prog 91 #[.agg #[.int .i64 Pf, .int .i64 Mf, .slice Af nf kf], .int .i64 x] w <| Rt w fun v Qr => ∃ (r0 : Int), v = .int .i64 r0 /\ Qr = [] /\ Q r0 := by
 have hnf := hf.ilen; subst hnf; refine Jn <| Jl (vs := [.agg #[nI Pf, nI Mf, nS Af mf kf], nI x]) [4] XF91 rfl rfl rfl rfl ?_; have hS := Jt w; unfold Jb9 at hv; refine Jd 2 <| JH (z := 3) (cs := [nI Pf, nI Mf, nS Af mf kf]) hS rfl rfl rfl rfl ?_; intro g11 w12 hS; refine Jc 2 <| Jd 2 <| JD 0 JW J0 hS rfl ⟨rfl, rfl⟩ rfl <| Jq rfl rfl <| SL.call hS (Ys (hS.ro hf) hv) Jfm rfl Ji4 rfl rfl ?_; rintro _ _ w13 ⟨x14, A15, k16, rfl, rfl, hv⟩ hGw13 hS; have hS := hS.n1; refine Jc 2 <| Jd 5 <| W.block ?_; obtain ⟨I24, μ25, hv, hk49⟩ := hv; refine JE (σ := LI × Int) (fun q w1 => match q with | (x22, z23) => I24 x22 z23 /\ St TT w none w1 [.row 3 1 A15 x14.length k16 (is x22), .row 24 3 (nA g11) 1 1 [nI Pf, nI Mf, nS Af mf kf]]) (fun (x22, z23) => [(2, nP g11), (4, nI 0), (5, nS A15 x14 k16), (6, nI z23)]) (fun (x22, z23) => μ25 x22 z23) (x14, (0 : Int)) ⟨hv, hS⟩ ⟨rfl, rfl, rfl, rfl, trivial⟩ ?_; rintro ⟨x22, z23⟩ w26 ⟨hv, hS⟩; have hv := hk49 x22 z23 hv; refine Jd 5 <| WL.len Jh rfl rfl <| Jc 2 <| Jj rfl (fun c27 => ?_) (fun c27 => ?_)
 .have hv := hv.1 (oT c27); refine Jr <| JA <| W.block ?_; obtain ⟨o35, hv⟩ := hv; obtain ⟨o38, hv⟩ := hv; obtain ⟨o42, hv⟩ := hv; refine JK 12 [⟨[], [5], true⟩, ⟨[], [6], true⟩, ⟨[], [2], true⟩, ⟨[2], [], false⟩, ⟨[], [5], true⟩, ⟨[], [6], true⟩, ⟨[4, 5], [], true⟩, ⟨[6], [], false⟩, ⟨[3, 7], [], true⟩, ⟨[], [2], true⟩, ⟨[9], [], false⟩, ⟨[8, 10], [], true⟩] [(16, nS A15 x14 k16), (17, nI z23), (18, nP g11), (19, nI Pf), (20, nS A15 x14 k16), (21, nI z23), (22, .pointer (some ((JU A15).add z23.toNat))), (23, nI (gi x22 z23)), (24, nI (Pf - (gi x22 z23))), (25, nP g11), (26, nI Pf), (27, nI ((Pf - (gi x22 z23)).tmod Pf))] Try.mixed (by kernel_rfl) rfl rfl ?_ ?_
  .refine ⟨oD, oD, fun _ _ _ => Jb (off := 0) J1 rfl rfl <| Ja ⟨rfl, rfl⟩, og hS fun _ _ hS => Jp 1 0 XU3 hS rfl rfl rfl ⟨rfl, rfl⟩ <| Ja ⟨rfl, Jg _⟩, oD, oD, fun _ _ _ => Jo Jh XE3 (hS.rd (i := 0) rfl) rfl rfl o35 rfl <| Ja ⟨rfl, rfl⟩, og hS fun _ _ hS => Js XU3 rfl rfl (JJ (hS.rd (i := 0) rfl) o35) rfl <| Ja ⟨rfl, Jg _⟩, fun _ _ _ => WL.sub (r := (Pf - (gi x22 z23))) rfl rfl (wr o38) rfl <| Ja ⟨rfl, rfl⟩, fun _ _ _ => Jb (off := 0) J1 rfl rfl <| Ja ⟨rfl, rfl⟩, og hS fun _ _ hS => Jp 1 0 XU3 hS rfl rfl rfl ⟨rfl, rfl⟩ <| Ja ⟨rfl, Jg _⟩, fun _ _ _ => QD (r := ((Pf - (gi x22 z23)).tmod Pf)) rfl rfl o42 rfl rfl <| Ja ⟨rfl, rfl⟩, trivial⟩
  intro w43 hT; have hS := hS.grow hT; refine Je 12 rfl ?_; obtain ⟨o44, hv⟩ := hv; refine Jo Jh XE3 (hS.rd (i := 0) rfl) rfl rfl o44 rfl <| Ja <| Je 13 rfl <| Jf (cs' := is (si x22 z23 ((Pf - (gi x22 z23)).tmod Pf))) 0 z23.toNat hS rfl XE3 rfl rfl rfl (Qu (hS.rd (i := 0) rfl) o44) (Qb _ _ _) ?_; intro w45 hS; refine Ja <| JC <| Jd 2 ?_; obtain ⟨o46, hv⟩ := hv; refine WL.add (r := (z23 + 1)) rfl rfl (wr o46) rfl <| Jc 2 ?_; exact ⟨(si x22 z23 ((Pf - (gi x22 z23)).tmod Pf), (z23 + 1)), sp rfl, hv.2, rfl, hv.1, hS⟩
 have hv := hv.2 (oF c27); refine JB <| Jd 2 <| JD 1 JW J0 hS rfl ⟨rfl, rfl⟩ rfl <| Jq rfl rfl <| SL.call hS (Jbl (hS.ro hf) (hS.rd (i := 0) rfl) hv) Jmp rfl Jq7 rfl rfl ?_; rintro _ _ w47 ⟨r48, rfl, rfl, hv⟩ hGw47 hS; have hS := hS.n0; refine Jc 2 <| W.ret <| ⟨_, rfl, Fin.nil ?_⟩
 exact (hS.pick [] rfl).fin rfl ⟨r48, rfl, rfl, hv⟩
def YC (Pf : Int) (Mf : Int) (mf : LI) (x : Int) (y : Int) (Q : Int -> Prop) : Prop :=
  QP Pf Mf mf x (fun x14 => QP Pf Mf mf y (fun x19 => (I64 ((2 : Int) * Mf)) /\ ((I64 (((2 : Int) * Mf) - (1 : Int))) /\ ((0 <= (((2 : Int) * Mf) - (1 : Int)) /\ (((2 : Int) * Mf) - (1 : Int)) * 8 <= 281474976710656 /\ (((2 : Int) * Mf) - (1 : Int)) <= 281474976710656) /\ (∃ (I35 : LI -> Int -> Prop) (μ36 : LI -> Int -> Nat), I35 (List.replicate (((2 : Int) * Mf) - (1 : Int)).toNat (0 : Int)) (0 : Int) /\ ∀ (x33 : LI) (z34 : Int), (I35 x33 z34 -> (((z34 < Mf) -> (∃ (I45 : LI -> Int -> Prop) (μ46 : LI -> Int -> Nat), I45 x33 (0 : Int) /\ ∀ (x43 : LI) (z44 : Int), (I45 x43 z44 -> (((z44 < Mf) -> ((I64 (z34 + z44)) /\ ((I64 (z34 + z44)) /\ ((0 <= (z34 + z44) /\ (z34 + z44) < ((((2 : Int) * Mf) - (1 : Int)).toNat : Nat)) /\ ((0 <= z34 /\ z34 < (x14.length : Nat)) /\ ((0 <= z44 /\ z44 < (x19.length : Nat)) /\ ((I64 ((gi x14 z34) * (gi x19 z44))) /\ ((I64 ((gi x43 (z34 + z44)) + ((gi x14 z34) * (gi x19 z44)))) /\ ((Pf ≠ 0) /\ ((0 <= (z34 + z44) /\ (z34 + z44) < ((((2 : Int) * Mf) - (1 : Int)).toNat : Nat)) /\ ((I64 (z44 + 1)) /\ (I45 (si x43 (z34 + z44) (((gi x43 (z34 + z44)) + ((gi x14 z34) * (gi x19 z44))).tmod Pf)) (z44 + 1) /\ μ46 (si x43 (z34 + z44) (((gi x43 (z34 + z44)) + ((gi x14 z34) * (gi x19 z44))).tmod Pf)) (z44 + 1) < μ46 x43 z44)))))))))))) /\ (¬ (z44 < Mf) -> ((I64 (z34 + 1)) /\ (I35 x43 (z34 + 1) /\ μ36 x43 (z34 + 1) < μ36 x33 z34))))))) /\ (¬ (z34 < Mf) -> ((I64 ((2 : Int) * Mf)) /\ ((I64 (((2 : Int) * Mf) - (2 : Int))) /\ (∃ (I94 : LI -> Int -> Prop) (μ95 : LI -> Int -> Nat), I94 x33 (((2 : Int) * Mf) - (2 : Int)) /\ ∀ (x92 : LI) (z93 : Int), (I94 x92 z93 -> (((Mf <= z93) -> (∃ (I104 : LI -> Int -> Prop) (μ105 : LI -> Int -> Nat), I104 x92 (0 : Int) /\ ∀ (x102 : LI) (z103 : Int), (I104 x102 z103 -> (((z103 < Mf) -> ((I64 (z93 - Mf)) /\ ((I64 ((z93 - Mf) + z103)) /\ ((I64 (z93 - Mf)) /\ ((I64 ((z93 - Mf) + z103)) /\ ((0 <= ((z93 - Mf) + z103) /\ ((z93 - Mf) + z103) < ((((2 : Int) * Mf) - (1 : Int)).toNat : Nat)) /\ ((0 <= z93 /\ z93 < ((((2 : Int) * Mf) - (1 : Int)).toNat : Nat)) /\ ((I64 (Pf - (gi x102 z93))) /\ ((0 <= z103 /\ z103 < (mf.length : Nat)) /\ ((I64 ((Pf - (gi x102 z93)) * (gi mf z103))) /\ ((I64 ((gi x102 ((z93 - Mf) + z103)) + ((Pf - (gi x102 z93)) * (gi mf z103)))) /\ ((Pf ≠ 0) /\ ((0 <= ((z93 - Mf) + z103) /\ ((z93 - Mf) + z103) < ((((2 : Int) * Mf) - (1 : Int)).toNat : Nat)) /\ ((I64 (z103 + 1)) /\ (I104 (si x102 ((z93 - Mf) + z103) (((gi x102 ((z93 - Mf) + z103)) + ((Pf - (gi x102 z93)) * (gi mf z103))).tmod Pf)) (z103 + 1) /\ μ105 (si x102 ((z93 - Mf) + z103) (((gi x102 ((z93 - Mf) + z103)) + ((Pf - (gi x102 z93)) * (gi mf z103))).tmod Pf)) (z103 + 1) < μ105 x102 z103))))))))))))))) /\ (¬ (z103 < Mf) -> ((I64 (z93 - 1)) /\ (I94 x102 (z93 - 1) /\ μ95 x102 (z93 - 1) < μ95 x92 z93))))))) /\ (¬ (Mf <= z93) -> ((0 <= Mf /\ Mf <= ((((2 : Int) * Mf) - (1 : Int)).toNat : Nat)) /\ (∃ (r165 : Int), YA Pf Mf mf (x92.take Mf.toNat) (fun q => q = r165) /\ Q r165))))))))))))))))
theorem Zb {w : World} {Q : Int -> Prop} {Pf : Int} {Mf : Int} {mf : LI} {x : Int} {y : Int} {Bf : Nat} {Af : Option Addr} {nf kf : Nat} (hf : Rd Bf w 1 Af nf kf (is mf)) (hv : YC Pf Mf mf x y Q) :
   Calls Try.prog 81 #[.agg #[.int .i64 Pf, .int .i64 Mf, .slice Af nf kf], .int .i64 x, .int .i64 y] w <| Rt w fun v Qr => ∃ (r0 : Int), v = .int .i64 r0 /\ Qr = [] /\ Q r0 := by
 have hnf := hf.ilen; subst hnf; refine Jn <| Jl (vs := [.agg #[nI Pf, nI Mf, nS Af mf kf], nI x, nI y]) [6] Ji5 rfl rfl rfl rfl ?_; have hS := Jt w; unfold YC at hv; refine Jd 2 <| JH (z := 3) (cs := [nI Pf, nI Mf, nS Af mf kf]) hS rfl rfl rfl rfl ?_; intro g11 w12 hS; refine Jc 2 <| Jd 2 <| JD 0 JW J0 hS rfl ⟨rfl, rfl⟩ rfl <| Jq rfl rfl <| SL.call hS (Ys (hS.ro hf) hv) Jfm rfl Ji4 rfl rfl ?_; rintro _ _ w13 ⟨x14, A15, k16, rfl, rfl, hv⟩ hGw13 hS; have hS := hS.n1; refine Jc 2 <| Jd 2 <| JD 1 JW J0 hS rfl ⟨rfl, rfl⟩ rfl <| Jq rfl rfl <| SL.call hS (Ys (hS.ro hf) hv) Jfm rfl Ji4 rfl rfl ?_; rintro _ _ w18 ⟨x19, A20, k21, rfl, rfl, hv⟩ hGw18 hS; have hS := hS.n1; refine Jc 2 <| Jd 2 <| Jb (off := 1) J5 rfl rfl <| Jp 2 1 XU3 hS rfl rfl rfl ⟨rfl, rfl⟩ ?_; obtain ⟨o23, hv⟩ := hv; refine WL.mul (r := ((2 : Int) * Mf)) rfl rfl (wr o23) rfl ?_; obtain ⟨o24, hv⟩ := hv; refine WL.sub (r := (((2 : Int) * Mf) - (1 : Int))) rfl rfl (wr o24) rfl ?_; obtain ⟨o25, hv⟩ := hv; refine QI (J := (((2 : Int) * Mf) - (1 : Int))) hS Jh XE3 rfl rfl o25 (QG _) rfl ?_; intro A26 w27 hS; refine Jc 2 <| Jd 5 <| W.block ?_; obtain ⟨I35, μ36, hv, hk171⟩ := hv; refine JE (σ := LI × Int) (fun q w1 => match q with | (x33, z34) => I35 x33 z34 /\ St TT w none w1 [.row 3 1 A26 ((((2 : Int) * Mf) - (1 : Int)).toNat) ((((2 : Int) * Mf) - (1 : Int)).toNat) (is x33), nR 3 A20 x19 k21, nR 3 A15 x14 k16, .row 24 3 (nA g11) 1 1 [nI Pf, nI Mf, nS Af mf kf]]) (fun (x33, z34) => [(3, nP g11), (6, nI 0), (7, nS A15 x14 k16), (8, nS A20 x19 k21), (9, .slice A26 ((((2 : Int) * Mf) - (1 : Int)).toNat) ((((2 : Int) * Mf) - (1 : Int)).toNat)), (10, nI z34)]) (fun (x33, z34) => μ36 x33 z34) (List.replicate (((2 : Int) * Mf) - (1 : Int)).toNat (0 : Int), (0 : Int)) ⟨hv, hS⟩ ⟨rfl, rfl, rfl, rfl, rfl, rfl, trivial⟩ ?_; rintro ⟨x33, z34⟩ w37 ⟨hv, hS⟩; have hv := hk171 x33 z34 hv; refine Jd 4 <| Jb (off := 1) J5 rfl rfl <| Jp 3 1 XU3 hS rfl rfl rfl ⟨rfl, rfl⟩ <| Jc 2 <| Jj rfl (fun c38 => ?_) (fun c38 => ?_)
 .have hv := hv.1 (oT c38); refine Jr <| JA <| W.block <| Jd 4 <| W.block ?_; obtain ⟨I45, μ46, hv, hk85⟩ := hv; refine JE (σ := LI × Int) (fun q w1 => match q with | (x43, z44) => I45 x43 z44 /\ St TT w none w1 [.row 3 1 A26 ((((2 : Int) * Mf) - (1 : Int)).toNat) ((((2 : Int) * Mf) - (1 : Int)).toNat) (is x43), nR 3 A20 x19 k21, nR 3 A15 x14 k16, .row 24 3 (nA g11) 1 1 [nI Pf, nI Mf, nS Af mf kf]]) (fun (x43, z44) => [(3, nP g11), (6, nI 0), (7, nS A15 x14 k16), (8, nS A20 x19 k21), (9, .slice A26 ((((2 : Int) * Mf) - (1 : Int)).toNat) ((((2 : Int) * Mf) - (1 : Int)).toNat)), (10, nI z34), (11, nI z44), (28, .bool (decide (z34 < Mf)))]) (fun (x43, z44) => μ46 x43 z44) (x33, (0 : Int)) ⟨hv, hS⟩ ⟨rfl, rfl, rfl, rfl, rfl, rfl, rfl, rfl, trivial⟩ ?_; rintro ⟨x43, z44⟩ w47 ⟨hv, hS⟩; have hv := hk85 x43 z44 hv; refine Jd 4 <| Jb (off := 1) J5 rfl rfl <| Jp 3 1 XU3 hS rfl rfl rfl ⟨rfl, rfl⟩ <| Jc 2 <| Jj rfl (fun c48 => ?_) (fun c48 => ?_)
  .have hv := hv.1 (oT c48); refine Jr <| JA <| W.block ?_; obtain ⟨o53, hv⟩ := hv; obtain ⟨o58, hv⟩ := hv; obtain ⟨o60, hv⟩ := hv; obtain ⟨o65, hv⟩ := hv; obtain ⟨o70, hv⟩ := hv; obtain ⟨o73, hv⟩ := hv; obtain ⟨o75, hv⟩ := hv; obtain ⟨o79, hv⟩ := hv; refine JK 23 [⟨[], [9], true⟩, ⟨[], [10], true⟩, ⟨[], [11], true⟩, ⟨[1, 2], [], true⟩, ⟨[], [9], true⟩, ⟨[], [10], true⟩, ⟨[], [11], true⟩, ⟨[5, 6], [], true⟩, ⟨[4, 7], [], true⟩, ⟨[8], [], false⟩, ⟨[], [7], true⟩, ⟨[], [10], true⟩, ⟨[10, 11], [], true⟩, ⟨[12], [], false⟩, ⟨[], [8], true⟩, ⟨[], [11], true⟩, ⟨[14, 15], [], true⟩, ⟨[16], [], false⟩, ⟨[13, 17], [], true⟩, ⟨[9, 18], [], true⟩, ⟨[], [3], true⟩, ⟨[20], [], false⟩, ⟨[19, 21], [], true⟩] [(37, .slice A26 ((((2 : Int) * Mf) - (1 : Int)).toNat) ((((2 : Int) * Mf) - (1 : Int)).toNat)), (38, nI z34), (39, nI z44), (40, nI (z34 + z44)), (41, .slice A26 ((((2 : Int) * Mf) - (1 : Int)).toNat) ((((2 : Int) * Mf) - (1 : Int)).toNat)), (42, nI z34), (43, nI z44), (44, nI (z34 + z44)), (45, .pointer (some ((JU A26).add ((z34 + z44).toNat)))), (46, nI (gi x43 (z34 + z44))), (47, nS A15 x14 k16), (48, nI z34), (49, .pointer (some ((JU A15).add z34.toNat))), (50, nI (gi x14 z34)), (51, nS A20 x19 k21), (52, nI z44), (53, .pointer (some ((JU A20).add z44.toNat))), (54, nI (gi x19 z44)), (55, nI ((gi x14 z34) * (gi x19 z44))), (56, nI ((gi x43 (z34 + z44)) + ((gi x14 z34) * (gi x19 z44)))), (57, nP g11), (58, nI Pf), (59, nI (((gi x43 (z34 + z44)) + ((gi x14 z34) * (gi x19 z44))).tmod Pf))] Try.mixed (by kernel_rfl) rfl rfl ?_ ?_
   .refine ⟨oD, oD, oD, fun _ _ _ => WL.add (r := (z34 + z44)) rfl rfl (wr o53) rfl <| Ja ⟨rfl, rfl⟩, oD, oD, oD, fun _ _ _ => WL.add (r := (z34 + z44)) rfl rfl (wr o58) rfl <| Ja ⟨rfl, rfl⟩, fun _ _ _ => Jo Jh XE3 (hS.rd (i := 0) rfl) rfl rfl o60 rfl <| Ja ⟨rfl, rfl⟩, og hS fun _ _ hS => Js XU3 rfl rfl (JJ (hS.rd (i := 0) rfl) o60) rfl <| Ja ⟨rfl, Jg _⟩, oD, oD, fun _ _ _ => Jo Jh XE3 (hS.rd (i := 2) rfl) rfl rfl o65 rfl <| Ja ⟨rfl, rfl⟩, og hS fun _ _ hS => Js XU3 rfl rfl (JJ (hS.rd (i := 2) rfl) o65) rfl <| Ja ⟨rfl, Jg _⟩, oD, oD, fun _ _ _ => Jo Jh XE3 (hS.rd (i := 1) rfl) rfl rfl o70 rfl <| Ja ⟨rfl, rfl⟩, og hS fun _ _ hS => Js XU3 rfl rfl (JJ (hS.rd (i := 1) rfl) o70) rfl <| Ja ⟨rfl, Jg _⟩, fun _ _ _ => WL.mul (r := ((gi x14 z34) * (gi x19 z44))) rfl rfl (wr o73) rfl <| Ja ⟨rfl, rfl⟩, fun _ _ _ => WL.add (r := ((gi x43 (z34 + z44)) + ((gi x14 z34) * (gi x19 z44)))) rfl rfl (wr o75) rfl <| Ja ⟨rfl, rfl⟩, fun _ _ _ => Jb (off := 0) J1 rfl rfl <| Ja ⟨rfl, rfl⟩, og hS fun _ _ hS => Jp 3 0 XU3 hS rfl rfl rfl ⟨rfl, rfl⟩ <| Ja ⟨rfl, Jg _⟩, fun _ _ _ => QD (r := (((gi x43 (z34 + z44)) + ((gi x14 z34) * (gi x19 z44))).tmod Pf)) rfl rfl o79 rfl rfl <| Ja ⟨rfl, rfl⟩, trivial⟩
   intro w80 hT; have hS := hS.grow hT; refine Je 23 rfl ?_; obtain ⟨o81, hv⟩ := hv; refine Jo Jh XE3 (hS.rd (i := 0) rfl) rfl rfl o81 rfl <| Ja <| Je 24 rfl <| Jf (cs' := is (si x43 (z34 + z44) (((gi x43 (z34 + z44)) + ((gi x14 z34) * (gi x19 z44))).tmod Pf))) 0 (z34 + z44).toNat hS rfl XE3 rfl rfl rfl (Qu (hS.rd (i := 0) rfl) o81) (Qb _ _ _) ?_; intro w82 hS; refine Ja <| JC <| Jd 2 ?_; obtain ⟨o83, hv⟩ := hv; refine WL.add (r := (z44 + 1)) rfl rfl (wr o83) rfl <| Jc 2 ?_; exact ⟨(si x43 (z34 + z44) (((gi x43 (z34 + z44)) + ((gi x14 z34) * (gi x19 z44))).tmod Pf), (z44 + 1)), sp rfl, hv.2, rfl, hv.1, hS⟩
  have hv := hv.2 (oF c48); refine JB <| Jd 2 ?_; obtain ⟨o84, hv⟩ := hv; refine WL.add (r := (z34 + 1)) rfl rfl (wr o84) rfl <| Jc 2 ?_; exact ⟨(x43, (z34 + 1)), sp rfl, hv.2, rfl, hv.1, hS⟩
 have hv := hv.2 (oF c38); refine JB <| Jd 3 <| Jb (off := 1) J5 rfl rfl <| Jp 3 1 XU3 hS rfl rfl rfl ⟨rfl, rfl⟩ ?_; obtain ⟨o86, hv⟩ := hv; refine WL.mul (r := ((2 : Int) * Mf)) rfl rfl (wr o86) rfl ?_; obtain ⟨o87, hv⟩ := hv; refine WL.sub (r := (((2 : Int) * Mf) - (2 : Int))) rfl rfl (wr o87) rfl <| Jc 2 <| W.block ?_; obtain ⟨I94, μ95, hv, hk170⟩ := hv; refine JE (σ := LI × Int) (fun q w1 => match q with | (x92, z93) => I94 x92 z93 /\ St TT w none w1 [.row 3 1 A26 ((((2 : Int) * Mf) - (1 : Int)).toNat) ((((2 : Int) * Mf) - (1 : Int)).toNat) (is x92), nR 3 A20 x19 k21, nR 3 A15 x14 k16, .row 24 3 (nA g11) 1 1 [nI Pf, nI Mf, nS Af mf kf]]) (fun (x92, z93) => [(3, nP g11), (6, nI 0), (9, .slice A26 ((((2 : Int) * Mf) - (1 : Int)).toNat) ((((2 : Int) * Mf) - (1 : Int)).toNat)), (12, nI z93)]) (fun (x92, z93) => μ95 x92 z93) (x33, (((2 : Int) * Mf) - (2 : Int))) ⟨hv, hS⟩ ⟨rfl, rfl, rfl, rfl, trivial⟩ ?_; rintro ⟨x92, z93⟩ w96 ⟨hv, hS⟩; have hv := hk170 x92 z93 hv; refine Jd 4 <| Jb (off := 1) J5 rfl rfl <| Jp 3 1 XU3 hS rfl rfl rfl ⟨rfl, rfl⟩ <| Jc 2 <| Jj rfl (fun c97 => ?_) (fun c97 => ?_)
 .have hv := hv.1 (oT c97); refine Jr <| JA <| W.block <| Jd 4 <| W.block ?_; obtain ⟨I104, μ105, hv, hk157⟩ := hv; refine JE (σ := LI × Int) (fun q w1 => match q with | (x102, z103) => I104 x102 z103 /\ St TT w none w1 [.row 3 1 A26 ((((2 : Int) * Mf) - (1 : Int)).toNat) ((((2 : Int) * Mf) - (1 : Int)).toNat) (is x102), nR 3 A20 x19 k21, nR 3 A15 x14 k16, .row 24 3 (nA g11) 1 1 [nI Pf, nI Mf, nS Af mf kf]]) (fun (x102, z103) => [(3, nP g11), (6, nI 0), (9, .slice A26 ((((2 : Int) * Mf) - (1 : Int)).toNat) ((((2 : Int) * Mf) - (1 : Int)).toNat)), (12, nI z93), (13, nI z103), (68, .bool (decide (Mf <= z93)))]) (fun (x102, z103) => μ105 x102 z103) (x92, (0 : Int)) ⟨hv, hS⟩ ⟨rfl, rfl, rfl, rfl, rfl, rfl, trivial⟩ ?_; rintro ⟨x102, z103⟩ w106 ⟨hv, hS⟩; have hv := hk157 x102 z103 hv; refine Jd 4 <| Jb (off := 1) J5 rfl rfl <| Jp 3 1 XU3 hS rfl rfl rfl ⟨rfl, rfl⟩ <| Jc 2 <| Jj rfl (fun c107 => ?_) (fun c107 => ?_)
  .have hv := hv.1 (oT c107); refine Jr <| JA <| W.block ?_; obtain ⟨o113, hv⟩ := hv; obtain ⟨o116, hv⟩ := hv; obtain ⟨o122, hv⟩ := hv; obtain ⟨o125, hv⟩ := hv; obtain ⟨o127, hv⟩ := hv; obtain ⟨o134, hv⟩ := hv; obtain ⟨o137, hv⟩ := hv; obtain ⟨o142, hv⟩ := hv; obtain ⟨o145, hv⟩ := hv; obtain ⟨o147, hv⟩ := hv; obtain ⟨o151, hv⟩ := hv; refine JK 33 [⟨[], [9], true⟩, ⟨[], [12], true⟩, ⟨[], [3], true⟩, ⟨[2], [], false⟩, ⟨[1, 3], [], true⟩, ⟨[], [13], true⟩, ⟨[4, 5], [], true⟩, ⟨[], [9], true⟩, ⟨[], [12], true⟩, ⟨[], [3], true⟩, ⟨[9], [], false⟩, ⟨[8, 10], [], true⟩, ⟨[], [13], true⟩, ⟨[11, 12], [], true⟩, ⟨[7, 13], [], true⟩, ⟨[14], [], false⟩, ⟨[], [3], true⟩, ⟨[16], [], false⟩, ⟨[], [9], true⟩, ⟨[], [12], true⟩, ⟨[18, 19], [], true⟩, ⟨[20], [], false⟩, ⟨[17, 21], [], true⟩, ⟨[], [3], true⟩, ⟨[23], [], false⟩, ⟨[], [13], true⟩, ⟨[24, 25], [], true⟩, ⟨[26], [], false⟩, ⟨[22, 27], [], true⟩, ⟨[15, 28], [], true⟩, ⟨[], [3], true⟩, ⟨[30], [], false⟩, ⟨[29, 31], [], true⟩] [(77, .slice A26 ((((2 : Int) * Mf) - (1 : Int)).toNat) ((((2 : Int) * Mf) - (1 : Int)).toNat)), (78, nI z93), (79, .pointer (some ((⟨g11, 0, none⟩ : Addr).add 1))), (80, nI Mf), (81, nI (z93 - Mf)), (82, nI z103), (83, nI ((z93 - Mf) + z103)), (84, .slice A26 ((((2 : Int) * Mf) - (1 : Int)).toNat) ((((2 : Int) * Mf) - (1 : Int)).toNat)), (85, nI z93), (86, .pointer (some ((⟨g11, 0, none⟩ : Addr).add 1))), (87, nI Mf), (88, nI (z93 - Mf)), (89, nI z103), (90, nI ((z93 - Mf) + z103)), (91, .pointer (some ((JU A26).add (((z93 - Mf) + z103).toNat)))), (92, nI (gi x102 ((z93 - Mf) + z103))), (93, nP g11), (94, nI Pf), (95, .slice A26 ((((2 : Int) * Mf) - (1 : Int)).toNat) ((((2 : Int) * Mf) - (1 : Int)).toNat)), (96, nI z93), (97, .pointer (some ((JU A26).add z93.toNat))), (98, nI (gi x102 z93)), (99, nI (Pf - (gi x102 z93))), (100, .pointer (some ((⟨g11, 0, none⟩ : Addr).add 2))), (101, nS Af mf kf), (102, nI z103), (103, .pointer (some ((JU Af).add z103.toNat))), (104, nI (gi mf z103)), (105, nI ((Pf - (gi x102 z93)) * (gi mf z103))), (106, nI ((gi x102 ((z93 - Mf) + z103)) + ((Pf - (gi x102 z93)) * (gi mf z103)))), (107, nP g11), (108, nI Pf), (109, nI (((gi x102 ((z93 - Mf) + z103)) + ((Pf - (gi x102 z93)) * (gi mf z103))).tmod Pf))] Try.mixed (by kernel_rfl) rfl rfl ?_ ?_
   .refine ⟨oD, oD, fun _ _ _ => Jb (off := 1) J5 rfl rfl <| Ja ⟨rfl, rfl⟩, og hS fun _ _ hS => Jp 3 1 XU3 hS rfl rfl rfl ⟨rfl, rfl⟩ <| Ja ⟨rfl, Jg _⟩, fun _ _ _ => WL.sub (r := (z93 - Mf)) rfl rfl (wr o113) rfl <| Ja ⟨rfl, rfl⟩, oD, fun _ _ _ => WL.add (r := ((z93 - Mf) + z103)) rfl rfl (wr o116) rfl <| Ja ⟨rfl, rfl⟩, oD, oD, fun _ _ _ => Jb (off := 1) J5 rfl rfl <| Ja ⟨rfl, rfl⟩, og hS fun _ _ hS => Jp 3 1 XU3 hS rfl rfl rfl ⟨rfl, rfl⟩ <| Ja ⟨rfl, Jg _⟩, fun _ _ _ => WL.sub (r := (z93 - Mf)) rfl rfl (wr o122) rfl <| Ja ⟨rfl, rfl⟩, oD, fun _ _ _ => WL.add (r := ((z93 - Mf) + z103)) rfl rfl (wr o125) rfl <| Ja ⟨rfl, rfl⟩, fun _ _ _ => Jo Jh XE3 (hS.rd (i := 0) rfl) rfl rfl o127 rfl <| Ja ⟨rfl, rfl⟩, og hS fun _ _ hS => Js XU3 rfl rfl (JJ (hS.rd (i := 0) rfl) o127) rfl <| Ja ⟨rfl, Jg _⟩, fun _ _ _ => Jb (off := 0) J1 rfl rfl <| Ja ⟨rfl, rfl⟩, og hS fun _ _ hS => Jp 3 0 XU3 hS rfl rfl rfl ⟨rfl, rfl⟩ <| Ja ⟨rfl, Jg _⟩, oD, oD, fun _ _ _ => Jo Jh XE3 (hS.rd (i := 0) rfl) rfl rfl o134 rfl <| Ja ⟨rfl, rfl⟩, og hS fun _ _ hS => Js XU3 rfl rfl (JJ (hS.rd (i := 0) rfl) o134) rfl <| Ja ⟨rfl, Jg _⟩, fun _ _ _ => WL.sub (r := (Pf - (gi x102 z93))) rfl rfl (wr o137) rfl <| Ja ⟨rfl, rfl⟩, fun _ _ _ => Jb (off := 2) Qg rfl rfl <| Ja ⟨rfl, rfl⟩, og hS fun _ _ hS => Jp 3 2 Jh hS rfl rfl rfl ⟨rfl, rfl⟩ <| Ja ⟨rfl, Jg _⟩, oD, fun _ _ _ => Jo Jh XE3 (hS.ro hf) rfl rfl o142 rfl <| Ja ⟨rfl, rfl⟩, og hS fun _ _ hS => Js XU3 rfl rfl (JJ (hS.ro hf) o142) rfl <| Ja ⟨rfl, Jg _⟩, fun _ _ _ => WL.mul (r := ((Pf - (gi x102 z93)) * (gi mf z103))) rfl rfl (wr o145) rfl <| Ja ⟨rfl, rfl⟩, fun _ _ _ => WL.add (r := ((gi x102 ((z93 - Mf) + z103)) + ((Pf - (gi x102 z93)) * (gi mf z103)))) rfl rfl (wr o147) rfl <| Ja ⟨rfl, rfl⟩, fun _ _ _ => Jb (off := 0) J1 rfl rfl <| Ja ⟨rfl, rfl⟩, og hS fun _ _ hS => Jp 3 0 XU3 hS rfl rfl rfl ⟨rfl, rfl⟩ <| Ja ⟨rfl, Jg _⟩, fun _ _ _ => QD (r := (((gi x102 ((z93 - Mf) + z103)) + ((Pf - (gi x102 z93)) * (gi mf z103))).tmod Pf)) rfl rfl o151 rfl rfl <| Ja ⟨rfl, rfl⟩, trivial⟩
   intro w152 hT; have hS := hS.grow hT; refine Je 33 rfl ?_; obtain ⟨o153, hv⟩ := hv; refine Jo Jh XE3 (hS.rd (i := 0) rfl) rfl rfl o153 rfl <| Ja <| Je 34 rfl <| Jf (cs' := is (si x102 ((z93 - Mf) + z103) (((gi x102 ((z93 - Mf) + z103)) + ((Pf - (gi x102 z93)) * (gi mf z103))).tmod Pf))) 0 ((z93 - Mf) + z103).toNat hS rfl XE3 rfl rfl rfl (Qu (hS.rd (i := 0) rfl) o153) (Qb _ _ _) ?_; intro w154 hS; refine Ja <| JC <| Jd 2 ?_; obtain ⟨o155, hv⟩ := hv; refine WL.add (r := (z103 + 1)) rfl rfl (wr o155) rfl <| Jc 2 ?_; exact ⟨(si x102 ((z93 - Mf) + z103) (((gi x102 ((z93 - Mf) + z103)) + ((Pf - (gi x102 z93)) * (gi mf z103))).tmod Pf), (z103 + 1)), sp rfl, hv.2, rfl, hv.1, hS⟩
  have hv := hv.2 (oF c107); refine JB <| Jd 2 ?_; obtain ⟨o156, hv⟩ := hv; refine WL.sub (r := (z93 - 1)) rfl rfl (wr o156) rfl <| Jc 2 ?_; exact ⟨(x102, (z93 - 1)), sp rfl, hv.2, rfl, hv.1, hS⟩
 have hv := hv.2 (oF c97); refine JB <| JA ?_; obtain ⟨o163, hv⟩ := hv; obtain ⟨r165, o167, hv⟩ := hv; refine JK 7 [⟨[], [3], false⟩, ⟨[], [9], true⟩, ⟨[], [3], true⟩, ⟨[2], [], false⟩, ⟨[1, 3], [], true⟩, ⟨[0, 4], [], false⟩, ⟨[5], [], true⟩] [(111, .agg #[nI Pf, nI Mf, nS Af mf kf]), (112, .slice A26 ((((2 : Int) * Mf) - (1 : Int)).toNat) ((((2 : Int) * Mf) - (1 : Int)).toNat)), (113, .pointer (some ((⟨g11, 0, none⟩ : Addr).add 1))), (114, nI Mf), (115, .slice A26 ((x92.take Mf.toNat).length) ((((2 : Int) * Mf) - (1 : Int)).toNat)), (116, nI r165), (6, nI r165)] Try.mixed (by kernel_rfl) rfl rfl ?_ ?_
 . refine ⟨og hS fun _ _ hS => JD 3 JW J0 hS rfl ⟨rfl, rfl⟩ rfl <| Ja ⟨rfl, Jg _⟩, oD, fun _ _ _ => Jb (off := 1) J5 rfl rfl <| Ja ⟨rfl, rfl⟩, og hS fun _ _ hS => Jp 3 1 XU3 hS rfl rfl rfl ⟨rfl, rfl⟩ <| Ja ⟨rfl, Jg _⟩, fun _ _ _ => Jm0 Jh XE3 (hS.rd (i := 0) rfl) rfl rfl o163 rfl (x92.take Mf.toNat).length (Jf4 (hS.rd (i := 0) rfl) o163) <| Ja ⟨rfl, rfl⟩, ?_, oD, trivial⟩; intro w164 hE RR; have hS := hS.grow (hE rfl); refine WL.call Jmp rfl Jq7 rfl rfl (JF (Jbl (hS.ro hf) (Jr1 (hS.rd (i := 0) rfl) o163) o167)) ?_; rintro _ w166 ⟨_, hGw166, hRww166, hNww166, r165q, rfl, rfl, he⟩; subst he; exact Ja ⟨rfl, hGw166⟩
 intro w169 hT; have hS := hS.grow hT; refine JC <| W.ret <| ⟨_, rfl, Fin.nil ?_⟩
 exact (hS.pick [] rfl).fin rfl ⟨r165, rfl, rfl, hv⟩
def Jbb (Pf : Int) (Mf : Int) (mf : LI) (Pg : Int) (Mg : Int) (mg : LI) (Q : Bool -> Prop) : Prop :=
  ((Pf ≠ Pg) -> Q false) /\ (¬ (Pf ≠ Pg) -> (((Mf ≠ Mg) -> Q false) /\ (¬ (Mf ≠ Mg) -> ((((mf.length : Int) ≠ (mg.length : Int)) -> Q false) /\ (¬ ((mf.length : Int) ≠ (mg.length : Int)) -> (∃ (I21 : Int -> Prop) (μ22 : Int -> Nat), I21 0 /\ ∀ (z20 : Int), (I21 z20 -> (((z20 < (mf.length : Int)) -> ((0 <= z20 /\ z20 < (mf.length : Nat)) /\ ((0 <= z20 /\ z20 < (mg.length : Nat)) /\ ((((gi mf z20) ≠ (gi mg z20)) -> Q false) /\ (¬ ((gi mf z20) ≠ (gi mg z20)) -> ((I64 (z20 + 1)) /\ (I21 (z20 + 1) /\ μ22 (z20 + 1) < μ22 z20))))))) /\ (¬ (z20 < (mf.length : Int)) -> Q true)))))))))
theorem Jnd {w : World} {Q : Bool -> Prop} {Pf : Int} {Mf : Int} {mf : LI} {Pg : Int} {Mg : Int} {mg : LI} {Bf : Nat} {Af : Option Addr} {nf kf : Nat} (hf : Rd Bf w 1 Af nf kf (is mf)) {Bg : Nat} {Ag : Option Addr} {ng kg : Nat} (hg : Rd Bg w 1 Ag ng kg (is mg)) (hv : Jbb Pf Mf mf Pg Mg mg Q) :
   Calls Try.prog 77 #[.agg #[.int .i64 Pf, .int .i64 Mf, .slice Af nf kf], .agg #[.int .i64 Pg, .int .i64 Mg, .slice Ag ng kg]] w <| Rt w fun v Qr => ∃ (r0 : Bool), v = .bool r0 /\ Qr = [] /\ Q r0 := by
 have hnf := hf.ilen; subst hnf; have hng := hg.ilen; subst hng; refine Jn <| Jl (vs := [.agg #[nI Pf, nI Mf, nS Af mf kf], .agg #[nI Pg, nI Mg, nS Ag mg kg]]) [4] XF77 rfl rfl rfl rfl ?_; have hS := Jt w; unfold Jbb at hv; refine Jd 2 <| JH (z := 3) (cs := [nI Pf, nI Mf, nS Af mf kf]) hS rfl rfl rfl rfl ?_; intro g11 w12 hS; refine JH (z := 3) (cs := [nI Pg, nI Mg, nS Ag mg kg]) hS rfl rfl rfl rfl ?_; intro g13 w14 hS; refine Jc 2 <| Jd 3 <| Jb (off := 0) J1 rfl rfl <| Jp 1 0 XU3 hS rfl rfl rfl ⟨rfl, rfl⟩ <| Jb (off := 0) J1 rfl rfl <| Jp 0 0 XU3 hS rfl rfl rfl ⟨rfl, rfl⟩ <| Ja7 rfl rfl rfl <| Jq rfl rfl ?_; by_cases g15 : Pf ≠ Pg
 .have hv := hv.1 g15; rw [decide_eq_true g15]; refine Jc 16 <| JP rfl <| Jd 4 <| W.ret <| ⟨_, rfl, Fin.nil ?_⟩
  exact (hS.pick [] rfl).fin rfl ⟨false, rfl, rfl, hv⟩
 have hv := hv.2 g15; rw [decide_eq_false g15]; refine WL.take rfl <| Jb (off := 1) J5 rfl rfl <| WL.take rfl <| Jp 1 1 XU3 hS rfl rfl rfl ⟨rfl, rfl⟩ <| WL.take rfl <| Jb (off := 1) J5 rfl rfl <| WL.take rfl <| Jp 0 1 XU3 hS rfl rfl rfl ⟨rfl, rfl⟩ <| Jc 3 <| Jq rfl rfl ?_; by_cases g16 : Mf ≠ Mg
 .have hv := hv.1 g16; rw [decide_eq_true g16]; refine Jc 9 <| JP rfl <| Jd 4 <| W.ret <| ⟨_, rfl, Fin.nil ?_⟩
  exact (hS.pick [] rfl).fin rfl ⟨false, rfl, rfl, hv⟩
 have hv := hv.2 g16; rw [decide_eq_false g16]; refine WL.take rfl <| Jb (off := 2) Qg rfl rfl <| WL.take rfl <| Jp 1 2 Jh hS rfl rfl rfl ⟨rfl, rfl⟩ <| WL.take rfl <| WL.len Jh rfl rfl <| WL.take rfl <| Jb (off := 2) Qg rfl rfl <| WL.take rfl <| Jp 0 2 Jh hS rfl rfl rfl ⟨rfl, rfl⟩ <| WL.take rfl <| WL.len Jh rfl rfl <| Jc 4 <| Jj rfl (fun c17 => ?_) (fun c17 => ?_)
 .have hv := hv.1 (oT c17); refine Jd 4 <| W.ret <| ⟨_, rfl, Fin.nil ?_⟩
  exact (hS.pick [] rfl).fin rfl ⟨false, rfl, rfl, hv⟩
 have hv := hv.2 (oF c17); refine Jr <| Jd 5 <| W.block ?_; obtain ⟨I21, μ22, hv, hk41⟩ := hv; refine JE (σ := Int) (fun z20 w1 => I21 z20 /\ St TT w none w1 [.row 24 3 (nA g13) 1 1 [nI Pg, nI Mg, nS Ag mg kg], .row 24 3 (nA g11) 1 1 [nI Pf, nI Mf, nS Af mf kf]]) (fun z20 => [(2, nP g11), (3, nP g13), (4, .bool false), (5, nI z20)]) (fun z20 => μ22 z20) (0 : Int) ⟨hv, hS⟩ ⟨rfl, rfl, rfl, rfl, trivial⟩ ?_; rintro z20 w23 ⟨hv, hS⟩; have hv := hk41 z20 hv; refine Jd 4 <| Jb (off := 2) Qg rfl rfl <| Jp 1 2 Jh hS rfl rfl rfl ⟨rfl, rfl⟩ <| WL.len Jh rfl rfl <| Jc 2 <| Jj rfl (fun c24 => ?_) (fun c24 => ?_)
 .have hv := hv.1 (oT c24); refine Jr <| JA <| W.block <| JA ?_; obtain ⟨o29, hv⟩ := hv; obtain ⟨o35, hv⟩ := hv; refine JK 11 [⟨[], [2], true⟩, ⟨[0], [], false⟩, ⟨[], [5], true⟩, ⟨[1, 2], [], true⟩, ⟨[3], [], false⟩, ⟨[], [3], true⟩, ⟨[5], [], false⟩, ⟨[], [5], true⟩, ⟨[6, 7], [], true⟩, ⟨[8], [], false⟩, ⟨[4, 9], [], true⟩] [(34, .pointer (some ((⟨g11, 0, none⟩ : Addr).add 2))), (35, nS Af mf kf), (36, nI z20), (37, .pointer (some ((JU Af).add z20.toNat))), (38, nI (gi mf z20)), (39, .pointer (some ((⟨g13, 0, none⟩ : Addr).add 2))), (40, nS Ag mg kg), (41, nI z20), (42, .pointer (some ((JU Ag).add z20.toNat))), (43, nI (gi mg z20)), (44, .bool (decide ((gi mf z20) ≠ (gi mg z20))))] Try.mixed (by kernel_rfl) rfl rfl ?_ ?_
  .refine ⟨fun _ _ _ => Jb (off := 2) Qg rfl rfl <| Ja ⟨rfl, rfl⟩, og hS fun _ _ hS => Jp 1 2 Jh hS rfl rfl rfl ⟨rfl, rfl⟩ <| Ja ⟨rfl, Jg _⟩, oD, fun _ _ _ => Jo Jh XE3 (hS.ro hf) rfl rfl o29 rfl <| Ja ⟨rfl, rfl⟩, og hS fun _ _ hS => Js XU3 rfl rfl (JJ (hS.ro hf) o29) rfl <| Ja ⟨rfl, Jg _⟩, fun _ _ _ => Jb (off := 2) Qg rfl rfl <| Ja ⟨rfl, rfl⟩, og hS fun _ _ hS => Jp 0 2 Jh hS rfl rfl rfl ⟨rfl, rfl⟩ <| Ja ⟨rfl, Jg _⟩, oD, fun _ _ _ => Jo Jh XE3 (hS.ro hg) rfl rfl o35 rfl <| Ja ⟨rfl, rfl⟩, og hS fun _ _ hS => Js XU3 rfl rfl (JJ (hS.ro hg) o35) rfl <| Ja ⟨rfl, Jg _⟩, oD, trivial⟩
  intro w38 hT; have hS := hS.grow hT; refine JC <| Jj rfl (fun c39 => ?_) (fun c39 => ?_)
  .have hv := hv.1 (oT c39); refine Jd 4 <| W.ret <| ⟨_, rfl, Fin.nil ?_⟩
   exact (hS.pick [] rfl).fin rfl ⟨false, rfl, rfl, hv⟩
  have hv := hv.2 (oF c39); refine Jr <| Jd 2 ?_; obtain ⟨o40, hv⟩ := hv; refine WL.add (r := (z20 + 1)) rfl rfl (wr o40) rfl <| Jc 2 ?_; exact ⟨(z20 + 1), sp rfl, hv.2, rfl, hv.1, hS⟩
 have hv := hv.2 (oF c24); refine JB <| Jd 4 <| W.ret <| ⟨_, rfl, Fin.nil ?_⟩
 exact (hS.pick [] rfl).fin rfl ⟨true, rfl, rfl, hv⟩
end Go.Proofs.Ytppkigdakobebaa
namespace Go.Proofs.Ytppkigdakobebaa
open Go.RowKit
def Jhd (Fg : GFv) (p : LI) (x : Int) (Q : Int -> Prop) : Prop :=
  Zj p (fun _ => ∃ (I24 : Nat -> Int -> Prop), I24 0 (0 : Int) /\ (∀ i20 : Nat, i20 < p.length -> ∀ (z23 : Int), I24 i20 z23 -> (∃ (r31 : Int), Jcl Fg z23 x (fun q => q = r31) /\ (Jfo Fg r31 (gi p ((p.length - 1 - i20 : Nat) : Int)) (fun r37 => I24 (i20 + 1) r37)))) /\ (∀ (z23 : Int), I24 p.length z23 -> Q z23))
theorem Jsp {w : World} {Q : Int -> Prop} {Fg : GFv} {p : LI} {x : Int} {ag : Addr} {Bg : Nat} (hgg : GFR Bg w ag Fg) {Bp : Nat} {Ap : Option Addr} {np kp : Nat} (hp : Rd Bp w 1 Ap np kp (is p)) (hv : Jhd Fg p x Q) :
   Calls Try.prog 79 #[.pointer (some ag), .slice Ap np kp, .int .i64 x] w <| Rt w fun v Qr => ∃ (r0 : Int), v = .int .i64 r0 /\ Qr = [] /\ Q r0 := by
 have hgg_ := hgg; obtain ⟨Ag_mod, kg_mod, Ag_exp, kg_exp, Ag_log, kg_log, Ag_above, kg_above, hg_c, hg_mod, hg_exp, hg_log, hg_above⟩ := hgg_; have hnp := hp.ilen; subst hnp; refine Jn <| Jl (vs := [.pointer (some ag), nS Ap p kp, nI x]) [6] XF79 rfl rfl rfl rfl ?_; have hS := Jt w; unfold Jhd at hv; refine Jd 2 <| JH (z := 1) (cs := [.pointer (some ag)]) hS rfl rfl rfl rfl ?_; intro g11 w12 hS; refine JH (z := 1) (cs := [nI x]) hS rfl rfl rfl rfl ?_; intro g13 w14 hS; refine Jc 2 <| Jd 2 <| SL.alloc (cs := [nI 0]) hS XE3 rfl rfl ?_; intro g15 w16 hS; refine Jf (cs' := [nI 0]) 0 0 hS rfl XE3 rfl rfl rfl (Jk rfl) rfl ?_; intro w17 hS; refine Ja <| Jd 4 <| SL.call hS (Jcg (hS.ro hp) hv) Jri rfl XN111 rfl rfl ?_; rintro _ _ w18 ⟨g19, rfl, rfl, hv⟩ hGw18 hS; have hS := hS.n1; refine Ja <| W.block ?_; obtain ⟨I24, hv, hk41, hd42⟩ := hv; refine Jbf (σ := Int) (fun i q => match q with | z23 => I24 i z23) (fun z23 => [.row 22 1 (some ⟨g19, 0, none⟩) 1 1 [.slice Ap p.length kp], .row 3 1 (some ⟨g15, 0, none⟩) 1 1 [.int .i64 z23], .row 3 1 (some ⟨g13, 0, none⟩) 1 1 [.int .i64 x], .row 71 1 (some ⟨g11, 0, none⟩) 1 1 [.pointer (some ag)]]) (fun _ _ => False) (fun vs => [(3, .pointer (some ⟨g11, 0, none⟩)), (5, .pointer (some ⟨g13, 0, none⟩)), (6, .int .i64 0), (7, .pointer (some ⟨g15, 0, none⟩)), (9, vs.getD 1 undef)]) (0 : Int) hS hv (fun q => by obtain z23 := q; exact trivial) rfl XF144 rfl XN144 (Ja6 (A := Ap) (m := p.length) (c := kp) (Rd.m64 (hS.ro hp))) (Below.refl _ _) (fun _ _ _ h => by obtain ⟨_, h, _⟩ := h; rw [h]; rfl) (fun i x => Jg3) (by decide) (fun _ q _ _ hS => by obtain z23 := q; exact ⟨JT (hS.own (i := 0) rfl) 0 _ rfl, _, _, (hS.ro hp)⟩) ?_ ?_ ?_ ?_
 .intro lq vsq W1q hlq
  match vsq, hlq with
  | [a0, a1], _ =>
    refine Jd 3 ?_; exact ⟨rfl, rfl, sp rfl⟩
 .rintro lq i20 _ z23 w25 hi ⟨vb, rfl, hcell⟩ hI hS; have hvb : vb = (gi p ((p.length - 1 - i20 : Nat) : Int)) := Jk7 (hS.ro hp) (by omega) hcell; subst hvb; have hv := hk41 i20 hi z23 hI; refine W.block ?_; obtain ⟨r31, o33, hv⟩ := hv; refine JK 6 [⟨[], [3], false⟩, ⟨[], [3], false⟩, ⟨[], [7], false⟩, ⟨[], [5], false⟩, ⟨[1, 2, 3], [], false⟩, ⟨[], [9], true⟩] [(14, .pointer (some ag)), (15, .pointer (some ag)), (16, nI z23), (17, nI x), (18, nI r31), (19, nI (gi p ((p.length - 1 - i20 : Nat) : Int)))] Try.mixed (by kernel_rfl) rfl rfl ?_ ?_
  . refine ⟨og hS fun _ _ hS => Jp 3 0 Jlb hS rfl rfl rfl ⟨rfl, rfl⟩ <| Ja ⟨rfl, Jg _⟩, og hS fun _ _ hS => Jp 3 0 Jlb hS rfl rfl rfl ⟨rfl, rfl⟩ <| Ja ⟨rfl, Jg _⟩, og hS fun _ _ hS => Jp 1 0 XU3 hS rfl rfl rfl ⟨rfl, rfl⟩ <| Ja ⟨rfl, Jg _⟩, og hS fun _ _ hS => Jp 2 0 XU3 hS rfl rfl rfl ⟨rfl, rfl⟩ <| Ja ⟨rfl, Jg _⟩, ?_, oD, trivial⟩; intro w30 hE RR; have hS := hS.grow (hE rfl); refine WL.call XF84 rfl XN84 rfl rfl (JF (Jgd (GFR.ext (GFR.norm hgg) hS.ext) o33)) ?_; rintro _ w32 ⟨_, hGw32, hRww32, hNww32, r31q, rfl, rfl, he⟩; subst he; exact Ja ⟨rfl, hGw32⟩
  intro w35 hT; have hS := hS.grow hT; refine Je 6 rfl <| SL.call hS (Jp4 (GFR.ext (GFR.norm hgg) hS.ext) hv) Jrh rfl XN112 rfl rfl ?_; rintro _ _ w36 ⟨r37, rfl, rfl, hv⟩ hGw36 hS; have hS := hS.n0; refine Ja <| Je 7 rfl <| Jf (cs' := [nI r37]) 1 0 hS rfl XE3 rfl rfl rfl (Jk rfl) rfl ?_; intro w38 hS; refine Ja <| JC ?_; exact ⟨r37, hv, hS⟩
 .rintro D39 z23 w40 hv hD hS; have hv := hd42 z23 hv; refine Jd 2 <| Jp 2 0 XU3 hS rfl rfl rfl ⟨rfl, rfl⟩ <| Jc 2 <| W.ret ?_; have hS := hS.pick [0] rfl; obtain ⟨hDD39, hS⟩ := hS.taken trivial; refine ⟨_, rfl, Fin.cons hDD39 (Fin.nil ?_)⟩; exact (hS.pick [] rfl).fin rfl ⟨z23, rfl, rfl, hv⟩
 rintro _ e _ _ _ hv; exact hv.elim
end Go.Proofs.Ytppkigdakobebaa
namespace Go.Proofs.Ytppkigdakobebaa
open Go.RowKit
end Go.Proofs.Ytppkigdakobebaa
namespace Go.Proofs.Ytppkigdakobebaa
open Go.RowKit
end Go.Proofs.Ytppkigdakobebaa
namespace Go.Proofs.Ytppkigdakobebaa
end Go.Proofs.Ytppkigdakobebaa
namespace Go.Proofs.Ytppkigdakobebaa
abbrev Vec := Nat -> Int
def tX (m : Nat) (c : Vec) (v : Vec) : Vec := fun i => if i < m then (if i = 0 then 0 else v (i - 1)) - c i * v (m - 1) else 0
def JV (u v : Vec) : Vec := fun i => u i + v i
def vsm (a : Int) (v : Vec) : Vec := fun i => a * v i
def vz : Vec := fun _ => 0
def e0 : Vec := fun i => if i = 0 then 1 else 0
def tXn (m : Nat) (c : Vec) : Nat -> Vec -> Vec
  | 0, v => v
  | n + 1, v => tX m c (tXn m c n v)
def opr (m : Nat) (c b : Vec) : Nat -> Vec -> Vec
  | 0, _ => vz
  | n + 1, v => JV (opr m c b n v) (vsm (b n) (tXn m c n v))
def QZ (m : Nat) (c a b : Vec) : Vec := opr m c b m a
section
variable (m : Nat) (c : Vec)
theorem tX_add (u v : Vec) : tX m c (JV u v) = JV (tX m c u) (tX m c v) := by
 funext i; simp only [tX, JV]; split
 .split <;> grind
 .rfl
theorem tX_sm (a : Int) (v : Vec) : tX m c (vsm a v) = vsm a (tX m c v) := by
 funext i; simp only [tX, vsm]; split
 .split <;> grind
 .grind
theorem tX_z : tX m c vz = vz := by funext i; simp [tX, vz]
theorem Z6 (u : Vec) : JV u vz = u := by funext i; simp [JV, vz]
theorem z_vadd (u : Vec) : JV vz u = u := by funext i; simp [JV, vz]
theorem Je6 (u v : Vec) : JV u v = JV v u := by funext i; simp only [JV]; omega
theorem Y7 (u v w : Vec) : JV (JV u v) w = JV u (JV v w) := by funext i; simp only [JV]; omega
theorem Jc0 (a : Int) (u v : Vec) : vsm a (JV u v) = JV (vsm a u) (vsm a v) := by funext i; simp only [JV, vsm]; grind
theorem Jfv (a b : Int) (u : Vec) : vsm a (vsm b u) = vsm (a * b) u := by funext i; simp only [vsm]; grind
theorem Jll (a : Int) : vsm a vz = vz := by funext i; simp [vsm, vz]
theorem Jaq (n : Nat) (u v : Vec) : tXn m c n (JV u v) = JV (tXn m c n u) (tXn m c n v) := by
 induction n with
 | zero => rfl
 | succ n ih => simp only [tXn, ih, tX_add]
theorem Jbh (n : Nat) (a : Int) (v : Vec) : tXn m c n (vsm a v) = vsm a (tXn m c n v) := by
 induction n with
 | zero => rfl
 | succ n ih => simp only [tXn, ih, tX_sm]
theorem Jhn (n : Nat) : tXn m c n vz = vz := by
 induction n with
 | zero => rfl
 | succ n ih => simp only [tXn, ih, tX_z]
theorem Jpc (n : Nat) (v : Vec) : tXn m c n (tX m c v) = tX m c (tXn m c n v) := by
 induction n with
 | zero => rfl
 | succ n ih => simp only [tXn, ih]
theorem Jc4 (n k : Nat) (v : Vec) : tXn m c n (tXn m c k v) = tXn m c (n + k) v := by
 induction n with
 | zero => simp [tXn]
 | succ n ih => rw [Nat.succ_add]; simp only [tXn, ih]
variable (b : Vec)
theorem Jl2 (n : Nat) (u v : Vec) : opr m c b n (JV u v) = JV (opr m c b n u) (opr m c b n v) := by
 induction n with
 | zero => simp [opr, Z6]
 | succ n ih => simp only [opr, ih, Jaq, Jc0]; funext i; simp only [JV]; omega
theorem Jj2 (n : Nat) (a : Int) (v : Vec) : opr m c b n (vsm a v) = vsm a (opr m c b n v) := by
 induction n with
 | zero => simp [opr, Jll]
 | succ n ih => simp only [opr, ih, Jbh, Jc0, Jfv]; rw [Int.mul_comm (b n) a]
theorem opr_z (n : Nat) : opr m c b n vz = vz := by
 induction n with
 | zero => rfl
 | succ n ih => simp only [opr, ih, Jhn, Jll, Z6]
theorem Jl1 (n k : Nat) (v : Vec) : opr m c b n (tXn m c k v) = tXn m c k (opr m c b n v) := by
 induction n with
 | zero => simp [opr, Jhn]
 | succ n ih => simp only [opr, ih, Jaq, Jbh, Jc4]; rw [Nat.add_comm n k]
theorem Jhv (d : Vec) (n k : Nat) (v : Vec) : opr m c b n (opr m c d k v) = opr m c d k (opr m c b n v) := by
 induction n with
 | zero => simp only [opr, opr_z]
 | succ n ih => simp only [opr, ih, Jl2, Jj2, Jl1]
theorem Jpv (d : Vec) (n : Nat) (v : Vec) : opr m c (JV b d) n v = JV (opr m c b n v) (opr m c d n v) := by
 induction n with
 | zero => simp [opr, Z6]
 | succ n ih => simp only [opr, ih]; funext i; simp only [JV, vsm]; grind
end
def vei (k : Nat) : Vec := fun i => if i = k then 1 else 0
theorem Jjr {m : Nat} {c : Vec} : ∀ {k : Nat}, k < m -> tXn m c k e0 = vei k
 | 0, _ => rfl
 | k + 1, h => by
  have ih : tXn m c k e0 = vei k := Jjr (by omega); simp only [tXn, ih]; funext i; simp only [tX, vei]; split
  .rw [if_neg (show ¬ m - 1 = k by omega)]; by_cases h0 : i = 0
   .subst h0; simp
   .simp only [h0, if_false]; by_cases h1 : i = k + 1
    .subst h1; simp
    .rw [if_neg (by omega), if_neg h1]; simp
  .rw [if_neg (by omega)]
theorem Jf8 {m : Nat} {c a : Vec} : ∀ {n : Nat}, n <= m -> ∀ i, opr m c a n e0 i = if i < n then a i else 0
  | 0, _, i => by simp [opr, vz]
  | n + 1, h, i => by
    simp only [opr, JV, vsm]
    rw [Jf8 (n := n) (by omega) i, Jjr (by omega)]
    simp only [vei]
    by_cases h1 : i = n
    . subst h1; simp
    . by_cases h2 : i < n
      . simp [h2, h1, show i < n + 1 by omega]
      . simp [h2, h1, show ¬ i < n + 1 by omega]
def Sup (m : Nat) (v : Vec) : Prop := ∀ i, m <= i -> v i = 0
theorem YV {m : Nat} {c a : Vec} (h : Sup m a) : opr m c a m e0 = a := by
 funext i; rw [Jf8 (Nat.le_refl m)]; split
 .rfl
 .exact (h i (by omega)).symm
theorem Sup.z {m : Nat} : Sup m vz := fun _ _ => rfl
theorem Sup.tX {m : Nat} {c v : Vec} : Sup m (tX m c v) := fun i h => by simp [Go.Proofs.Ytppkigdakobebaa.tX, show ¬ i < m by omega]
theorem Sup.add {m : Nat} {u v : Vec} (hu : Sup m u) (hv : Sup m v) : Sup m (JV u v) := fun i h => by simp [JV, hu i h, hv i h]
theorem Sup.sm {m : Nat} {a : Int} {v : Vec} (hv : Sup m v) : Sup m (vsm a v) := fun i h => by simp [vsm, hv i h]
theorem Sup.tXn {m : Nat} {c v : Vec} (hv : Sup m v) : ∀ n, Sup m (tXn m c n v)
 | 0 => hv
 | _ + 1 => Sup.tX
theorem Sup.opr {m : Nat} {c b v : Vec} (hv : Sup m v) : ∀ n, Sup m (opr m c b n v)
 | 0 => Sup.z
 | n + 1 => (Sup.opr hv n).add (hv.tXn n).sm
theorem ZG {m : Nat} {c a b : Vec} (ha : Sup m a) (hb : Sup m b) : QZ m c a b = QZ m c b a := by
 unfold QZ
 calc opr m c b m a = opr m c b m (opr m c a m e0) := by rw [YV ha]
  _ = opr m c a m (opr m c b m e0) := Jhv ..
  _ = opr m c a m b := by rw [YV hb]
theorem Jjk {m : Nat} {c a b d : Vec} (ha : Sup m a) (hb : Sup m b) (hd : Sup m d) : QZ m c (QZ m c a b) d = QZ m c a (QZ m c b d) := by
 rw [ZG (a := a) (b := QZ m c b d) ha (Sup.opr hb m)]; show opr m c d m (opr m c b m a) = opr m c a m (opr m c d m b); rw [<- Jhv m c d a m m b]; show opr m c d m (QZ m c a b) = opr m c d m (QZ m c b a); rw [ZG ha hb]
theorem Jow {m : Nat} {c a b d : Vec} : QZ m c a (JV b d) = JV (QZ m c a b) (QZ m c a d) := Jpv ..
theorem Jov {m : Nat} {c a : Vec} (hm : 0 < m) : QZ m c a e0 = a := by
 have key : ∀ n, 0 < n -> opr m c e0 n a = a := by
  intro n
  induction n with
  | zero => intro h; omega
  | succ n ih =>
   intro _; rcases Nat.eq_zero_or_pos n with h | h
   .subst h; funext i; simp [opr, e0, JV, vsm, vz, tXn]
   .simp only [opr, ih h]; funext i; simp [e0, JV, vsm, show n ≠ 0 by omega]
 exact key m hm
def vcg (p : Int) (u v : Vec) : Prop := ∀ i, u i % p = v i % p
section
variable {p : Int} {m : Nat} {c c' u u' v v' b b' : Vec}
theorem vcg.refl (u : Vec) : vcg p u u := fun _ => rfl
theorem vcg.symm (h : vcg p u v) : vcg p v u := fun i => (h i).symm
theorem vcg.trans {w : Vec} (h : vcg p u v) (k : vcg p v w) : vcg p u w := fun i => (h i).trans (k i)
theorem Jbp {a a' d d' : Int} (h : a % p = a' % p) (k : d % p = d' % p) : (a * d) % p = (a' * d') % p := by
 rw [Int.mul_emod, h, k, <- Int.mul_emod]
theorem Jb6 {a a' d d' : Int} (h : a % p = a' % p) (k : d % p = d' % p) : (a + d) % p = (a' + d') % p := by
 rw [Int.add_emod, h, k, <- Int.add_emod]
theorem Jjs {a a' d d' : Int} (h : a % p = a' % p) (k : d % p = d' % p) : (a - d) % p = (a' - d') % p := by
 rw [Int.sub_emod, h, k, <- Int.sub_emod]
theorem vcg.add (h : vcg p u u') (k : vcg p v v') : vcg p (JV u v) (JV u' v') := fun i => Jb6 (h i) (k i)
theorem vcg.sm {a a' : Int} (ha : a % p = a' % p) (h : vcg p u u') : vcg p (vsm a u) (vsm a' u') := fun i => Jbp ha (h i)
theorem vcg.tX (hc : vcg p c c') (h : vcg p u u') : vcg p (tX m c u) (tX m c' u') := fun i => by
 simp only [Go.Proofs.Ytppkigdakobebaa.tX]; split
 .split
  .exact Jjs rfl (Jbp (hc i) (h _))
  .exact Jjs (h _) (Jbp (hc i) (h _))
 .rfl
theorem vcg.tXn (hc : vcg p c c') (h : vcg p u u') : ∀ n, vcg p (tXn m c n u) (tXn m c' n u')
 | 0 => h
 | n + 1 => vcg.tX hc (vcg.tXn hc h n)
theorem vcg.opr (hc : vcg p c c') (hb : vcg p b b') (h : vcg p u u') : ∀ n, vcg p (opr m c b n u) (opr m c' b' n u')
 | 0 => .refl _
 | n + 1 => (vcg.opr hc hb h n).add (vcg.sm (hb n) (vcg.tXn hc h n))
theorem vcg.mul (hc : vcg p c c') (h : vcg p u u') (hb : vcg p b b') : vcg p (QZ m c u b) (QZ m c' u' b') := vcg.opr hc hb h m
end
end Go.Proofs.Ytppkigdakobebaa
namespace Go.Proofs.Ytppkigdakobebaa
def dv (p x : Nat) : Vec := fun i => ((x / p ^ i % p : Nat) : Int)
def vl (p : Nat) : Nat -> Vec -> Int
  | 0, _ => 0
  | n + 1, v => v 0 + (p : Int) * vl p n (fun i => v (i + 1))
def Cn (p n : Nat) (v : Vec) : Prop := ∀ i, i < n -> 0 <= v i /\ v i < p
def nm (p m : Nat) (v : Vec) : Nat := (vl p m (fun i => v i % (p : Int))).toNat
theorem Ze (p x i : Nat) : dv p x (i + 1) = dv p (x / p) i := by
 simp only [dv]; rw [Nat.pow_succ', <- Nat.div_div_eq_div_mul]
theorem YJ (p x : Nat) : dv p x 0 = ((x % p : Nat) : Int) := by simp [dv]
theorem Cn.tl {p n : Nat} {v : Vec} (h : Cn p (n + 1) v) : Cn p n (fun i => v (i + 1)) := fun i hi => h (i + 1) (by omega)
theorem Jlm {p : Nat} (hp : 0 < p) : ∀ {n : Nat} {v : Vec}, Cn p n v -> 0 <= vl p n v /\ vl p n v < ((p ^ n : Nat) : Int)
 | 0, v, _ => by simp [vl]
 | n + 1, v, h => by
  have ih := Jlm hp h.tl; have h0 := h 0 (by omega); simp only [vl]; have h1 : (p : Int) * vl p n (fun i => v (i + 1)) <= p * (((p ^ n : Nat) : Int) - 1) := Int.mul_le_mul_of_nonneg_left (by omega) (by omega); have h2 : 0 <= (p : Int) * vl p n (fun i => v (i + 1)) := Int.mul_nonneg (by omega) ih.1; have h3 : ((p ^ (n + 1) : Nat) : Int) = p * ((p ^ n : Nat) : Int) := by rw [Nat.pow_succ']; push_cast; rfl
  have h4 : (p : Int) * (((p ^ n : Nat) : Int) - 1) = p * ((p ^ n : Nat) : Int) - p := by rw [Int.mul_sub, Int.mul_one]
  omega
theorem Jdj {p : Nat} : ∀ {n : Nat} {u v : Vec}, (∀ i, i < n -> u i = v i) -> vl p n u = vl p n v
 | 0, _, _, _ => rfl
 | n + 1, u, v, h => by simp only [vl]; rw [h 0 (by omega), Jdj (n := n) fun i hi => h (i + 1) (by omega)]
theorem Joz {p : Nat} (hp : 0 < p) : ∀ {n x : Nat}, x < p ^ n -> vl p n (dv p x) = x
 | 0, x, h => by simp at h; subst h; rfl
 | n + 1, x, h => by
  simp only [vl]; have : (fun i => dv p x (i + 1)) = dv p (x / p) := by funext i; exact Ze p x i
  rw [this, Joz hp (n := n) (by rw [Nat.div_lt_iff_lt_mul hp, <- Nat.pow_succ]; exact h), YJ]; have := Nat.mod_add_div x p; have h2 : ((x % p + p * (x / p) : Nat) : Int) = (x : Int) := by rw [this]
  push_cast at h2 ⊢; exact h2
theorem dv_vl {p : Nat} (hp : 0 < p) : ∀ {n : Nat} {v : Vec}, Cn p n v -> ∀ i, i < n -> dv p (vl p n v).toNat i = v i
 | 0, _, _, i, hi => by omega
 | n + 1, v, h, i, hi => by
  have ih := Jlm hp h.tl; have h0 := h 0 (by omega); obtain ⟨t, ht⟩ := Int.eq_ofNat_of_zero_le ih.1; obtain ⟨a, ha⟩ := Int.eq_ofNat_of_zero_le h0.1; have hv : (vl p (n + 1) v).toNat = a + p * t := by
   simp only [vl]; rw [ht, ha]; have : (a : Int) + (p : Int) * (t : Int) = ((a + p * t : Nat) : Int) := by push_cast; rfl
   rw [this]; rfl
  have hap : a < p := by have := h0.2; rw [ha] at this; omega
  rw [hv]; cases i with
  | zero => rw [YJ, Nat.add_mul_mod_self_left, Nat.mod_eq_of_lt hap, ha]
  | succ i =>
   rw [Ze]; have h2 : (a + p * t) / p = t := by rw [Nat.add_mul_div_left _ _ hp, Nat.div_eq_of_lt hap, Nat.zero_add]
   have ih2 := dv_vl hp h.tl i (by omega); rw [ht] at ih2; rw [h2]; exact ih2
section
variable {p m : Nat}
theorem md_cn (hp : 0 < p) (v : Vec) (n : Nat) : Cn p n (fun i => v i % (p : Int)) := fun i _ => ⟨Int.emod_nonneg _ (by omega), Int.emod_lt_of_pos _ (by omega)⟩
theorem Z3 (hp : 0 < p) (v : Vec) : nm p m v < p ^ m := by
 have := Jlm hp (md_cn hp v m); unfold nm; omega
theorem Jmi (hp : 0 < p) (v : Vec) {i : Nat} (hi : i < m) : dv p (nm p m v) i = v i % (p : Int) := dv_vl hp (md_cn hp v m) i hi
theorem Jfj (hp : 0 < p) (x n : Nat) : Cn p n (dv p x) := fun i _ => by
 have := Nat.mod_lt (x / p ^ i) hp; simp only [dv]; omega
theorem Jqp {x i : Nat} (hx : x < p ^ m) (hi : m <= i) : dv p x i = 0 := by
 rcases Nat.eq_zero_or_pos p with rfl | hp
 .simp only [dv]; cases m with
  | zero =>
   have : x = 0 := by simpa using hx
   subst this; simp
  | succ m => simp at hx
 .have : x / p ^ i = 0 := Nat.div_eq_of_lt (Nat.lt_of_lt_of_le hx (Nat.pow_le_pow_right hp hi)); simp [dv, this]
theorem QS {x : Nat} (hx : x < p ^ m) : Sup m (dv p x) := fun i hi => Jqp hx hi
theorem Jaf (x i : Nat) : dv p x i % (p : Int) = dv p x i := by
 simp only [dv]; rw [<- Int.natCast_emod, Nat.mod_mod]
theorem Z4 (hp : 0 < p) {x : Nat} (hx : x < p ^ m) : nm p m (dv p x) = x := by
 unfold nm; rw [Jdj (v := dv p x) fun i _ => Jaf x i, Joz hp hx]; rfl
theorem Jp8 {u v : Vec} (h : ∀ i, i < m -> u i % (p : Int) = v i % (p : Int)) : nm p m u = nm p m v := by
 unfold nm; rw [Jdj h]
theorem YQ {u v : Vec} (h : vcg p u v) : nm p m u = nm p m v := Jp8 fun i _ => h i
theorem Ji2 (hp : 0 < p) {v : Vec} (hv : Sup m v) : vcg p (dv p (nm p m v)) v := fun i => by
 rcases Nat.lt_or_ge i m with h | h
 .rw [Jmi hp v h, Int.emod_emod]
 .rw [Jqp (Z3 hp v) h, hv i h]
theorem nm_eq (hp : 0 < p) {x : Nat} {v : Vec} (hx : x < p ^ m) (h : ∀ i, i < m -> dv p x i = v i % (p : Int)) : nm p m v = x := by
 rw [<- Z4 hp hx]; exact Jp8 fun i hi => by rw [h i hi, Int.emod_emod]
end
def Qp (p m x y : Nat) : Nat := nm p m (JV (dv p x) (dv p y))
def Jcx (p m x : Nat) : Nat := nm p m (vsm (-1) (dv p x))
def JO (p m : Nat) (c : Vec) (x y : Nat) : Nat := nm p m (QZ m c (dv p x) (dv p y))
section
variable {p m : Nat} {c : Vec}
theorem Jmg (hp : 0 < p) (x y : Nat) : Qp p m x y < p ^ m := Z3 hp _
theorem Jc8 (hp : 0 < p) (x : Nat) : Jcx p m x < p ^ m := Z3 hp _
theorem Jgw (hp : 0 < p) (x y : Nat) : JO p m c x y < p ^ m := Z3 hp _
theorem Jg0 (hp : 0 < p) {x y : Nat} (hx : x < p ^ m) (hy : y < p ^ m) : vcg p (dv p (Qp p m x y)) (JV (dv p x) (dv p y)) := Ji2 hp ((QS hx).add (QS hy))
theorem Jta (hp : 0 < p) {x : Nat} (hx : x < p ^ m) : vcg p (dv p (Jcx p m x)) (vsm (-1) (dv p x)) := Ji2 hp (QS hx).sm
theorem Jou {a b : Vec} (ha : Sup m a) : Sup m (QZ m c a b) := Sup.opr ha m
theorem Ja1 (hp : 0 < p) {x y : Nat} (hx : x < p ^ m) : vcg p (dv p (JO p m c x y)) (QZ m c (dv p x) (dv p y)) := Ji2 hp (Jou (QS hx))
theorem Jns (x y : Nat) : Qp p m x y = Qp p m y x := by unfold Qp; rw [Je6]
theorem Jkq (hp : 0 < p) {x y z : Nat} (hx : x < p ^ m) (hy : y < p ^ m) (hz : z < p ^ m) : Qp p m (Qp p m x y) z = Qp p m x (Qp p m y z) := by
 show nm p m (JV (dv p (Qp p m x y)) (dv p z)) = nm p m (JV (dv p x) (dv p (Qp p m y z))); rw [YQ ((Jg0 hp hx hy).add (vcg.refl _)), YQ ((vcg.refl (p := p) (dv p x)).add (Jg0 hp hy hz)), Y7]
theorem Jed (p : Nat) : dv p 0 = vz := by funext i; simp [dv, vz]
theorem Jnr (hp : 0 < p) {x : Nat} (hx : x < p ^ m) : Qp p m x 0 = x := by unfold Qp; rw [Jed, Z6, Z4 hp hx]
theorem Jih (hp : 0 < p) {x : Nat} (hx : x < p ^ m) : Qp p m x (Jcx p m x) = 0 := by
 show nm p m (JV (dv p x) (dv p (Jcx p m x))) = 0; rw [YQ ((vcg.refl (p := p) (dv p x)).add (Jta hp hx))]; have : JV (dv p x) (vsm (-1) (dv p x)) = vz := by funext i; simp only [JV, vsm, vz]; omega
 rw [this, <- Jed p, Z4 hp (by exact Nat.pow_pos hp)]
theorem Jby {x y : Nat} (hx : x < p ^ m) (hy : y < p ^ m) : JO p m c x y = JO p m c y x := by
 unfold JO; rw [ZG (QS hx) (QS hy)]
theorem Jko (hp : 0 < p) {x y z : Nat} (hx : x < p ^ m) (hy : y < p ^ m) (hz : z < p ^ m) : JO p m c (JO p m c x y) z = JO p m c x (JO p m c y z) := by
 show nm p m (QZ m c (dv p (JO p m c x y)) (dv p z)) = nm p m (QZ m c (dv p x) (dv p (JO p m c y z))); rw [YQ (vcg.mul (vcg.refl c) (Ja1 hp hx) (vcg.refl _)), YQ (vcg.mul (vcg.refl c) (vcg.refl (dv p x)) (Ja1 hp hy)), Jjk (QS hx) (QS hy) (QS hz)]
theorem Jgz (hp : 2 <= p) : dv p 1 = e0 := by
 funext i; cases i with
 | zero => rw [YJ, Nat.mod_eq_of_lt (by omega)]; rfl
 | succ i =>
  have : (1 : Nat) / p ^ (i + 1) = 0 := Nat.div_eq_of_lt (Nat.one_lt_pow (by omega) (by omega)); simp [dv, this, e0]
theorem Jec (hp : 2 <= p) (hm : 0 < m) {x : Nat} (hx : x < p ^ m) : JO p m c x 1 = x := by
 unfold JO; rw [Jgz hp, Jov hm, Z4 (by omega) hx]
theorem Jnp (hp : 0 < p) {x : Nat} (hx : x < p ^ m) : JO p m c x 0 = 0 := by
 rw [Jby hx (Nat.pow_pos hp)]; unfold JO; rw [Jed]; have : QZ m c vz (dv p x) = vz := opr_z ..; rw [this, <- Jed p, Z4 hp (Nat.pow_pos hp)]
theorem Jqj (hp : 0 < p) {x y z : Nat} (hx : x < p ^ m) (hy : y < p ^ m) (hz : z < p ^ m) : JO p m c x (Qp p m y z) = Qp p m (JO p m c x y) (JO p m c x z) := by
 show nm p m (QZ m c (dv p x) (dv p (Qp p m y z))) = nm p m (JV (dv p (JO p m c x y)) (dv p (JO p m c x z))); rw [YQ (vcg.mul (vcg.refl c) (vcg.refl (dv p x)) (Jg0 hp hy hz)), YQ ((Ja1 (c := c) hp hx).add (Ja1 hp hx)), Jow]
end
structure CR (q : Nat) (A M : Nat -> Nat -> Nat) : Prop where
  q2 : 2 <= q
  Al : ∀ x y, A x y < q
  Ml : ∀ x y, M x y < q
  Ac : ∀ x y, A x y = A y x
  Aa : ∀ {x y z}, x < q -> y < q -> z < q -> A (A x y) z = A x (A y z)
  Az : ∀ {x}, x < q -> A x 0 = x
  An : ∀ {x}, x < q -> ∃ y, y < q /\ A x y = 0
  Mc : ∀ {x y}, x < q -> y < q -> M x y = M y x
  Ma : ∀ {x y z}, x < q -> y < q -> z < q -> M (M x y) z = M x (M y z)
  M1 : ∀ {x}, x < q -> M x 1 = x
  M0 : ∀ {x}, x < q -> M x 0 = 0
  Md : ∀ {x y z}, x < q -> y < q -> z < q -> M x (A y z) = A (M x y) (M x z)
theorem Jlk {p m : Nat} (c : Vec) (hp : 2 <= p) (hm : 0 < m) : CR (p ^ m) (Qp p m) (JO p m c) where
 q2 := Nat.le_trans hp (by have := Nat.pow_le_pow_right (n := p) (by omega) hm; simpa using this)
 Al := Jmg (by omega)
 Ml := Jgw (by omega)
 Ac := Jns
 Aa := Jkq (by omega)
 Az := Jnr (by omega)
 An := fun {x} hx => ⟨Jcx p m x, Jc8 (by omega) x, Jih (by omega) hx⟩
 Mc := Jby
 Ma := Jko (by omega)
 M1 := Jec hp hm
 M0 := Jnp (by omega)
 Md := Jqj (by omega)
end Go.Proofs.Ytppkigdakobebaa
namespace Go.Proofs.Ytppkigdakobebaa
def pw (M : Nat -> Nat -> Nat) (g : Nat) : Nat -> Nat
  | 0 => 1
  | k + 1 => M (pw M g k) g
theorem php : ∀ (n : Nat) (f : Nat -> Nat), (∀ i, i < n + 1 -> f i < n) -> ∃ i j, i < j /\ j < n + 1 /\ f i = f j
 | 0, f, h => absurd (h 0 (by omega)) (by omega)
 | n + 1, f, h => by
  by_cases hc : ∃ i, i < n + 1 /\ f i = f (n + 1)
  .obtain ⟨i, hi, he⟩ := hc; exact ⟨i, n + 1, hi, by omega, he⟩
  .have hv := h (n + 1) (by omega); obtain ⟨i, j, hij, hj, he⟩ := php n (fun i => if f i = n then f (n + 1) else f i) (fun i hi => by
    have hne : f i ≠ f (n + 1) := fun e => hc ⟨i, hi, e⟩; have := h i (by omega); show (if f i = n then f (n + 1) else f i) < n; split
    .omega
    .omega)
   refine ⟨i, j, hij, by omega, ?_⟩; have hi1 : f i ≠ f (n + 1) := fun e => hc ⟨i, by omega, e⟩; have hj1 : f j ≠ f (n + 1) := fun e => hc ⟨j, by omega, e⟩; split at he <;> split at he <;> omega
theorem Jho {n : Nat} {f : Nat -> Nat} (hb : ∀ i, i < n -> f i < n) (hi : ∀ i j, i < j -> j < n -> f i ≠ f j) {y : Nat} (hy : y < n) : ∃ i, i < n /\ f i = y := by
 obtain ⟨i, j, hij, hj, he⟩ := php n (fun i => if i < n then f i else y) (fun i _ => by
  show (if i < n then f i else y) < n; split
  .rename_i h; exact hb i h
  .exact hy)
 rcases Nat.lt_or_ge j n with h | h
 .rw [if_pos h, if_pos (show i < n by omega)] at he; exact absurd he (hi i j hij h)
 .rw [if_neg (show ¬ j < n by omega), if_pos (show i < n by omega)] at he; exact ⟨i, by omega, he⟩
section
variable {q : Nat} {A M : Nat -> Nat -> Nat} (R : CR q A M)
include R
namespace CR
theorem one_lt : 1 < q := R.q2
theorem pos : 0 < q := by have := R.q2; omega
theorem I1 {x : Nat} (hx : x < q) : M 1 x = x := by rw [R.Mc R.one_lt hx, R.M1 hx]
theorem Z0 {x : Nat} (hx : x < q) : M 0 x = 0 := by rw [R.Mc R.pos hx, R.M0 hx]
theorem zA {x : Nat} (hx : x < q) : A 0 x = x := by rw [R.Ac, R.Az hx]
theorem pw_lt (g : Nat) : ∀ k, pw M g k < q
 | 0 => R.one_lt
 | k + 1 => R.Ml _ _
theorem pw_one {g : Nat} (hg : g < q) : pw M g 1 = g := R.I1 hg
theorem pw_add {g : Nat} (hg : g < q) (i : Nat) : ∀ j, pw M g (i + j) = M (pw M g i) (pw M g j)
 | 0 => (R.M1 (R.pw_lt g i)).symm
 | j + 1 => by
  show M (pw M g (i + j)) g = M (pw M g i) (M (pw M g j) g); rw [pw_add hg i j, R.Ma (R.pw_lt g i) (R.pw_lt g j) hg]
theorem pw_pw {g : Nat} (hg : g < q) (i : Nat) : ∀ j, pw M (pw M g i) j = pw M g (i * j)
 | 0 => rfl
 | j + 1 => by
  show M (pw M (pw M g i) j) (pw M g i) = _; rw [pw_pw hg i j, <- R.pw_add hg]; rfl
theorem one_pw : ∀ j, pw M 1 j = 1
 | 0 => rfl
 | j + 1 => by show M (pw M 1 j) 1 = 1; rw [one_pw j, R.M1 R.one_lt]
theorem zero_pw {n : Nat} (h : 0 < n) : pw M 0 n = 0 := by
 cases n with
 | zero => omega
 | succ n => exact R.M0 (R.pw_lt 0 n)
end CR
end
structure Gn (q : Nat) (M : Nat -> Nat -> Nat) (g : Nat) : Prop where
  lt : g < q
  one : pw M g (q - 1) = 1
  no : ∀ k, 0 < k -> k < q - 1 -> pw M g k ≠ 1
namespace Gn
variable {q g : Nat} {A M : Nat -> Nat -> Nat}
theorem per (G : Gn q M g) (R : CR q A M) (i k : Nat) : pw M g (i + (q - 1) * k) = pw M g i := by
 rw [R.pw_add G.lt, <- R.pw_pw G.lt, G.one, R.one_pw, R.M1 (R.pw_lt g i)]
theorem ne0 (G : Gn q M g) (R : CR q A M) (k : Nat) : pw M g k ≠ 0 := fun h => by
 have h1 := G.per R 0 (k + 1); have hq := R.q2; rw [Nat.zero_add] at h1; have : (q - 1) * (k + 1) = k + ((q - 1) * (k + 1) - k) := by
  have : k + 1 <= (q - 1) * (k + 1) := Nat.le_mul_of_pos_left _ (by omega); omega
 rw [this, R.pw_add G.lt, h, R.Z0 (R.pw_lt g _)] at h1; exact absurd h1 (by show ¬ (0 : Nat) = 1; omega)
theorem inj (G : Gn q M g) (R : CR q A M) {i j : Nat} (hij : i < j) (hj : j < q - 1) : pw M g i ≠ pw M g j := fun h => by
 have e1 : M (pw M g i) (pw M g (q - 1 - i)) = 1 := by rw [<- R.pw_add G.lt, show i + (q - 1 - i) = q - 1 by omega, G.one]
 have e2 : M (pw M g j) (pw M g (q - 1 - i)) = pw M g (j - i) := by
  rw [<- R.pw_add G.lt, show j + (q - 1 - i) = (j - i) + (q - 1) * 1 by omega, G.per R]
 rw [h] at e1; exact G.no (j - i) (by omega) (by omega) (e2.symm.trans e1)
theorem surj (G : Gn q M g) (R : CR q A M) {x : Nat} (h0 : 0 < x) (hx : x < q) : ∃ k, k < q - 1 /\ pw M g k = x := by
 obtain ⟨i, hi, he⟩ := Jho (n := q - 1) (f := fun k => pw M g k - 1) (fun i hi => by
  have := R.pw_lt g i; have := G.ne0 R i; show pw M g i - 1 < q - 1; omega) (fun i j hij hj he => by
  have h1 := G.ne0 R i; have h2 := G.ne0 R j; exact G.inj R hij hj (by omega)) (y := x - 1) (by omega)
 have := G.ne0 R i; exact ⟨i, hi, by omega⟩
open Classical in
noncomputable def lg (q : Nat) (M : Nat -> Nat -> Nat) (g x : Nat) : Nat := if h : ∃ k, k < q - 1 /\ pw M g k = x then Classical.choose h else 0
theorem xone (G : Gn q M g) (R : CR q A M) {x : Nat} (h0 : 0 < x) (hx : x < q) : pw M x (q - 1) = 1 := by
  obtain ⟨k, hk, rfl⟩ := G.surj R h0 hx
  rw [R.pw_pw G.lt, Nat.mul_comm, <- R.pw_pw G.lt, G.one, R.one_pw]
end Gn
end Go.Proofs.Ytppkigdakobebaa
namespace Go.Proofs.Ytppkigdakobebaa
structure IsLf (n d : Nat) : Prop where
  two : 2 <= d
  dvd : n % d = 0
  min : ∀ e, 2 <= e -> n % e = 0 -> d <= e
def Jqs : Nat -> Nat -> Nat
  | _, 0 => 1
  | 0, _ + 1 => 0
  | n + 1, k + 1 => Jqs n k + Jqs n (k + 1)
section
variable {q : Nat} {A M : Nat -> Nat -> Nat} (R : CR q A M)
include R
namespace CR
theorem Aac {a b c : Nat} (ha : a < q) (hb : b < q) (hc : c < q) : A (A a b) c = A (A a c) b := by
 rw [R.Aa ha hb hc, R.Ac b c, <- R.Aa ha hc hb]
theorem A4 {a b c d : Nat} (ha : a < q) (hb : b < q) (hc : c < q) (hd : d < q) : A (A a b) (A c d) = A (A a c) (A b d) := by
 rw [<- R.Aa (R.Al a b) hc hd, R.Aac ha hb hc, R.Aa (R.Al a c) hb hd]
end CR
end
end Go.Proofs.Ytppkigdakobebaa
namespace Go.Proofs.Ytppkigdakobebaa
def hz (m : Nat) (c b y : Vec) (n : Nat) : Nat -> Vec
  | 0 => vz
  | k + 1 => JV (tX m c (hz m c b y n k)) (vsm (b (n - 1 - k)) y)
theorem Jqc {m : Nat} {c b y : Vec} {n : Nat} : ∀ {k : Nat}, k <= n -> JV (tXn m c (n - k) (hz m c b y n k)) (opr m c b (n - k) y) = opr m c b n y
 | 0, _ => by simp only [hz, Nat.sub_zero]; rw [Jhn, z_vadd]
 | k + 1, h => by
  have ih := Jqc (m := m) (c := c) (b := b) (y := y) (n := n) (k := k) (by omega); obtain ⟨r, hr⟩ : ∃ r, n - k = r + 1 := ⟨n - k - 1, by omega⟩
  rw [show n - (k + 1) = r by omega]; rw [hr] at ih; rw [<- ih]; show JV (tXn m c r (JV (tX m c (hz m c b y n k)) (vsm (b (n - 1 - k)) y))) (opr m c b r y) = JV (tX m c (tXn m c r (hz m c b y n k))) (JV (opr m c b r y) (vsm (b r) (tXn m c r y))); rw [Jaq, Jbh, Jpc, show n - 1 - k = r by omega, Y7, Je6 (vsm _ _)]
theorem hz_all (m : Nat) (c b y : Vec) (n : Nat) : hz m c b y n n = opr m c b n y := by
 have := Jqc (m := m) (c := c) (b := b) (y := y) (n := n) (k := n) (Nat.le_refl n); rw [Nat.sub_self] at this; rw [<- this]; exact (Z6 _).symm
def dgl (p : Nat) : Nat -> Nat -> List Nat
  | 0, _ => []
  | n + 1, x => (x % p) :: dgl p n (x / p)
theorem QA (p : Nat) : ∀ n x, (dgl p n x).length = n
 | 0, _ => rfl
 | n + 1, x => by simp [dgl, QA p n]
theorem Jb1 (p : Nat) : ∀ n x i, i < n -> (((dgl p n x).getD i 0 : Nat) : Int) = dv p x i
 | 0, _, i, h => by omega
 | n + 1, x, 0, _ => by rw [YJ]; rfl
 | n + 1, x, i + 1, h => by
  show (((dgl p n (x / p)).getD i 0 : Nat) : Int) = _; rw [Jb1 p n (x / p) i (by omega), Ze]
@[reducible] noncomputable def hd0 (l : List Nat) : Nat := List.rec (motive := fun _ => Nat) 0 (fun x _ _ => x) l
@[reducible] noncomputable def tl0 (l : List Nat) : List Nat := List.rec (motive := fun _ => List Nat) [] (fun _ l _ => l) l
noncomputable def go (p a top : Nat) (cs : List Nat) : Nat -> List Nat -> List Nat -> List Nat :=
  List.rec (motive := fun _ => Nat -> List Nat -> List Nat -> List Nat) (fun _ _ _ => [])
    (fun c _ ih prev us ys => ((prev + (p - c) * top + a * hd0 ys) % p) :: ih (hd0 us) (tl0 us) (tl0 ys)) cs
noncomputable def tp (l : List Nat) : Nat -> Nat := List.rec (motive := fun _ => Nat -> Nat) (fun d => d) (fun x _ ih _ => ih x) l
noncomputable def Jka (p : Nat) (cs ys gs : List Nat) : List Nat -> List Nat :=
  List.rec (motive := fun _ => List Nat -> List Nat) (fun acc => acc) (fun g _ ih acc => ih (go p g (tp acc 0) cs 0 acc ys)) gs
noncomputable def az (l : List Nat) : Bool := List.rec (motive := fun _ => Bool) true (fun x _ ih => bif Nat.beq x 0 then ih else false) l
noncomputable def is1 (l : List Nat) : Bool := List.rec (motive := fun _ => Bool) false (fun x t _ => bif Nat.beq x 1 then az t else false) l
noncomputable def run (p : Nat) (cs gs : List Nat) (n : Nat) : List Nat -> Bool :=
  Nat.rec (motive := fun _ => List Nat -> Bool) (fun y => is1 y) (fun _ ih y => bif is1 y then false else ih (Jka p cs y gs y)) n
noncomputable def Jhq (p c : Nat) (al : List Nat) : List Nat -> List Nat :=
  List.rec (motive := fun _ => List Nat -> List Nat) (fun bs => bs) (fun a _ ih bs => ((hd0 bs + (p - a) * c) % p) :: ih (tl0 bs)) al
noncomputable def dvg (p : Nat) (low : List Nat) (k : Nat) : List Nat -> Bool :=
  Nat.rec (motive := fun _ => List Nat -> Bool) (fun r => az r) (fun _ ih r => ih (Jhq p (hd0 r) low (tl0 r))) k
noncomputable def nob (f : Nat -> Bool) (n : Nat) : Bool := Nat.rec (motive := fun _ => Bool) true (fun i ih => bif f i then false else ih) n
noncomputable def irrB (p m : Nat) (ml : List Nat) : Bool :=
  nob (fun d => !nob (fun w => dvg p (dgl p (d + 1) w).reverse (m - d) (1 :: ml.reverse)) (p ^ (d + 1))) (m / 2)
noncomputable def cand (p c : Nat) : List Nat := bif Nat.blt c p then [c] else bif Nat.blt c (p + p * p) then [(c - p) / p, (c - p) % p] else [(c - p - p * p) / (p * p), (c - p - p * p) / p % p, (c - p - p * p) % p]
noncomputable def gen1 (p m : Nat) (cs gs : List Nat) : Bool := run p cs gs (p ^ m - 2) (Jka p cs (dgl p m 1) gs (dgl p m 1))
noncomputable def Jki (p m : Nat) (cs : List Nat) : Bool := !nob (fun c => gen1 p m cs (cand p (p + p * p + p * p * p - 1 - c))) (p + p * p + p * p * p)
noncomputable def chk (p m lo n : Nat) : Bool := nob (fun v => bif irrB p m (dgl p m (lo + v)) then !Jki p m (dgl p m (lo + v)) else false) n

theorem Jgr (l : List Nat) : hd0 l = l.getD 0 0 := by cases l <;> rfl
theorem Jdo (l : List Nat) (i : Nat) : (tl0 l).getD i 0 = l.getD (i + 1) 0 := by cases l <;> rfl
theorem Jsb (l : List Nat) : (tl0 l).length = l.length - 1 := by cases l <;> simp [tl0]
theorem Jgv (p a top c : Nat) (cs : List Nat) (prev : Nat) (us ys : List Nat) : go p a top (c :: cs) prev us ys = ((prev + (p - c) * top + a * hd0 ys) % p) :: go p a top cs (hd0 us) (tl0 us) (tl0 ys) := rfl
theorem Jqf (p a top : Nat) : ∀ (cs : List Nat) (prev : Nat) (us ys : List Nat), (go p a top cs prev us ys).length = cs.length
 | [], _, _, _ => rfl
 | c :: cs, prev, us, ys => by rw [Jgv, List.length_cons, Jqf p a top cs, List.length_cons]
theorem go_at (p a top : Nat) : ∀ (cs : List Nat) (prev : Nat) (us ys : List Nat) (i : Nat), i < cs.length -> (go p a top cs prev us ys).getD i 0 = ((if i = 0 then prev else us.getD (i - 1) 0) + (p - cs.getD i 0) * top + a * ys.getD i 0) % p
 | [], _, _, _, i, h => by simp at h
 | c :: cs, prev, us, ys, 0, _ => by rw [Jgv, Jgr]; rfl
 | c :: cs, prev, us, ys, i + 1, h => by
  rw [Jgv]; show (go p a top cs (hd0 us) (tl0 us) (tl0 ys)).getD i 0 = _; rw [go_at p a top cs _ _ _ i (by simpa using h)]; cases i with
  | zero => rw [if_pos rfl, if_neg (by omega), Jgr, Jdo]; rfl
  | succ i => rw [if_neg (by omega), if_neg (by omega), Jdo, Jdo]; rfl
theorem tp_eq : ∀ (l : List Nat) (d : Nat), 0 < l.length -> tp l d = l.getD (l.length - 1) 0
 | [], _, h => by simp at h
 | [x], d, _ => rfl
 | x :: y :: l, d, _ => by
  show tp (y :: l) x = _; rw [tp_eq (y :: l) x (by simp)]; simp
def Rep (p m : Nat) (L : List Nat) (v : Vec) : Prop := L.length = m /\ ∀ i, i < m -> ((L.getD i 0 : Nat) : Int) = v i % (p : Int)
def hl (m : Nat) (c y : Vec) : List Nat -> Vec -> Vec
  | [], u => u
  | g :: gs, u => hl m c y gs (JV (tX m c u) (vsm g y))
theorem Rep.step {p m : Nat} {cs us ys : List Nat} {c u y : Vec} (hp : 0 < p) (hm : 0 < m) (hc : Rep p m cs c) (hu : Rep p m us u) (hy : Rep p m ys y) (g : Nat) :
  Rep p m (go p g (tp us 0) cs 0 us ys) (JV (tX m c u) (vsm g y)) := by
 refine ⟨by rw [Jqf, hc.1], fun i hi => ?_⟩; rw [go_at _ _ _ _ _ _ _ _ (by rw [hc.1]; exact hi), tp_eq _ _ (by rw [hu.1]; exact hm), hu.1]; have h1 := hu.2 (m - 1) (by omega); have h2 := hc.2 i hi; have h3 := hy.2 i hi; have hlt : cs.getD i 0 <= p := by
  have := Int.emod_lt_of_pos (c i) (show (0 : Int) < p by omega); omega
 have e : (((if i = 0 then 0 else us.getD (i - 1) 0) : Nat) : Int) % p = (if i = 0 then (0 : Int) else u (i - 1)) % p := by
  split
  .rfl
  .rw [hu.2 (i - 1) (by omega), Int.emod_emod]
 simp only [JV, vsm, tX, if_pos hi]; generalize (if i = 0 then 0 else us.getD (i - 1) 0 : Nat) = A at *
 generalize (if i = 0 then (0 : Int) else u (i - 1)) = B at *
 generalize us.getD (m - 1) 0 = T at *
 generalize cs.getD i 0 = C at *
 generalize ys.getD i 0 = Y at *
 have hT : ((T : Nat) : Int) % p = u (m - 1) % p := by rw [h1, Int.emod_emod]
 have hC : ((C : Nat) : Int) % p = c i % p := by rw [h2, Int.emod_emod]
 have hY : ((Y : Nat) : Int) % p = y i % p := by rw [h3, Int.emod_emod]
 obtain ⟨D, hD⟩ : ∃ D, p = C + D := ⟨p - C, by omega⟩
 have hsub : p - C = D := by omega
 rw [hsub]; have hcast : ((A + D * T + g * Y : Nat) : Int) = ((A : Int) - C * T + g * Y) + p * T := by
  have : (p : Int) = C + D := by omega
  rw [this]; push_cast; rw [Int.add_mul]; omega
 rw [Int.natCast_emod, hcast, Int.add_mul_emod_self_left]; exact Jb6 (Jjs e (Jbp hC hT)) (Jbp rfl hY)
theorem Jnm (p : Nat) (cs ys : List Nat) (g : Nat) (gs acc : List Nat) : Jka p cs ys (g :: gs) acc = Jka p cs ys gs (go p g (tp acc 0) cs 0 acc ys) := rfl
theorem Rep.mul {p m : Nat} {cs ys : List Nat} {c y : Vec} (hp : 0 < p) (hm : 0 < m) (hc : Rep p m cs c) (hy : Rep p m ys y) : ∀ {gs us : List Nat} {u : Vec}, Rep p m us u -> Rep p m (Jka p cs ys gs us) (hl m c y gs u)
 | [], _, _, h => h
 | g :: gs, us, u, h => by rw [Jnm]; exact Rep.mul hp hm hc hy (Rep.step hp hm hc h hy g)
theorem Jkf {m : Nat} {c y : Vec} (hy : Sup m y) : ∀ {gs : List Nat} {u : Vec}, Sup m u -> Sup m (hl m c y gs u)
 | [], _, h => h
 | g :: gs, u, h => Jkf (gs := gs) (u := JV (tX m c u) (vsm g y)) hy (Sup.add Sup.tX hy.sm)
theorem Jqd {m : Nat} {c y : Vec} (hy : Sup m y) : ∀ {gs : List Nat} {U : Vec}, hl m c y gs (opr m c y m U) = opr m c y m (hl m c e0 gs U)
  | [], _ => rfl
  | g :: gs, U => by
    show hl m c y gs (JV (tX m c (opr m c y m U)) (vsm g y)) = opr m c y m (hl m c e0 gs (JV (tX m c U) (vsm g e0)))
    rw [<- Jqd hy, Jl2, Jj2, YV hy]
    have := Jl1 m c y m 1 U
    rw [show tXn m c 1 U = tX m c U from rfl, show tXn m c 1 (opr m c y m U) = tX m c (opr m c y m U) from rfl] at this
    rw [this]
theorem Jgy {m : Nat} (hm : 0 < m) : Sup m e0 := fun i hi => by simp [e0, show i ≠ 0 by omega]
theorem hl_mul {m : Nat} {c y : Vec} (hm : 0 < m) (hy : Sup m y) (gs : List Nat) : hl m c y gs y = QZ m c y (hl m c e0 gs e0) := by
 rw [ZG hy (Jkf (Jgy hm) (Jgy hm))]; show _ = opr m c y m (hl m c e0 gs e0); rw [<- Jqd hy, YV hy]
theorem Jr0 {p m x : Nat} : Rep p m (dgl p m x) (dv p x) := ⟨QA p m x, fun i hi => by rw [Jb1 p m x i hi, Jaf]⟩
theorem Rep.cg {p m : Nat} {L : List Nat} {u v : Vec} (h : Rep p m L u) (hv : ∀ i, i < m -> u i % (p : Int) = v i % (p : Int)) : Rep p m L v := ⟨h.1, fun i hi => by rw [h.2 i hi, hv i hi]⟩
theorem Jtd (x : Nat) (l : List Nat) : az (x :: l) = bif Nat.beq x 0 then az l else false := rfl
theorem Jg4 : ∀ l : List Nat, az l = true ↔ ∀ i, i < l.length -> l.getD i 0 = 0
 | [] => ⟨fun _ i h => by simp at h, fun _ => rfl⟩
 | x :: l => by
  rw [Jtd]; cases hx : Nat.beq x 0 with
  | true =>
   have := Nat.eq_of_beq_eq_true hx; subst this; rw [show (bif true then az l else false) = az l from rfl, Jg4 l]; constructor
   .intro h i hi; cases i with
    | zero => rfl
    | succ i => exact h i (by simpa using hi)
   .intro h i hi; exact h (i + 1) (by simpa using hi)
  | false =>
   rw [show (bif false then az l else false) = false from rfl]; constructor
   .intro h; cases h
   .intro h; have := h 0 (by simp); simp only [List.getD_cons_zero] at this; subst this; cases hx
theorem Jmb {p m x : Nat} {L : List Nat} (hp : 2 <= p) (hm : 0 < m) (hx : x < p ^ m) (h : Rep p m L (Go.Proofs.Ytppkigdakobebaa.dv p x)) : is1 L = true ↔ x = 1 := by
 obtain ⟨a, l, rfl⟩ : ∃ a l, L = a :: l := by
  cases L with
  | nil => have := h.1; simp at this; omega
  | cons a l => exact ⟨a, l, rfl⟩
 have hlen : l.length + 1 = m := h.1; have h0 := h.2 0 hm; have e : is1 (a :: l) = bif Nat.beq a 1 then az l else false := rfl; rw [e]; constructor
 .intro hb; cases ha : Nat.beq a 1 with
  | false => rw [ha] at hb; cases hb
  | true =>
   rw [ha] at hb; have hz := (Jg4 l).1 hb; have ha1 := Nat.eq_of_beq_eq_true ha; subst ha1; rw [<- Z4 (p := p) (m := m) (by omega) hx, <- Z4 (p := p) (m := m) (x := 1) (by omega) (Nat.one_lt_pow (by omega) (by omega))]; refine Jp8 fun i hi => ?_; rw [Jgz hp, Jaf, <- Jaf, <- h.2 i hi]; cases i with
   | zero =>
    show (1 : Int) = e0 0 % p; simp only [e0, if_pos]; exact (Int.emod_eq_of_lt (by omega) (by omega)).symm
   | succ i =>
    show ((l.getD i 0 : Nat) : Int) = e0 (i + 1) % p; rw [hz i (by omega)]; simp [e0]
 .intro hx1; subst hx1; have ha : a = 1 := by
   have : ((a : Nat) : Int) = Go.Proofs.Ytppkigdakobebaa.dv p 1 0 % p := h0; rw [Jaf, Jgz hp] at this; simp [e0] at this; omega
  subst ha; show az l = true; refine (Jg4 l).2 fun i hi => ?_; have : ((l.getD i 0 : Nat) : Int) = Go.Proofs.Ytppkigdakobebaa.dv p 1 (i + 1) % p := h.2 (i + 1) (by omega); rw [Jaf, Jgz hp] at this; simp only [e0] at this; rw [if_neg (by omega)] at this; exact Int.ofNat_eq_zero.1 this
def gel (p m : Nat) (c : Vec) (gs : List Nat) : Nat := nm p m (hl m c e0 gs e0)
theorem Jje {p m x : Nat} {cs L gs : List Nat} {c : Vec} (hp : 2 <= p) (hm : 0 < m) (hx : x < p ^ m) (hc : Rep p m cs c) (h : Rep p m L (Go.Proofs.Ytppkigdakobebaa.dv p x)) : Rep p m (Jka p cs L gs L) (Go.Proofs.Ytppkigdakobebaa.dv p (JO p m c x (gel p m c gs))) := by
 have h1 := Rep.mul (gs := gs) (by omega) hm hc h h; rw [hl_mul hm (QS hx)] at h1; refine h1.cg fun i hi => ?_; have hs := Jkf (c := c) (gs := gs) (Jgy hm) (Jgy hm); have e1 := Ja1 (p := p) (m := m) (c := c) (by omega) hx (y := gel p m c gs); have e2 := vcg.mul (m := m) (vcg.refl (p := p) c) (vcg.refl (Go.Proofs.Ytppkigdakobebaa.dv p x)) (Ji2 (p := p) (m := m) (by omega) hs); exact ((e1.trans e2) i).symm
theorem Jpj (p : Nat) (cs gs : List Nat) (n : Nat) (y : List Nat) : run p cs gs (n + 1) y = bif is1 y then false else run p cs gs n (Jka p cs y gs y) := rfl
theorem Jpk {p m : Nat} {cs gs : List Nat} {c : Vec} (hp : 2 <= p) (hm : 0 < m) (hc : Rep p m cs c) : ∀ {n : Nat} {L : List Nat} {x : Nat}, x < p ^ m -> Rep p m L (Go.Proofs.Ytppkigdakobebaa.dv p x) -> run p cs gs n L = true ->
  (∀ k, k < n -> JO p m c x (pw (JO p m c) (gel p m c gs) k) ≠ 1) /\ JO p m c x (pw (JO p m c) (gel p m c gs) n) = 1
 | 0, L, x, hx, h, hr => by
  refine ⟨fun k hk => by omega, ?_⟩; show JO p m c x 1 = 1; rw [Jec hp hm hx]; exact (Jmb hp hm hx h).1 hr
 | n + 1, L, x, hx, h, hr => by
  rw [Jpj] at hr; cases h1 : is1 L with
  | true => rw [h1] at hr; cases hr
  | false =>
   rw [h1] at hr; have R := Jlk (p := p) (m := m) c hp hm; have hg : gel p m c gs < p ^ m := Z3 (by omega) _; have ih := Jpk hp hm hc (Jgw (by omega) x _) (Jje (gs := gs) hp hm hx hc h) hr; have e : ∀ k, JO p m c (JO p m c x (gel p m c gs)) (pw (JO p m c) (gel p m c gs) k) = JO p m c x (pw (JO p m c) (gel p m c gs) (k + 1)) := fun k => by
    rw [R.Ma hx hg (R.pw_lt _ k), R.Mc hg (R.pw_lt _ k)]; rfl
   refine ⟨fun k hk => ?_, by rw [<- e]; exact ih.2⟩; cases k with
   | zero =>
    show JO p m c x 1 ≠ 1; rw [Jec hp hm hx]; intro hx1; rw [(Jmb hp hm hx h).2 hx1] at h1; cases h1
   | succ k => rw [<- e]; exact ih.1 k (by omega)
theorem Js3 {p m : Nat} {cs gs : List Nat} {c : Vec} (hp : 2 <= p) (hm : 0 < m) (hc : Rep p m cs c) (h : gen1 p m cs gs = true) : Gn (p ^ m) (JO p m c) (gel p m c gs) := by
 have R := Jlk (p := p) (m := m) c hp hm; have hg : gel p m c gs < p ^ m := Z3 (by omega) _; have h1 := Jje (gs := gs) hp hm R.one_lt hc Jr0; rw [R.I1 hg] at h1; obtain ⟨h2, h3⟩ := Jpk hp hm hc hg h1 h; have hq := R.q2; have e : ∀ k, JO p m c (gel p m c gs) (pw (JO p m c) (gel p m c gs) k) = pw (JO p m c) (gel p m c gs) (k + 1) := fun k => R.Mc hg (R.pw_lt _ k); refine ⟨hg, ?_, fun k h0 hk => ?_⟩
 .rw [show p ^ m - 1 = (p ^ m - 2) + 1 by omega, <- e]; exact h3
 .rw [show k = (k - 1) + 1 by omega, <- e]; exact h2 (k - 1) (by omega)
theorem Jp7 (f : Nat -> Bool) (n : Nat) : nob f (n + 1) = bif f n then false else nob f n := rfl
theorem ZM (f : Nat -> Bool) : ∀ n, nob f n = true ↔ ∀ i, i < n -> f i = false
 | 0 => ⟨fun _ i h => by omega, fun _ => rfl⟩
 | n + 1 => by
  rw [Jp7]; cases h : f n with
  | true =>
   refine ⟨fun h' => ?_, fun h' => ?_⟩
   .cases h'
   .rw [h' n (by omega)] at h; cases h
  | false =>
   show nob f n = true ↔ _; rw [ZM f n]; refine ⟨fun h' i hi => ?_, fun h' i hi => h' i (by omega)⟩; rcases Nat.lt_or_ge i n with h1 | h1
   .exact h' i h1
   .rw [show i = n by omega]; exact h
theorem Jnl (f : Nat -> Bool) (n : Nat) (h : nob f n = false) : ∃ i, i < n /\ f i = true := by
 have hn : ¬ ∀ i, i < n -> f i = false := fun h' => by rw [(ZM f n).2 h'] at h; cases h
 have := Classical.not_forall.1 hn; obtain ⟨i, hi⟩ := this; have h2 := Classical.not_imp.1 hi; exact ⟨i, h2.1, by cases hf : f i with | true => rfl | false => exact absurd hf h2.2⟩
theorem Jmd {p m : Nat} {cs : List Nat} {c : Vec} (hp : 2 <= p) (hm : 0 < m) (hc : Rep p m cs c) (h : Jki p m cs = true) : ∃ g, Gn (p ^ m) (JO p m c) g := by
 unfold Jki at h; obtain ⟨i, _, hi⟩ := Jnl _ _ (by simpa using h); exact ⟨_, Js3 hp hm hc hi⟩
def rst (p d i : Nat) (l R : Vec) : Vec := fun j => if i <= j + d /\ j < i then (R j - l (j + d - i) * R i) % (p : Int) else R j
def rem (p d : Nat) (l R : Vec) (n : Nat) : Nat -> Vec
  | 0 => R
  | k + 1 => rst p d (n - 1 - k) l (rem p d l R n k)
def Dvd (p d : Nat) (l R : Vec) (n : Nat) : Prop := ∀ j, j < d -> rem p d l R n (n - d) j = 0
def Irr (p m : Nat) (c : Vec) : Prop := ∀ d, 0 < d -> 2 * d <= m -> ∀ w, w < p ^ d -> ¬ Dvd p d (dv p w) (fun i => if i = m then 1 else c i) (m + 1)
theorem Jbi (p c a : Nat) (al bs : List Nat) : Jhq p c (a :: al) bs = ((hd0 bs + (p - a) * c) % p) :: Jhq p c al (tl0 bs) := rfl
theorem Jhp (p c : Nat) : ∀ al bs : List Nat, al.length <= bs.length -> (Jhq p c al bs).length = bs.length
 | [], _, _ => rfl
 | a :: al, [], h => by simp at h
 | a :: al, b :: bs, h => by
  rw [Jbi, List.length_cons]; show (Jhq p c al bs).length + 1 = _; rw [Jhp p c al bs (by simpa using h)]; rfl
theorem Jlr (p c : Nat) : ∀ (al bs : List Nat) (t : Nat), (Jhq p c al bs).getD t 0 = if t < al.length then (bs.getD t 0 + (p - al.getD t 0) * c) % p else bs.getD t 0
 | [], bs, t => by simp; rfl
 | a :: al, bs, 0 => by rw [Jbi, Jgr]; simp
 | a :: al, bs, t + 1 => by
  rw [Jbi]; show (Jhq p c al (tl0 bs)).getD t 0 = _; rw [Jlr p c al (tl0 bs) t, Jdo]; simp
theorem Jqn (p : Nat) (low : List Nat) (k : Nat) (r : List Nat) : dvg p low (k + 1) r = dvg p low k (Jhq p (hd0 r) low (tl0 r)) := rfl
theorem Jqo {p d n : Nat} {l R : Vec} {low : List Nat} (hp : 0 < p) (hl : low.length = d) (hlow : ∀ t, t < d -> ((low.getD t 0 : Nat) : Int) = l (d - 1 - t)) (hlp : ∀ t, t < d -> low.getD t 0 <= p) : ∀ (s k : Nat) (r : List Nat), s + k + d = n -> r.length = n - k ->
  (∀ t, t < n - k -> ((r.getD t 0 : Nat) : Int) = rem p d l R n k (n - 1 - k - t)) -> (dvg p low s r = true ↔ Dvd p d l R n)
 | 0, k, r, hs, hr, hv => by
  have : n - k = d := by omega
  rw [this] at hr hv; show az r = true ↔ _; rw [Jg4, hr]; have hk : n - d = k := by omega
  unfold Dvd; rw [hk]; constructor
  .intro h j hj; have := hv (d - 1 - j) (by omega); rw [h (d - 1 - j) (by omega), show n - 1 - k - (d - 1 - j) = j by omega] at this; exact this.symm
  .intro h t ht; have := hv t ht; rw [h (n - 1 - k - t) (by omega)] at this; exact Int.ofNat_eq_zero.1 this
 | s + 1, k, r, hs, hr, hv => by
  rw [Jqn]; have htl : (tl0 r).length = n - (k + 1) := by rw [Jsb, hr]; omega
  refine Jqo hp hl hlow hlp s (k + 1) _ (by omega) (by rw [Jhp _ _ _ _ (by rw [htl, hl]; omega), htl]) fun t ht => ?_; rw [Jlr, hl, Jdo, Jgr]; have h0 := hv 0 (by omega); rw [Nat.sub_zero] at h0; have h1 := hv (t + 1) (by omega); rw [show n - 1 - k - (t + 1) = n - 1 - (k + 1) - t by omega] at h1; show _ = rst p d (n - 1 - k) l (rem p d l R n k) (n - 1 - (k + 1) - t); unfold rst; by_cases htd : t < d
  .rw [if_pos htd, if_pos (by omega)]; have h2 := hlow t htd; have h3 := hlp t htd; rw [show n - 1 - (k + 1) - t + d - (n - 1 - k) = d - 1 - t by omega, <- h0, <- h1, <- h2]; generalize r.getD (t + 1) 0 = X at *
   generalize low.getD t 0 = Y at *
   generalize r.getD 0 0 = Z at *
   obtain ⟨D, hD⟩ : ∃ D, p = Y + D := ⟨p - Y, by omega⟩
   rw [show p - Y = D by omega, Int.natCast_emod]; have hcast : ((X + D * Z : Nat) : Int) = ((X : Int) - Y * Z) + p * Z := by
    have : (p : Int) = Y + D := by omega
    rw [this]; push_cast; rw [Int.add_mul]; omega
   rw [hcast, Int.add_mul_emod_self_left]
  .rw [if_neg htd, if_neg (by omega)]; exact h1
theorem Jeb (l : List Nat) (t : Nat) (h : t < l.length) : l.reverse.getD t 0 = l.getD (l.length - 1 - t) 0 := by
 rw [List.getD_eq_getElem?_getD, List.getD_eq_getElem?_getD, List.getElem?_reverse h]
theorem Jee {p : Nat} (hp : 0 < p) (x i : Nat) : 0 <= dv p x i /\ dv p x i < p := Jfj hp x (i + 1) i (by omega)
theorem Jh6 {p m v : Nat} (hp : 0 < p) (hv : v < p ^ m) : irrB p m (dgl p m v) = true ↔ Irr p m (dv p v) := by
 have key : ∀ d w, 0 < d -> 2 * d <= m -> (dvg p (dgl p d w).reverse (m + 1 - d) (1 :: (dgl p m v).reverse) = true ↔ Dvd p d (dv p w) (fun i => if i = m then 1 else dv p v i) (m + 1)) := fun d w hd h2 => by
  refine Jqo hp (by rw [List.length_reverse, QA]) (fun t ht => ?_) (fun t ht => ?_) (m + 1 - d) 0 _ (by omega) (by simp [QA]) fun t ht => ?_
  .rw [Jeb _ _ (by rw [QA]; exact ht), QA, Jb1 _ _ _ _ (by omega)]
  .rw [Jeb _ _ (by rw [QA]; exact ht), QA]; have := Jb1 p d w (d - 1 - t) (by omega); have := Jee hp w (d - 1 - t); omega
  .show _ = if m + 1 - 1 - 0 - t = m then (1 : Int) else dv p v (m + 1 - 1 - 0 - t)
   cases t with
   | zero => rw [if_pos (by omega)]; rfl
   | succ t =>
    rw [if_neg (by omega)]; show (((dgl p m v).reverse.getD t 0 : Nat) : Int) = _; rw [Jeb _ _ (by rw [QA]; omega), QA, Jb1 _ _ _ _ (by omega), show m + 1 - 1 - 0 - (t + 1) = m - 1 - t by omega]
 unfold irrB; rw [ZM]; constructor
 .intro h d hd h2 w hw hD; have h3 := h (d - 1) (by omega); have h4 := (ZM _ _).1 (by simpa using h3) w (by rw [show d - 1 + 1 = d by omega]; exact hw); rw [show d - 1 + 1 = d by omega, show m - (d - 1) = m + 1 - d by omega, (key d w hd h2).2 hD] at h4; cases h4
 .intro h d hd; have : nob (fun w => dvg p (dgl p (d + 1) w).reverse (m - d) (1 :: (dgl p m v).reverse)) (p ^ (d + 1)) = true := (ZM _ _).2 fun w hw => by
   cases hb : dvg p (dgl p (d + 1) w).reverse (m - d) (1 :: (dgl p m v).reverse) with
   | false => rfl
   | true =>
    rw [show m - d = m + 1 - (d + 1) by omega] at hb; exact absurd ((key (d + 1) w (by omega) (by omega)).1 hb) (h (d + 1) (by omega) (by omega) w hw)
  rw [this]; rfl
theorem JR {p m lo n v : Nat} (hp : 2 <= p) (hm : 0 < m) (h : chk p m lo n = true) (h1 : lo <= v) (h2 : v < lo + n) (hv : v < p ^ m) (hi : Irr p m (dv p v)) : ∃ g, Gn (p ^ m) (JO p m (dv p v)) g := by
 have h3 := (ZM _ _).1 h (v - lo) (by omega); simp only [show lo + (v - lo) = v by omega, (Jh6 (by omega) hv).2 hi, cond_true] at h3; exact Jmd hp hm Jr0 (by simpa using h3)
end Go.Proofs.Ytppkigdakobebaa
namespace Go.Proofs.Ytppkigdakobebaa
theorem Jn8 : chk 2 2 0 4 = true := by decide +kernel
theorem Jn7 : chk 2 3 0 8 = true := by decide +kernel
theorem Jn6 : chk 2 4 0 16 = true := by decide +kernel
theorem Jn5 : chk 2 5 0 32 = true := by decide +kernel
theorem Jn4 : chk 2 6 0 64 = true := by decide +kernel
theorem Jn3 : chk 2 7 0 64 = true := by decide +kernel
theorem Jk3 : chk 2 7 64 64 = true := by decide +kernel
theorem Jn2 : chk 2 8 0 24 = true := by decide +kernel
theorem Jk2 : chk 2 8 24 24 = true := by decide +kernel
theorem Jk1 : chk 2 8 48 24 = true := by decide +kernel
theorem Jk0 : chk 2 8 72 24 = true := by decide +kernel
theorem Jkz : chk 2 8 96 24 = true := by decide +kernel
theorem Jiz : chk 2 8 120 24 = true := by decide +kernel
theorem Jiy : chk 2 8 144 24 = true := by decide +kernel
theorem Jix : chk 2 8 168 24 = true := by decide +kernel
theorem Jiw : chk 2 8 192 24 = true := by decide +kernel
theorem Jiv : chk 2 8 216 24 = true := by decide +kernel
theorem Jiu : chk 2 8 240 16 = true := by decide +kernel
theorem Jn1 : chk 3 2 0 9 = true := by decide +kernel
theorem Jn0 : chk 3 3 0 27 = true := by decide +kernel
theorem Jnz : chk 3 4 0 64 = true := by decide +kernel
theorem Jky : chk 3 4 64 17 = true := by decide +kernel
theorem Jny : chk 3 5 0 24 = true := by decide +kernel
theorem Jkx : chk 3 5 24 24 = true := by decide +kernel
theorem Jkw : chk 3 5 48 24 = true := by decide +kernel
theorem Jkv : chk 3 5 72 24 = true := by decide +kernel
theorem Jku : chk 3 5 96 24 = true := by decide +kernel
theorem Jit : chk 3 5 120 24 = true := by decide +kernel
theorem Jis : chk 3 5 144 24 = true := by decide +kernel
theorem Jir : chk 3 5 168 24 = true := by decide +kernel
theorem Jiq : chk 3 5 192 24 = true := by decide +kernel
theorem Jip : chk 3 5 216 24 = true := by decide +kernel
theorem Jio : chk 3 5 240 3 = true := by decide +kernel
theorem Jnx : chk 5 2 0 25 = true := by decide +kernel
theorem Jnw : chk 5 3 0 64 = true := by decide +kernel
theorem Jkt : chk 5 3 64 61 = true := by decide +kernel
theorem Jnv : chk 7 2 0 49 = true := by decide +kernel
theorem Jk5 : chk 11 2 0 64 = true := by decide +kernel
theorem Ji1 : chk 11 2 64 57 = true := by decide +kernel
theorem Jk4 : chk 13 2 0 64 = true := by decide +kernel
theorem Ji0 : chk 13 2 64 64 = true := by decide +kernel
theorem Jg2 : chk 13 2 128 41 = true := by decide +kernel
theorem chk1_0 : ([2, 3, 5, 7, 11, 13, 17, 19, 23, 29, 31, 37, 41, 43, 47, 53, 59, 61] : List Nat).all (fun p => Jki p 1 [0]) = true := by decide +kernel
theorem chk1_1 : ([67, 71, 73, 79, 83, 89, 97, 101, 103, 107, 109, 113, 127, 131, 137, 139, 149, 151] : List Nat).all (fun p => Jki p 1 [0]) = true := by decide +kernel
theorem chk1_2 : ([157, 163, 167, 173, 179, 181, 191, 193, 197, 199, 211, 223, 227, 229, 233, 239, 241, 251] : List Nat).all (fun p => Jki p 1 [0]) = true := by decide +kernel
theorem gx_2_2 {v : Nat} (hv : v < 2 ^ 2) (hI : Irr 2 2 (dv 2 v)) : ∃ g, Gn (2 ^ 2) (JO 2 2 (dv 2 v)) g := by
 have hv2 : v < 4 := hv; exact JR (by decide) (by decide) Jn8 (by omega) (by omega) hv hI
theorem gx_2_3 {v : Nat} (hv : v < 2 ^ 3) (hI : Irr 2 3 (dv 2 v)) : ∃ g, Gn (2 ^ 3) (JO 2 3 (dv 2 v)) g := by
 have hv2 : v < 8 := hv; exact JR (by decide) (by decide) Jn7 (by omega) (by omega) hv hI
theorem gx_2_4 {v : Nat} (hv : v < 2 ^ 4) (hI : Irr 2 4 (dv 2 v)) : ∃ g, Gn (2 ^ 4) (JO 2 4 (dv 2 v)) g := by
 have hv2 : v < 16 := hv; exact JR (by decide) (by decide) Jn6 (by omega) (by omega) hv hI
theorem gx_2_5 {v : Nat} (hv : v < 2 ^ 5) (hI : Irr 2 5 (dv 2 v)) : ∃ g, Gn (2 ^ 5) (JO 2 5 (dv 2 v)) g := by
 have hv2 : v < 32 := hv; exact JR (by decide) (by decide) Jn5 (by omega) (by omega) hv hI
theorem gx_2_6 {v : Nat} (hv : v < 2 ^ 6) (hI : Irr 2 6 (dv 2 v)) : ∃ g, Gn (2 ^ 6) (JO 2 6 (dv 2 v)) g := by
 have hv2 : v < 64 := hv; exact JR (by decide) (by decide) Jn4 (by omega) (by omega) hv hI
theorem gx_2_7 {v : Nat} (hv : v < 2 ^ 7) (hI : Irr 2 7 (dv 2 v)) : ∃ g, Gn (2 ^ 7) (JO 2 7 (dv 2 v)) g := by
 have hv2 : v < 128 := hv; rcases Nat.lt_or_ge v 64 with h | h
 .exact JR (by decide) (by decide) Jn3 (by omega) (by omega) hv hI
 exact JR (by decide) (by decide) Jk3 (by omega) (by omega) hv hI
theorem gx_2_8 {v : Nat} (hv : v < 2 ^ 8) (hI : Irr 2 8 (dv 2 v)) : ∃ g, Gn (2 ^ 8) (JO 2 8 (dv 2 v)) g := by
 have hv2 : v < 256 := hv; rcases Nat.lt_or_ge v 24 with h | h
 .exact JR (by decide) (by decide) Jn2 (by omega) (by omega) hv hI
 rcases Nat.lt_or_ge v 48 with h | h
 .exact JR (by decide) (by decide) Jk2 (by omega) (by omega) hv hI
 rcases Nat.lt_or_ge v 72 with h | h
 .exact JR (by decide) (by decide) Jk1 (by omega) (by omega) hv hI
 rcases Nat.lt_or_ge v 96 with h | h
 .exact JR (by decide) (by decide) Jk0 (by omega) (by omega) hv hI
 rcases Nat.lt_or_ge v 120 with h | h
 .exact JR (by decide) (by decide) Jkz (by omega) (by omega) hv hI
 rcases Nat.lt_or_ge v 144 with h | h
 .exact JR (by decide) (by decide) Jiz (by omega) (by omega) hv hI
 rcases Nat.lt_or_ge v 168 with h | h
 .exact JR (by decide) (by decide) Jiy (by omega) (by omega) hv hI
 rcases Nat.lt_or_ge v 192 with h | h
 .exact JR (by decide) (by decide) Jix (by omega) (by omega) hv hI
 rcases Nat.lt_or_ge v 216 with h | h
 .exact JR (by decide) (by decide) Jiw (by omega) (by omega) hv hI
 rcases Nat.lt_or_ge v 240 with h | h
 .exact JR (by decide) (by decide) Jiv (by omega) (by omega) hv hI
 exact JR (by decide) (by decide) Jiu (by omega) (by omega) hv hI
theorem gx_3_2 {v : Nat} (hv : v < 3 ^ 2) (hI : Irr 3 2 (dv 3 v)) : ∃ g, Gn (3 ^ 2) (JO 3 2 (dv 3 v)) g := by
 have hv2 : v < 9 := hv; exact JR (by decide) (by decide) Jn1 (by omega) (by omega) hv hI
theorem gx_3_3 {v : Nat} (hv : v < 3 ^ 3) (hI : Irr 3 3 (dv 3 v)) : ∃ g, Gn (3 ^ 3) (JO 3 3 (dv 3 v)) g := by
 have hv2 : v < 27 := hv; exact JR (by decide) (by decide) Jn0 (by omega) (by omega) hv hI
theorem gx_3_4 {v : Nat} (hv : v < 3 ^ 4) (hI : Irr 3 4 (dv 3 v)) : ∃ g, Gn (3 ^ 4) (JO 3 4 (dv 3 v)) g := by
 have hv2 : v < 81 := hv; rcases Nat.lt_or_ge v 64 with h | h
 .exact JR (by decide) (by decide) Jnz (by omega) (by omega) hv hI
 exact JR (by decide) (by decide) Jky (by omega) (by omega) hv hI
theorem gx_3_5 {v : Nat} (hv : v < 3 ^ 5) (hI : Irr 3 5 (dv 3 v)) : ∃ g, Gn (3 ^ 5) (JO 3 5 (dv 3 v)) g := by
 have hv2 : v < 243 := hv; rcases Nat.lt_or_ge v 24 with h | h
 .exact JR (by decide) (by decide) Jny (by omega) (by omega) hv hI
 rcases Nat.lt_or_ge v 48 with h | h
 .exact JR (by decide) (by decide) Jkx (by omega) (by omega) hv hI
 rcases Nat.lt_or_ge v 72 with h | h
 .exact JR (by decide) (by decide) Jkw (by omega) (by omega) hv hI
 rcases Nat.lt_or_ge v 96 with h | h
 .exact JR (by decide) (by decide) Jkv (by omega) (by omega) hv hI
 rcases Nat.lt_or_ge v 120 with h | h
 .exact JR (by decide) (by decide) Jku (by omega) (by omega) hv hI
 rcases Nat.lt_or_ge v 144 with h | h
 .exact JR (by decide) (by decide) Jit (by omega) (by omega) hv hI
 rcases Nat.lt_or_ge v 168 with h | h
 .exact JR (by decide) (by decide) Jis (by omega) (by omega) hv hI
 rcases Nat.lt_or_ge v 192 with h | h
 .exact JR (by decide) (by decide) Jir (by omega) (by omega) hv hI
 rcases Nat.lt_or_ge v 216 with h | h
 .exact JR (by decide) (by decide) Jiq (by omega) (by omega) hv hI
 rcases Nat.lt_or_ge v 240 with h | h
 .exact JR (by decide) (by decide) Jip (by omega) (by omega) hv hI
 exact JR (by decide) (by decide) Jio (by omega) (by omega) hv hI
theorem gx_5_2 {v : Nat} (hv : v < 5 ^ 2) (hI : Irr 5 2 (dv 5 v)) : ∃ g, Gn (5 ^ 2) (JO 5 2 (dv 5 v)) g := by
 have hv2 : v < 25 := hv; exact JR (by decide) (by decide) Jnx (by omega) (by omega) hv hI
theorem gx_5_3 {v : Nat} (hv : v < 5 ^ 3) (hI : Irr 5 3 (dv 5 v)) : ∃ g, Gn (5 ^ 3) (JO 5 3 (dv 5 v)) g := by
 have hv2 : v < 125 := hv; rcases Nat.lt_or_ge v 64 with h | h
 .exact JR (by decide) (by decide) Jnw (by omega) (by omega) hv hI
 exact JR (by decide) (by decide) Jkt (by omega) (by omega) hv hI
theorem gx_7_2 {v : Nat} (hv : v < 7 ^ 2) (hI : Irr 7 2 (dv 7 v)) : ∃ g, Gn (7 ^ 2) (JO 7 2 (dv 7 v)) g := by
 have hv2 : v < 49 := hv; exact JR (by decide) (by decide) Jnv (by omega) (by omega) hv hI
theorem Js2 {v : Nat} (hv : v < 11 ^ 2) (hI : Irr 11 2 (dv 11 v)) : ∃ g, Gn (11 ^ 2) (JO 11 2 (dv 11 v)) g := by
 have hv2 : v < 121 := hv; rcases Nat.lt_or_ge v 64 with h | h
 .exact JR (by decide) (by decide) Jk5 (by omega) (by omega) hv hI
 exact JR (by decide) (by decide) Ji1 (by omega) (by omega) hv hI
theorem Js1 {v : Nat} (hv : v < 13 ^ 2) (hI : Irr 13 2 (dv 13 v)) : ∃ g, Gn (13 ^ 2) (JO 13 2 (dv 13 v)) g := by
 have hv2 : v < 169 := hv; rcases Nat.lt_or_ge v 64 with h | h
 .exact JR (by decide) (by decide) Jk4 (by omega) (by omega) hv hI
 rcases Nat.lt_or_ge v 128 with h | h
 .exact JR (by decide) (by decide) Ji0 (by omega) (by omega) hv hI
 exact JR (by decide) (by decide) Jg2 (by omega) (by omega) hv hI
noncomputable def prL : List Nat := [2, 3, 5, 7, 11, 13, 17, 19, 23, 29, 31, 37, 41, 43, 47, 53, 59, 61, 67, 71, 73, 79, 83, 89, 97, 101, 103, 107, 109, 113, 127, 131, 137, 139, 149, 151, 157, 163, 167, 173, 179, 181, 191, 193, 197, 199, 211, 223, 227, 229, 233, 239, 241, 251]
theorem Jsh : (List.range 257).all (fun p => prL.contains p || Nat.blt p 2 || (List.range p).any (fun e => Nat.ble 2 e && Nat.beq (p % e) 0)) = true := by decide +kernel
theorem Jsg {p : Nat} (hp : IsLf p p) (h : p <= 256) : p ∈ prL := by
 have h1 := List.all_eq_true.1 Jsh p (List.mem_range.2 (by omega)); simp only [Bool.or_eq_true, List.contains_iff_mem, List.any_eq_true, List.mem_range, Bool.and_eq_true] at h1; rcases h1 with (h1 | h1) | ⟨e, he, h2, h3⟩
 .exact h1
 .have := hp.two; have := Nat.le_of_ble_eq_true h1; omega
 .have := hp.min e (Nat.le_of_ble_eq_true h2) (Nat.eq_of_beq_eq_true h3); omega
theorem gx_1 {p : Nat} (hp : IsLf p p) (h : p <= 256) : ∃ g, Gn (p ^ 1) (JO p 1 (dv p 0)) g := by
 have hm := Jsg hp h; have hg : Jki p 1 [0] = true := by
  unfold prL at hm; rw [show ([2, 3, 5, 7, 11, 13, 17, 19, 23, 29, 31, 37, 41, 43, 47, 53, 59, 61, 67, 71, 73, 79, 83, 89, 97, 101, 103, 107, 109, 113, 127, 131, 137, 139, 149, 151, 157, 163, 167, 173, 179, 181, 191, 193, 197, 199, 211, 223, 227, 229, 233, 239, 241, 251] : List Nat) = ([2, 3, 5, 7, 11, 13, 17, 19, 23, 29, 31, 37, 41, 43, 47, 53, 59, 61] : List Nat) ++ ([67, 71, 73, 79, 83, 89, 97, 101, 103, 107, 109, 113, 127, 131, 137, 139, 149, 151] : List Nat) ++ ([157, 163, 167, 173, 179, 181, 191, 193, 197, 199, 211, 223, 227, 229, 233, 239, 241, 251] : List Nat) from rfl] at hm; simp only [List.mem_append] at hm; rcases hm with (h | h) | h
  .exact List.all_eq_true.1 chk1_0 p h
  .exact List.all_eq_true.1 chk1_1 p h
  .exact List.all_eq_true.1 chk1_2 p h
 refine Jmd hp.two (by decide) ⟨rfl, fun i hi => ?_⟩ hg; rw [show i = 0 by omega, Jed]; simp [vz]
theorem Jps {p m : Nat} (hp : IsLf p p) (hm : 2 <= m) (hq : p ^ m <= 256) : (p = 2 /\ m = 2) ∨ (p = 2 /\ m = 3) ∨ (p = 2 /\ m = 4) ∨ (p = 2 /\ m = 5) ∨ (p = 2 /\ m = 6) ∨ (p = 2 /\ m = 7) ∨ (p = 2 /\ m = 8) ∨ (p = 3 /\ m = 2) ∨ (p = 3 /\ m = 3) ∨ (p = 3 /\ m = 4) ∨ (p = 3 /\ m = 5) ∨ (p = 5 /\ m = 2) ∨ (p = 5 /\ m = 3) ∨ (p = 7 /\ m = 2) ∨ (p = 11 /\ m = 2) ∨ (p = 13 /\ m = 2) := by
  have h2 := hp.two
  have hpow : ∀ k, k <= m -> p ^ k <= 256 := fun k hk => Nat.le_trans (Nat.pow_le_pow_right (by omega) hk) hq
  have hp2 : p <= 16 := by
    rcases Nat.lt_or_ge 16 p with h | h
    . have h1 := hpow 2 hm
      have h3 : 17 ^ 2 <= p ^ 2 := Nat.pow_le_pow_left h 2
      omega
    . exact h
  have hnd : ∀ e, 2 <= e -> e < p -> p % e ≠ 0 := fun e he hlt h0 => by have := hp.min e he h0; omega
  have hc : p = 2 ∨ p = 3 ∨ p = 5 ∨ p = 7 ∨ p = 11 ∨ p = 13 := by
    have h3 := hnd 2 (by omega)
    have h4 := hnd 3 (by omega)
    omega
  rcases hc with rfl | rfl | rfl | rfl | rfl | rfl
  . have : m <= 8 := by
      rcases Nat.lt_or_ge 8 m with h | h
      . have := hpow 9 h; omega
      . exact h
    omega
  . have : m <= 5 := by
      rcases Nat.lt_or_ge 5 m with h | h
      . have := hpow 6 h; omega
      . exact h
    omega
  . have : m <= 3 := by
      rcases Nat.lt_or_ge 3 m with h | h
      . have := hpow 4 h; omega
      . exact h
    omega
  . have : m <= 2 := by
      rcases Nat.lt_or_ge 2 m with h | h
      . have := hpow 3 h; omega
      . exact h
    omega
  . have : m <= 2 := by
      rcases Nat.lt_or_ge 2 m with h | h
      . have := hpow 3 h; omega
      . exact h
    omega
  . have : m <= 2 := by
      rcases Nat.lt_or_ge 2 m with h | h
      . have := hpow 3 h; omega
      . exact h
    omega
theorem gen_ex {p m v : Nat} (hp : IsLf p p) (hm : 0 < m) (hq : p ^ m <= 256) (hv : v < p ^ m) (h1 : m = 1 -> v = 0) (hI : Irr p m (dv p v)) : ∃ g, Gn (p ^ m) (JO p m (dv p v)) g := by
  rcases Nat.lt_or_ge m 2 with h | h
  . have : m = 1 := by omega
    subst this
    rw [h1 rfl]
    exact gx_1 hp (by simpa using hq)
  . rcases Jps hp h hq with ⟨rfl, rfl⟩ | ⟨rfl, rfl⟩ | ⟨rfl, rfl⟩ | ⟨rfl, rfl⟩ | ⟨rfl, rfl⟩ | ⟨rfl, rfl⟩ | ⟨rfl, rfl⟩ | ⟨rfl, rfl⟩ | ⟨rfl, rfl⟩ | ⟨rfl, rfl⟩ | ⟨rfl, rfl⟩ | ⟨rfl, rfl⟩ | ⟨rfl, rfl⟩ | ⟨rfl, rfl⟩ | ⟨rfl, rfl⟩ | ⟨rfl, rfl⟩
    . exact gx_2_2 hv hI
    . exact gx_2_3 hv hI
    . exact gx_2_4 hv hI
    . exact gx_2_5 hv hI
    . exact gx_2_6 hv hI
    . exact gx_2_7 hv hI
    . exact gx_2_8 hv hI
    . exact gx_3_2 hv hI
    . exact gx_3_3 hv hI
    . exact gx_3_4 hv hI
    . exact gx_3_5 hv hI
    . exact gx_5_2 hv hI
    . exact gx_5_3 hv hI
    . exact gx_7_2 hv hI
    . exact Js2 hv hI
    . exact Js1 hv hI
end Go.Proofs.Ytppkigdakobebaa
namespace Go.Proofs.Ytppkigdakobebaa
def vo (l : LI) : Vec := fun i => l.getD i 0
theorem JG (l : LI) (i : Nat) : gi l (i : Int) = vo l i := rfl
theorem Qi (l : LI) (i : Nat) (x : Int) : si l (i : Int) x = l.set i x := rfl
theorem Jcd (a b : Nat) : (a : Int).tmod (b : Int) = ((a % b : Nat) : Int) := rfl
theorem Jpa (a b : Nat) : (a : Int).tdiv (b : Int) = ((a / b : Nat) : Int) := rfl
theorem Qa (l : LI) (i j : Nat) (x : Int) : vo (l.set i x) j = if i = j /\ i < l.length then x else vo l j := by
 unfold vo; rw [List.getD_eq_getElem?_getD, List.getD_eq_getElem?_getD, List.getElem?_set]; by_cases h : i = j
 .subst h; by_cases h2 : i < l.length
  .simp [h2]
  .simp [h2]
 .simp [h]
theorem Jdi (n : Nat) (i : Nat) : vo (List.replicate n (0 : Int)) i = 0 := by
 unfold vo; rw [List.getD_eq_getElem?_getD, List.getElem?_replicate]; split <;> rfl
theorem Jhh {l : LI} {i : Nat} (h : l.length <= i) : vo l i = 0 := by
 unfold vo; rw [List.getD_eq_getElem?_getD, List.getElem?_eq_none h]; rfl
theorem QY {l o : LI} (h : l.length = o.length) (hv : ∀ i, i < l.length -> vo l i = vo o i) : l = o := by
 refine List.ext_getElem h fun i h1 h2 => ?_; have := hv i h1; unfold vo at this; rw [List.getD_eq_getElem?_getD, List.getD_eq_getElem?_getD, List.getElem?_eq_getElem h1, List.getElem?_eq_getElem h2] at this; exact this
theorem Jw {x : Int} (h : -1000000000000 <= x) (h2 : x <= 1000000000000) : I64 x := ⟨by omega, by omega⟩
theorem YP {n : Nat} (h : n <= 1000000000000) : I64 (n : Int) := Jw (by omega) (by omega)
def dgi (p n x : Nat) : LI := (dgl p n x).map fun (a : Nat) => (a : Int)
theorem JZ (p n x : Nat) : (dgi p n x).length = n := by simp [dgi, QA]
theorem QM {p n x i : Nat} (h : i < n) : vo (dgi p n x) i = dv p x i := by
 rw [<- Jb1 p n x i h]; unfold vo dgi; rw [List.getD_eq_getElem?_getD, List.getElem?_map, List.getD_eq_getElem?_getD]; rw [List.getElem?_eq_getElem (by rw [QA]; exact h)]; rfl
theorem Jo8 {b : Bool} {Q : Int -> Prop} (h : Q (if b = true then 0 else 1)) : Jen b Q := by
 cases b
 .exact ⟨fun h' => absurd h' (by decide), fun _ => h⟩
 .exact ⟨fun _ => h, fun h' => absurd h' (by decide)⟩
theorem Jsx {n k : Nat} (hn : 2 <= n) (hk : n < k * k) (h : ∀ e, e < k -> 2 <= e -> n % e ≠ 0) : IsLf n n := by
 refine ⟨hn, Nat.mod_self n, fun e he hm => ?_⟩; rcases Nat.lt_or_ge e k with hc | hc
 .exact absurd hm (h e hc he)
 .obtain ⟨t, ht⟩ := Nat.dvd_of_mod_eq_zero hm; have hq1 : t < k := by
   rcases Nat.lt_or_ge t k with h1 | h1
   .exact h1
   .have := Nat.mul_le_mul hc h1; omega
  rcases Nat.lt_or_ge t 2 with h2 | h2
  .have : t = 0 ∨ t = 1 := by omega
   rcases this with rfl | rfl
   .omega
   .omega
  .exact absurd (Nat.mod_eq_zero_of_dvd ⟨e, by rw [ht, Nat.mul_comm]⟩) (h t hq1 h2)
theorem Jdl {x : Nat} {Q : Int -> Prop} (h2 : 2 <= x) (hx : x <= 256) (h : ∀ d : Nat, IsLf x d -> Q d) : QU x Q := by
 refine ⟨fun z => ∃ k : Nat, z = k /\ 2 <= k /\ k <= 17 /\ ∀ e, e < k -> 2 <= e -> x % e ≠ 0, fun z => (20 - z).toNat, ⟨2, rfl, by omega, by omega, fun e _ _ => by omega⟩, ?_⟩; rintro _ ⟨k, rfl, hk2, hk, hm⟩; dsimp only; have e1 : ((k : Nat) : Int) * (k : Int) = ((k * k : Nat) : Int) := by push_cast; rfl
 have hb : k * k <= 17 * 17 := Nat.mul_le_mul hk hk; rw [e1]; refine ⟨Jw (by omega) (by omega), fun hle => ⟨by omega, ?_, ?_⟩, fun hgt => ?_⟩
 .intro h0; rw [Jcd] at h0; refine h k ⟨hk2, by omega, fun e he h3 => ?_⟩; rcases Nat.lt_or_ge e k with hc | hc
  .exact absurd h3 (hm e hc he)
  .exact hc
 .intro h0; rw [Jcd] at h0; have hk16 : k <= 16 := by
   rcases Nat.lt_or_ge 16 k with hc | hc
   .have := Nat.mul_le_mul hc hc; omega
   .exact hc
  refine ⟨Jw (by omega) (by omega), ⟨k + 1, by push_cast; rfl, by omega, by omega, fun e he h3 => ?_⟩, by omega⟩; rcases Nat.lt_or_ge e k with hc | hc
  .exact hm e hc h3
  .rw [show e = k by omega]; omega
 .exact h x (Jsx h2 (by omega) hm)
theorem IsLf.uniq {n d e : Nat} (h : IsLf n d) (h' : IsLf n e) : d = e := Nat.le_antisymm (h.min e h'.two h'.dvd) (h'.min d h.two h.dvd)
theorem Jm5 {x : Int} {Q : Bool -> Prop} (hx : x <= 256) (h : ∀ b : Bool, (b = true ↔ 2 <= x /\ IsLf x.toNat x.toNat) -> Q b) : ZW x Q := by
 refine ⟨fun h2 => ?_, fun h2 => h false ⟨fun h' => by (cases h'), fun h' => absurd h'.1 h2⟩⟩; obtain ⟨n, rfl⟩ := Int.eq_ofNat_of_zero_le (show 0 <= x by omega); refine Jdl (by omega) (by omega) fun d hd => h _ ?_; rw [decide_eq_true_iff, Int.toNat_natCast]; constructor
 .intro he; have : d = n := by omega
  subst this; exact ⟨h2, hd⟩
 .rintro ⟨_, hn⟩; rw [hd.uniq hn]
theorem Jo3 {x : Nat} {Q : Bool -> Prop} (h2 : 2 <= x) (hx : x <= 256) (h : ∀ b : Bool, (b = true ↔ IsLf x x) -> Q b) : Jba x Q := by
 refine ⟨fun z => ∃ k : Nat, z = k /\ 2 <= k /\ k <= x /\ ∀ e, e < k -> 2 <= e -> x % e ≠ 0, fun z => (x - z).toNat, ⟨2, rfl, by omega, by omega, fun e _ _ => by omega⟩, ?_⟩; rintro _ ⟨k, rfl, hk2, hk, hm⟩; dsimp only; refine ⟨fun hlt => ⟨by omega, fun h0 => ?_, fun h0 => ?_⟩, fun hge => ?_⟩
 .rw [Jcd] at h0; refine h false ⟨fun h' => by (cases h'), fun hp => ?_⟩; have := hp.min k hk2 (by omega); omega
 .rw [Jcd] at h0; refine ⟨Jw (by omega) (by omega), ⟨k + 1, by push_cast; rfl, by omega, by omega, fun e he h3 => ?_⟩, by omega⟩; rcases Nat.lt_or_ge e k with hc | hc
  .exact hm e hc h3
  .rw [show e = k by omega]; omega
 .refine h true ⟨fun _ => ⟨h2, Nat.mod_self x, fun e he h0 => ?_⟩, fun _ => rfl⟩; rcases Nat.lt_or_ge e x with hc | hc
  .exact absurd h0 (hm e (by omega) he)
  .exact hc
theorem Qj {p a b : Nat} (hp : 0 < p) (h : a <= b) : p ^ a <= p ^ b := Nat.pow_le_pow_right hp h
theorem Jfy {p : Nat} {M : Int} {mf : LI} {Q : Int -> Prop} (hp : 2 <= p) (hp2 : p <= 256) (h : ∀ r : Int, (p ^ M.toNat <= 256 -> r = ((p ^ M.toNat : Nat) : Int)) -> (256 < p ^ M.toNat -> 256 < r) -> Q r) : Zg p M mf Q := by
 refine ⟨fun r => (p ^ M.toNat <= 256 -> r = ((p ^ M.toNat : Nat) : Int)) /\ (256 < p ^ M.toNat -> 256 < r), ⟨fun z i => ∃ k : Nat, i = k /\ k <= M.toNat /\ z = ((p ^ k : Nat) : Int) /\ p ^ k <= 65536 /\ k <= 16, fun z i => (20 - i).toNat, ⟨0, rfl, Nat.zero_le _, by simp, by simp, by omega⟩, ?_⟩, fun r hr => h r hr.1 hr.2⟩; rintro _ _ ⟨k, rfl, hk, rfl, hb, hk16⟩; dsimp only; refine ⟨fun hlt => ⟨fun hle => ?_, fun hgt => ?_⟩, fun hge => ?_⟩
 .have hk8 : p ^ k <= 256 := by omega
  have hkk : k < 16 := by
   rcases Nat.lt_or_ge k 16 with hc | hc
   .exact hc
   .have h1 := Qj (p := p) (by omega) hc; have h2 : 2 ^ 16 <= p ^ 16 := Nat.pow_le_pow_left hp 16; omega
  have e1 : ((p ^ k : Nat) : Int) * (p : Int) = ((p ^ (k + 1) : Nat) : Int) := by rw [Nat.pow_succ]; push_cast; rfl
  have hb2 : p ^ (k + 1) <= 65536 := by
   rw [Nat.pow_succ]; have := Nat.mul_le_mul hk8 hp2; omega
  rw [e1]; exact ⟨Jw (by omega) (by omega), Jw (by omega) (by omega), ⟨k + 1, by push_cast; rfl, by omega, rfl, hb2, by omega⟩, by omega⟩
 .have := Qj (p := p) (by omega) hk; exact ⟨fun h' => by omega, fun _ => by omega⟩
 .have : k = M.toNat := by omega
  subst this; exact ⟨fun _ => rfl, fun h' => by omega⟩
def Q1 (P M : Int) : Int := if 2 <= P /\ 1 <= M /\ P.toNat ^ M.toNat <= 256 then ((P.toNat ^ M.toNat : Nat) : Int) else 0
theorem Yp {P M : Int} {mf : LI} {Q : Int -> Prop} (h : Q (Q1 P M)) : YB P M mf Q := by
 refine ⟨fun h1 => ?_, fun h1 => ⟨fun h2 => ?_, fun h2 => ⟨fun h3 => ?_, fun h3 => ?_⟩⟩⟩
 .rw [Q1, if_neg (by omega)] at h; exact h
 .rw [Q1, if_neg (by omega)] at h; exact h
 .rw [Q1, if_neg] at h
  .exact h
  .rintro ⟨h4, h5, h6⟩; have e1 : 2 ^ 9 <= P.toNat ^ 9 := Nat.pow_le_pow_left (by omega) 9; have e2 := Qj (p := P.toNat) (by omega) (show 9 <= M.toNat by omega); omega
 .obtain ⟨p, rfl⟩ := Int.eq_ofNat_of_zero_le (show 0 <= P by omega); obtain ⟨m, rfl⟩ := Int.eq_ofNat_of_zero_le (show 0 <= M by omega); refine ⟨fun z i => ∃ k : Nat, i = k /\ k <= m /\ z = ((p ^ k : Nat) : Int) /\ p ^ k <= 256, fun z i => (20 - i).toNat, ⟨0, rfl, Nat.zero_le _, by simp, by simp⟩, ?_⟩; rintro _ _ ⟨k, rfl, hk, rfl, hb⟩; dsimp only; rw [show (256 : Int) = ((256 : Nat) : Int) from rfl, Jpa]; have hd : 256 / p <= 256 := Nat.div_le_self _ _; have hdm : ∀ a, a <= 256 / p ↔ a * p <= 256 := fun a => Nat.le_div_iff_mul_le (show 0 < p by omega); generalize 256 / p = D at *
  refine ⟨fun hlt => ⟨⟨by omega, Jw (by omega) (by omega)⟩, fun hgt => ?_, fun hle => ?_⟩, fun hge => ?_⟩
  .rw [Q1, if_neg] at h
   .exact h
   .rintro ⟨_, _, h6⟩; simp only [Int.toNat_natCast] at h6; have h7 : p ^ (k + 1) <= 256 := Nat.le_trans (Qj (by omega) (by omega)) h6; rw [Nat.pow_succ] at h7; have := (hdm _).2 h7; omega
  .have h7 : p ^ (k + 1) <= 256 := by rw [Nat.pow_succ]; exact (hdm _).1 (by omega)
   have e1 : ((p ^ k : Nat) : Int) * (p : Int) = ((p ^ (k + 1) : Nat) : Int) := by rw [Nat.pow_succ]; push_cast; rfl
   rw [e1]; exact ⟨Jw (by omega) (by omega), Jw (by omega) (by omega), ⟨k + 1, by push_cast; rfl, by omega, rfl, h7⟩, by omega⟩
  .have : k = m := by omega
   subst this; rw [Q1, if_pos ⟨by omega, by omega, by simpa using hb⟩] at h
   simpa using h
theorem Ja2 (x p i : Nat) : x / p ^ i / p = x / p ^ (i + 1) := by rw [Nat.div_div_eq_div_mul, Nat.pow_succ]
theorem Jdn {p n x : Nat} {Q : LI -> Prop} (hp : 0 < p) (hn : n <= 1000) (hx : x <= 1000) (h : Q (dgi p n x)) : Y3 p n x Q := by
 refine ⟨⟨by omega, by omega, by omega⟩, fun l z i => ∃ k : Nat, i = k /\ k <= n /\ z = ((x / p ^ k : Nat) : Int) /\ l.length = n /\ ∀ j, j < k -> vo l j = dv p x j, fun l z i => (n - i).toNat, ⟨0, rfl, Nat.zero_le _, by simp, by simp, fun j hj => by omega⟩, ?_⟩; rintro l _ _ ⟨k, rfl, hk, rfl, hl, hv⟩; dsimp only; have hd : x / p ^ k <= x := Nat.div_le_self _ _; have hd2 : x / p ^ k / p <= x / p ^ k := Nat.div_le_self _ _; rw [Jpa, Jcd, Qi]; simp only [Int.toNat_natCast]; refine ⟨fun hlt => ⟨by omega, ⟨by omega, by omega⟩, ⟨by omega, YP (by omega)⟩, Jw (by omega) (by omega), ⟨k + 1, by push_cast; rfl, by omega, by rw [Ja2], by rw [List.length_set, hl], fun j hj => ?_⟩, by omega⟩, fun hge => ?_⟩
 .rw [Qa]; by_cases hjk : k = j
  .subst hjk; rw [if_pos ⟨rfl, by omega⟩]; rfl
  .rw [if_neg (by omega)]; exact hv j (by omega)
 .have : l = dgi p n x := QY (by rw [hl, JZ]) fun j hj => by rw [hv j (by omega), QM (by omega)]
  rw [this]; exact h
theorem Je7 {p n x : Nat} {Q : LI -> Prop} (hp : 0 < p) (hn : n <= 1000) (hx : x <= 1000) (h : Q (dgi p n x)) : YY x p n Q := by
 refine ⟨⟨by omega, by omega, by omega⟩, fun l z i => ∃ k : Nat, i = k /\ k <= n /\ z = ((x / p ^ k : Nat) : Int) /\ l.length = n /\ ∀ j, j < k -> vo l j = dv p x j, fun l z i => (n - i).toNat, ⟨0, rfl, Nat.zero_le _, by simp, by simp, fun j hj => by omega⟩, ?_⟩; rintro l _ _ ⟨k, rfl, hk, rfl, hl, hv⟩; dsimp only; have hd : x / p ^ k <= x := Nat.div_le_self _ _; have hd2 : x / p ^ k / p <= x / p ^ k := Nat.div_le_self _ _; rw [Jpa, Jcd, Qi]; simp only [Int.toNat_natCast]; refine ⟨fun hlt => ⟨by omega, ⟨by omega, by omega⟩, ⟨by omega, YP (by omega)⟩, Jw (by omega) (by omega), ⟨k + 1, by push_cast; rfl, by omega, by rw [Ja2], by rw [List.length_set, hl], fun j hj => ?_⟩, by omega⟩, fun hge => ?_⟩
 .rw [Qa]; by_cases hjk : k = j
  .subst hjk; rw [if_pos ⟨rfl, by omega⟩]; rfl
  .rw [if_neg (by omega)]; exact hv j (by omega)
 .have : l = dgi p n x := QY (by rw [hl, JZ]) fun j hj => by rw [hv j (by omega), QM (by omega)]
  rw [this]; exact h
theorem Jhi {p m x : Nat} {mf : LI} {Q : Int -> Prop} (hp : 2 <= p) (hp2 : p <= 256) (hx : x <= 256) (h : Q ((if x % p = p - 1 then x - x % p else x + 1 : Nat) : Int)) : YM p m mf x Q := by
 have hm := Nat.mod_lt x (show 0 < p by omega); have hm2 := Nat.mod_le x p; refine ⟨by omega, Jw (by omega) (by omega), fun h0 => ⟨by omega, ?_⟩, fun h0 => ?_⟩
 .rw [Jcd] at h0 ⊢; rw [if_pos (by omega)] at h; refine ⟨Jw (by omega) (by omega), ?_⟩; rw [show (x : Int) - ((x % p : Nat) : Int) = ((x - x % p : Nat) : Int) by omega]; exact h
 .rw [Jcd] at h0; rw [if_neg (by omega)] at h; exact ⟨Jw (by omega) (by omega), by push_cast at h ⊢; exact h⟩
theorem Y8 {l : LI} {Q : LI -> Prop} (hl : l.length <= 1000000) (h : Q l) : Yk l Q := by
 intro b hb; refine ⟨fun h1 => by rw [<- hb h1]; exact h, fun _ => ⟨by omega, by simpa using h⟩⟩
end Go.Proofs.Ytppkigdakobebaa
