/- Contracts of functions of the program, and what they lean on: D6, D7, D9, D11, Dt, Fa, Fb, Fg, Fp. -/
import Derived.Test.YtgcdbnpenhclfaaDlogOrdersG3
set_option linter.unusedSimpArgs false
set_option linter.unusedVariables false
set_option maxRecDepth 4000
set_option maxHeartbeats 4000000
namespace Go.Proofs.Ytgcdbnpenhclfaa
open Go.RowKit
def Qt (l : LI) (o : LI) (p : Int) (Q : Bool -> Prop) : Prop :=
  (((0 : Nat) + (o.length : Nat) : Int) * 8 <= 140737488355328) /\ (((((([] : LI) ++ o).length : Nat) + (1 : Nat) : Int) * 8 <= 140737488355328) /\ ((I64 (((((([] : LI) ++ o) ++ ([(1 : Int)] : LI)).length : Nat) : Int) - (1 : Int))) /\ (∃ (I32 : LI -> Int -> Prop) (μ33 : LI -> Int -> Nat), I32 ((([] : LI) ++ o) ++ ([(1 : Int)] : LI)) (((((([] : LI) ++ o) ++ ([(1 : Int)] : LI)).length : Nat) : Int) - (1 : Int)) /\ ∀ (x30 : LI) (z31 : Int), (I32 x30 z31 -> ((((l.length : Int) <= z31) -> ((0 <= z31 /\ z31 < (((([] : LI) ++ o) ++ ([(1 : Int)] : LI)).length : Nat)) /\ (∃ (I43 : LI -> Int -> Prop) (μ44 : LI -> Int -> Nat), I43 x30 (0 : Int) /\ ∀ (x41 : LI) (z42 : Int), (I43 x41 z42 -> (((z42 < (l.length : Int)) -> ((I64 (z31 - (l.length : Int))) /\ ((I64 ((z31 - (l.length : Int)) + z42)) /\ ((I64 (z31 - (l.length : Int))) /\ ((I64 ((z31 - (l.length : Int)) + z42)) /\ ((0 <= ((z31 - (l.length : Int)) + z42) /\ ((z31 - (l.length : Int)) + z42) < (((([] : LI) ++ o) ++ ([(1 : Int)] : LI)).length : Nat)) /\ ((I64 (p - (gi x30 z31))) /\ ((0 <= z42 /\ z42 < (l.length : Nat)) /\ ((I64 ((p - (gi x30 z31)) * (gi l z42))) /\ ((I64 ((gi x41 ((z31 - (l.length : Int)) + z42)) + ((p - (gi x30 z31)) * (gi l z42)))) /\ ((p ≠ 0) /\ ((0 <= ((z31 - (l.length : Int)) + z42) /\ ((z31 - (l.length : Int)) + z42) < (((([] : LI) ++ o) ++ ([(1 : Int)] : LI)).length : Nat)) /\ ((I64 (z42 + 1)) /\ (I43 (si x41 ((z31 - (l.length : Int)) + z42) (((gi x41 ((z31 - (l.length : Int)) + z42)) + ((p - (gi x30 z31)) * (gi l z42))).tmod p)) (z42 + 1) /\ μ44 (si x41 ((z31 - (l.length : Int)) + z42) (((gi x41 ((z31 - (l.length : Int)) + z42)) + ((p - (gi x30 z31)) * (gi l z42))).tmod p)) (z42 + 1) < μ44 x41 z42)))))))))))))) /\ (¬ (z42 < (l.length : Int)) -> ((0 <= z31 /\ z31 < (((([] : LI) ++ o) ++ ([(1 : Int)] : LI)).length : Nat)) /\ ((I64 (z31 - 1)) /\ (I32 (si x41 z31 0) (z31 - 1) /\ μ33 (si x41 z31 0) (z31 - 1) < μ33 x30 z31))))))))) /\ (¬ ((l.length : Int) <= z31) -> (∃ (I93 : Int -> Prop) (μ94 : Int -> Nat), I93 0 /\ ∀ (z92 : Int), (I93 z92 -> (((z92 < ((((([] : LI) ++ o) ++ ([(1 : Int)] : LI)).length : Nat) : Int)) -> ((0 <= z92 /\ z92 < (((([] : LI) ++ o) ++ ([(1 : Int)] : LI)).length : Nat)) /\ ((((gi x30 z92) ≠ (0 : Int)) -> Q false) /\ (¬ ((gi x30 z92) ≠ (0 : Int)) -> ((I64 (z92 + 1)) /\ (I93 (z92 + 1) /\ μ94 (z92 + 1) < μ94 z92)))))) /\ (¬ (z92 < ((((([] : LI) ++ o) ++ ([(1 : Int)] : LI)).length : Nat) : Int)) -> Q true))))))))))
theorem Jch {w : World} {Q : Bool -> Prop} {l : LI} {o : LI} {p : Int} {Bl : Nat} {Al : Option Addr} {nl kl : Nat} (hl : Rd Bl w 1 Al nl kl (is l)) {Bo : Nat} {Ao : Option Addr} {no ko : Nat} (ho : Rd Bo w 1 Ao no ko (is o)) (hv : Qt l o p Q) :
   Calls Try.prog 44 #[.slice Al nl kl, .slice Ao no ko, .int .i64 p] w <| Rt w fun v Qr => ∃ (r0 : Bool), v = .bool r0 /\ Qr = [] /\ Q r0 := by
 have hnl := hl.ilen; subst hnl; have hno := ho.ilen; subst hno; refine Jh <| Jg (vs := [nS Al l kl, nS Ao o ko, nI p]) [6] XF44 rfl rfl rfl rfl ?_; have hS := Jk w; unfold Qt at hv; refine Jb 7 <| WL.len Jn rfl rfl <| Jd 2 <| Jb 2 <| Qy (vs := is ([] : LI)) hS Jn XE3 rfl rfl rfl rfl (JX _) rfl ?_; intro A11 w12 hS; refine Jp rfl rfl ?_; obtain ⟨o14, hv⟩ := hv; refine SL.append (cs := is ([] : LI)) (cs' := is o) 0 ((([] : LI) ++ o).length) (is (([] : LI) ++ o)) hS rfl Jn XE3 (hS.ro ho) (JX _) rfl rfl (apk o14).1 (apk o14).2 (Zn (hS.rd (i := 0) rfl) (hS.ro ho)) (JU _ _) rfl ?_; intro A15 k16 w17 hS; refine Jd 2 <| Jb 3 <| Qy (vs := is ([(1 : Int)] : LI)) hS Jn XE3 rfl rfl rfl rfl (JX _) rfl ?_; intro A18 w19 hS; obtain ⟨o21, hv⟩ := hv; refine SL.append (cs := is (([] : LI) ++ o)) (cs' := is ([(1 : Int)] : LI)) 1 (((([] : LI) ++ o) ++ ([(1 : Int)] : LI)).length) (is ((([] : LI) ++ o) ++ ([(1 : Int)] : LI))) hS rfl Jn XE3 (hS.rd (i := 0) rfl) (JX _) rfl rfl (apk o21).1 (apk o21).2 (Zn (hS.rd (i := 1) rfl) (hS.rd (i := 0) rfl)) (JU _ _) rfl ?_; intro A22 k23 w24 hS; refine Jd 2 <| Jb 4 <| WL.len Jn rfl rfl ?_; obtain ⟨o25, hv⟩ := hv; refine WL.sub (r := (((((([] : LI) ++ o) ++ ([(1 : Int)] : LI)).length : Nat) : Int) - (1 : Int))) rfl rfl (wr o25) rfl <| Jd 2 <| W.block ?_; obtain ⟨I32, μ33, hv, hk101⟩ := hv; refine Jt (σ := LI × Int) (fun q w1 => match q with | (x30, z31) => I32 x30 z31 /\ St TT w none w1 [.row 3 1 A18 1 1 (is ([(1 : Int)] : LI)), .row 3 1 A22 (((([] : LI) ++ o) ++ ([(1 : Int)] : LI)).length) k23 (is x30)]) (fun (x30, z31) => [(0, nS Al l kl), (2, nI p), (6, .bool false), (7, nI (l.length : Int)), (8, .slice A22 (((([] : LI) ++ o) ++ ([(1 : Int)] : LI)).length) k23), (9, nI z31)]) (fun (x30, z31) => μ33 x30 z31) ((([] : LI) ++ o) ++ ([(1 : Int)] : LI), (((((([] : LI) ++ o) ++ ([(1 : Int)] : LI)).length : Nat) : Int) - (1 : Int))) ⟨hv, hS⟩ ⟨rfl, rfl, rfl, rfl, rfl, rfl, trivial⟩ ?_; rintro ⟨x30, z31⟩ w34 ⟨hv, hS⟩; have hv := hk101 x30 z31 hv; refine Jb 7 <| Je rfl (fun c35 => ?_) (fun c35 => ?_)
 .have hv := hv.1 (oT c35); refine Ji <| Jr <| W.block <| Jb 4 ?_; obtain ⟨o36, hv⟩ := hv; refine Jj Jn XE3 (hS.rd (i := 1) rfl) rfl rfl o36 rfl <| Jo XU3 rfl rfl (JF (hS.rd (i := 1) rfl) o36) rfl <| Jd 2 <| Jb 5 <| W.block ?_; obtain ⟨I43, μ44, hv, hk89⟩ := hv; refine Jt (σ := LI × Int) (fun q w1 => match q with | (x41, z42) => I43 x41 z42 /\ St TT w none w1 [.row 3 1 A18 1 1 (is ([(1 : Int)] : LI)), .row 3 1 A22 (((([] : LI) ++ o) ++ ([(1 : Int)] : LI)).length) k23 (is x41)]) (fun (x41, z42) => [(0, nS Al l kl), (2, nI p), (6, .bool false), (7, nI (l.length : Int)), (8, .slice A22 (((([] : LI) ++ o) ++ ([(1 : Int)] : LI)).length) k23), (9, nI z31), (10, nI (gi x30 z31)), (11, nI z42), (26, .bool (decide ((l.length : Int) <= z31)))]) (fun (x41, z42) => μ44 x41 z42) (x30, (0 : Int)) ⟨hv, hS⟩ ⟨rfl, rfl, rfl, rfl, rfl, rfl, rfl, rfl, rfl, trivial⟩ ?_; rintro ⟨x41, z42⟩ w45 ⟨hv, hS⟩; have hv := hk89 x41 z42 hv; refine Jb 7 <| Je rfl (fun c46 => ?_) (fun c46 => ?_)
  .have hv := hv.1 (oT c46); refine Ji <| Jr <| W.block ?_; obtain ⟨o51, hv⟩ := hv; obtain ⟨o54, hv⟩ := hv; obtain ⟨o59, hv⟩ := hv; obtain ⟨o62, hv⟩ := hv; obtain ⟨o64, hv⟩ := hv; obtain ⟨o69, hv⟩ := hv; obtain ⟨o73, hv⟩ := hv; obtain ⟨o76, hv⟩ := hv; obtain ⟨o78, hv⟩ := hv; obtain ⟨o81, hv⟩ := hv; refine JH 25 [⟨[], [8], true⟩, ⟨[], [9], true⟩, ⟨[], [7], true⟩, ⟨[1, 2], [], true⟩, ⟨[], [11], true⟩, ⟨[3, 4], [], true⟩, ⟨[], [8], true⟩, ⟨[], [9], true⟩, ⟨[], [7], true⟩, ⟨[7, 8], [], true⟩, ⟨[], [11], true⟩, ⟨[9, 10], [], true⟩, ⟨[6, 11], [], true⟩, ⟨[12], [], false⟩, ⟨[], [2], true⟩, ⟨[], [10], true⟩, ⟨[14, 15], [], true⟩, ⟨[], [0], true⟩, ⟨[], [11], true⟩, ⟨[17, 18], [], true⟩, ⟨[19], [], false⟩, ⟨[16, 20], [], true⟩, ⟨[13, 21], [], true⟩, ⟨[], [2], true⟩, ⟨[22, 23], [], true⟩] [(38, .slice A22 (((([] : LI) ++ o) ++ ([(1 : Int)] : LI)).length) k23), (39, nI z31), (40, nI (l.length : Int)), (41, nI (z31 - (l.length : Int))), (42, nI z42), (43, nI ((z31 - (l.length : Int)) + z42)), (44, .slice A22 (((([] : LI) ++ o) ++ ([(1 : Int)] : LI)).length) k23), (45, nI z31), (46, nI (l.length : Int)), (47, nI (z31 - (l.length : Int))), (48, nI z42), (49, nI ((z31 - (l.length : Int)) + z42)), (50, .pointer (some ((JL A22).add (((z31 - (l.length : Int)) + z42).toNat)))), (51, nI (gi x41 ((z31 - (l.length : Int)) + z42))), (52, nI p), (53, nI (gi x30 z31)), (54, nI (p - (gi x30 z31))), (55, nS Al l kl), (56, nI z42), (57, .pointer (some ((JL Al).add z42.toNat))), (58, nI (gi l z42)), (59, nI ((p - (gi x30 z31)) * (gi l z42))), (60, nI ((gi x41 ((z31 - (l.length : Int)) + z42)) + ((p - (gi x30 z31)) * (gi l z42)))), (61, nI p), (62, nI (((gi x41 ((z31 - (l.length : Int)) + z42)) + ((p - (gi x30 z31)) * (gi l z42))).tmod p))] Try.mixed (by kernel_rfl) rfl rfl ?_ ?_
   .refine ⟨oD, oD, oD, fun _ _ _ => WL.sub (r := (z31 - (l.length : Int))) rfl rfl (wr o51) rfl <| Ja ⟨rfl, rfl⟩, oD, fun _ _ _ => WL.add (r := ((z31 - (l.length : Int)) + z42)) rfl rfl (wr o54) rfl <| Ja ⟨rfl, rfl⟩, oD, oD, oD, fun _ _ _ => WL.sub (r := (z31 - (l.length : Int))) rfl rfl (wr o59) rfl <| Ja ⟨rfl, rfl⟩, oD, fun _ _ _ => WL.add (r := ((z31 - (l.length : Int)) + z42)) rfl rfl (wr o62) rfl <| Ja ⟨rfl, rfl⟩, fun _ _ _ => Jj Jn XE3 (hS.rd (i := 1) rfl) rfl rfl o64 rfl <| Ja ⟨rfl, rfl⟩, og hS fun _ _ hS => Jo XU3 rfl rfl (JF (hS.rd (i := 1) rfl) o64) rfl <| Ja ⟨rfl, Jf _⟩, oD, oD, fun _ _ _ => WL.sub (r := (p - (gi x30 z31))) rfl rfl (wr o69) rfl <| Ja ⟨rfl, rfl⟩, oD, oD, fun _ _ _ => Jj Jn XE3 (hS.ro hl) rfl rfl o73 rfl <| Ja ⟨rfl, rfl⟩, og hS fun _ _ hS => Jo XU3 rfl rfl (JF (hS.ro hl) o73) rfl <| Ja ⟨rfl, Jf _⟩, fun _ _ _ => WL.mul (r := ((p - (gi x30 z31)) * (gi l z42))) rfl rfl (wr o76) rfl <| Ja ⟨rfl, rfl⟩, fun _ _ _ => WL.add (r := ((gi x41 ((z31 - (l.length : Int)) + z42)) + ((p - (gi x30 z31)) * (gi l z42)))) rfl rfl (wr o78) rfl <| Ja ⟨rfl, rfl⟩, oD, fun _ _ _ => JR (r := (((gi x41 ((z31 - (l.length : Int)) + z42)) + ((p - (gi x30 z31)) * (gi l z42))).tmod p)) rfl rfl o81 rfl rfl <| Ja ⟨rfl, rfl⟩, trivial⟩
   intro w82 hT; have hS := hS.grow hT; refine JM 25 rfl ?_; obtain ⟨o83, hv⟩ := hv; refine Jj Jn XE3 (hS.rd (i := 1) rfl) rfl rfl o83 rfl <| Ja <| JM 26 rfl <| Jy (cs' := is (si x41 ((z31 - (l.length : Int)) + z42) (((gi x41 ((z31 - (l.length : Int)) + z42)) + ((p - (gi x30 z31)) * (gi l z42))).tmod p))) 1 ((z31 - (l.length : Int)) + z42).toNat hS rfl XE3 rfl rfl rfl (Qv (hS.rd (i := 1) rfl) o83) (J7 _ _ _) ?_; intro w84 hS; refine Ja <| Qf <| Jb 2 ?_; obtain ⟨o85, hv⟩ := hv; refine WL.add (r := (z42 + 1)) rfl rfl (wr o85) rfl <| Jd 2 ?_; exact ⟨(si x41 ((z31 - (l.length : Int)) + z42) (((gi x41 ((z31 - (l.length : Int)) + z42)) + ((p - (gi x30 z31)) * (gi l z42))).tmod p), (z42 + 1)), sp rfl, hv.2, rfl, hv.1, hS⟩
  have hv := hv.2 (oF c46); refine Jq <| Jb 3 ?_; obtain ⟨o86, hv⟩ := hv; refine Jj Jn XE3 (hS.rd (i := 1) rfl) rfl rfl o86 rfl <| Jy (cs' := is (si x41 z31 0)) 1 z31.toNat hS rfl XE3 rfl rfl rfl (Qv (hS.rd (i := 1) rfl) o86) (J7 _ _ _) ?_; intro w87 hS; refine Ja <| Jb 2 ?_; obtain ⟨o88, hv⟩ := hv; refine WL.sub (r := (z31 - 1)) rfl rfl (wr o88) rfl <| Jd 2 ?_; exact ⟨(si x41 z31 0, (z31 - 1)), sp rfl, hv.2, rfl, hv.1, hS⟩
 have hv := hv.2 (oF c35); refine Jq <| Jb 5 <| W.block ?_; obtain ⟨I93, μ94, hv, hk100⟩ := hv; refine Jt (σ := Int) (fun z92 w1 => I93 z92 /\ St TT w none w1 [.row 3 1 A18 1 1 (is ([(1 : Int)] : LI)), .row 3 1 A22 (((([] : LI) ++ o) ++ ([(1 : Int)] : LI)).length) k23 (is x30)]) (fun z92 => [(6, .bool false), (8, .slice A22 (((([] : LI) ++ o) ++ ([(1 : Int)] : LI)).length) k23), (12, nI z92)]) (fun z92 => μ94 z92) (0 : Int) ⟨hv, hS⟩ ⟨rfl, rfl, rfl, trivial⟩ ?_; rintro z92 w95 ⟨hv, hS⟩; have hv := hk100 z92 hv; refine Jb 5 <| WL.len Jn rfl rfl <| Jd 2 <| Je rfl (fun c96 => ?_) (fun c96 => ?_)
 .have hv := hv.1 (oT c96); refine Ji <| Jr <| W.block <| Jb 4 ?_; obtain ⟨o97, hv⟩ := hv; refine Jj Jn XE3 (hS.rd (i := 1) rfl) rfl rfl o97 rfl <| Jo XU3 rfl rfl (JF (hS.rd (i := 1) rfl) o97) rfl <| Jd 2 <| Je rfl (fun c98 => ?_) (fun c98 => ?_)
  .have hv := hv.1 (oT c98); refine Jb 4 <| W.ret <| ⟨_, rfl, Fin.nil ?_⟩
   exact (hS.pick [] rfl).fin rfl ⟨false, rfl, rfl, hv⟩
  have hv := hv.2 (oF c98); refine Ji <| Jb 2 ?_; obtain ⟨o99, hv⟩ := hv; refine WL.add (r := (z92 + 1)) rfl rfl (wr o99) rfl <| Jd 2 ?_; exact ⟨(z92 + 1), sp rfl, hv.2, rfl, hv.1, hS⟩
 have hv := hv.2 (oF c96); refine Jq <| Jb 4 <| W.ret <| ⟨_, rfl, Fin.nil ?_⟩
 exact (hS.pick [] rfl).fin rfl ⟨true, rfl, rfl, hv⟩
def Z5 (l : LI) (p : Int) (Q : Bool -> Prop) : Prop :=
  ∃ (I17 : Int -> Int -> Prop) (μ18 : Int -> Int -> Nat), I17 1 (1 : Int) /\ ∀ (z15 : Int) (z16 : Int), (I17 z15 z16 -> ((I64 ((2 : Int) * z16)) /\ (((((2 : Int) * z16) <= (l.length : Int)) -> ((I64 (z15 * p)) /\ (∃ (I26 : Int -> Prop) (μ27 : Int -> Nat), I26 0 /\ ∀ (z25 : Int), (I26 z25 -> (((z25 < (z15 * p)) -> (QB z25 p z16 (fun x31 => Qt x31 l p (fun r36 => ((r36 = true) -> Q false) /\ (r36 = false -> ((I64 (z25 + 1)) /\ (I26 (z25 + 1) /\ μ27 (z25 + 1) < μ27 z25))))))) /\ (¬ (z25 < (z15 * p)) -> ((I64 (z16 + 1)) /\ (I17 (z15 * p) (z16 + 1) /\ μ18 (z15 * p) (z16 + 1) < μ18 z15 z16)))))))) /\ (¬ (((2 : Int) * z16) <= (l.length : Int)) -> Q true))))
theorem Jj5 {w : World} {Q : Bool -> Prop} {l : LI} {p : Int} {Bl : Nat} {Al : Option Addr} {nl kl : Nat} (hl : Rd Bl w 1 Al nl kl (is l)) (hv : Z5 l p Q) :
   Calls Try.prog 31 #[.slice Al nl kl, .int .i64 p] w <| Rt w fun v Qr => ∃ (r0 : Bool), v = .bool r0 /\ Qr = [] /\ Q r0 := by
 have hnl := hl.ilen; subst hnl; refine Jh <| Jg (vs := [nS Al l kl, nI p]) [4] XF31 rfl rfl rfl rfl ?_; have hS := Jk w; unfold Z5 at hv; refine Jb 13 <| W.block ?_; obtain ⟨I17, μ18, hv, hk41⟩ := hv; refine Jt (σ := Int × Int) (fun q w1 => match q with | (z15, z16) => I17 z15 z16 /\ St TT w none w1 []) (fun (z15, z16) => [(0, nS Al l kl), (1, nI p), (4, .bool false), (5, nI z15), (6, nI z16)]) (fun (z15, z16) => μ18 z15 z16) ((1 : Int), (1 : Int)) ⟨hv, hS⟩ ⟨rfl, rfl, rfl, rfl, rfl, trivial⟩ ?_; rintro ⟨z15, z16⟩ w19 ⟨hv, hS⟩; have hv := hk41 z15 z16 hv; refine Jb 4 ?_; obtain ⟨o20, hv⟩ := hv; refine WL.mul (r := ((2 : Int) * z16)) rfl rfl (wr o20) rfl <| Jp rfl rfl <| WL.len Jn rfl rfl <| Jd 2 <| Je rfl (fun c21 => ?_) (fun c21 => ?_)
 .have hv := hv.1 (oT c21); refine Ji <| Jr <| W.block <| Jb 4 ?_; obtain ⟨o22, hv⟩ := hv; refine WL.mul (r := (z15 * p)) rfl rfl (wr o22) rfl <| Jd 2 <| Jb 4 <| W.block ?_; obtain ⟨I26, μ27, hv, hk40⟩ := hv; refine Jt (σ := Int) (fun z25 w1 => I26 z25 /\ St TT w none w1 []) (fun z25 => [(0, nS Al l kl), (1, nI p), (4, .bool false), (5, nI (z15 * p)), (6, nI z16), (7, nI z25), (12, .bool (decide (((2 : Int) * z16) <= (l.length : Int))))]) (fun z25 => μ27 z25) (0 : Int) ⟨hv, hS⟩ ⟨rfl, rfl, rfl, rfl, rfl, rfl, rfl, trivial⟩ ?_; rintro z25 w28 ⟨hv, hS⟩; have hv := hk40 z25 hv; refine Jb 7 <| Je rfl (fun c29 => ?_) (fun c29 => ?_)
  .have hv := hv.1 (oT c29); refine Ji <| Jr <| W.block <| Jb 5 <| SL.call hS (ZN  hv) XF45 rfl XN45 rfl rfl ?_; rintro _ _ w30 ⟨x31, A32, k33, rfl, rfl, hv⟩ hGw30 hS; have hS := hS.n1; refine Jd 2 <| SL.call hS (Jch (hS.rd (i := 0) rfl) (hS.ro hl) hv) XF44 rfl XN44 rfl rfl ?_; rintro _ _ w35 ⟨r36, rfl, rfl, hv⟩ hGw35 hS; have hS := hS.n0; refine Ja <| Je rfl (fun c37 => ?_) (fun c37 => ?_)
   .have hv := hv.1 (c37); refine Jb 4 <| W.ret <| ⟨_, rfl, Fin.nil ?_⟩
    exact (hS.pick [] rfl).fin rfl ⟨false, rfl, rfl, hv⟩
   have hv := hv.2 (c37); refine Ji <| Jb 2 ?_; obtain ⟨o38, hv⟩ := hv; refine WL.add (r := (z25 + 1)) rfl rfl (wr o38) rfl <| Jd 2 ?_; have hS := hS.pick [] rfl; exact ⟨(z25 + 1), sp rfl, hv.2, rfl, hv.1, hS⟩
  have hv := hv.2 (oF c29); refine Jq <| Jb 2 ?_; obtain ⟨o39, hv⟩ := hv; refine WL.add (r := (z16 + 1)) rfl rfl (wr o39) rfl <| Jd 2 ?_; exact ⟨((z15 * p), (z16 + 1)), sp rfl, hv.2, rfl, hv.1, hS⟩
 have hv := hv.2 (oF c21); refine Jq <| Jb 4 <| W.ret <| ⟨_, rfl, Fin.nil ?_⟩
 exact (hS.pick [] rfl).fin rfl ⟨true, rfl, rfl, hv⟩
def Q6 (Pf : Int) (Mf : Int) (mf : LI) (Q : Int -> Prop) : Prop :=
  Q5 Pf Mf mf (fun r14 => ((r14 = 0) -> (Q 1)) /\ (¬ (r14 = 0) -> (YQ Pf (fun r17 => (((!r17) = true) -> (Q 1)) /\ ((!r17) = false -> (((Mf = 1) -> ((((mf.length : Int) ≠ (0 : Int)) -> (Q 1)) /\ (¬ ((mf.length : Int) ≠ (0 : Int)) -> (Q 0)))) /\ (¬ (Mf = 1) -> ((((mf.length : Int) ≠ Mf) -> (Q 1)) /\ (¬ ((mf.length : Int) ≠ Mf) -> (∃ (I25 : Int -> Prop) (μ26 : Int -> Nat), I25 0 /\ ∀ (z24 : Int), (I25 z24 -> (((z24 < Mf) -> ((((gi mf z24) < (0 : Int)) -> ((0 <= z24 /\ z24 < (mf.length : Nat)) /\ (Q 1))) /\ (¬ ((gi mf z24) < (0 : Int)) -> ((0 <= z24 /\ z24 < (mf.length : Nat)) /\ ((0 <= z24 /\ z24 < (mf.length : Nat)) /\ (((Pf <= (gi mf z24)) -> (Q 1)) /\ (¬ (Pf <= (gi mf z24)) -> ((I64 (z24 + 1)) /\ (I25 (z24 + 1) /\ μ26 (z24 + 1) < μ26 z24))))))))) /\ (¬ (z24 < Mf) -> (Z5 mf Pf (fun r70 => (((!r70) = true) -> (Q 1)) /\ ((!r70) = false -> (Q 0)))))))))))))))))
theorem Jao {w : World} {Q : Int -> Prop} {Pf : Int} {Mf : Int} {mf : LI} {Bf : Nat} {Af : Option Addr} {nf kf : Nat} (hf : Rd Bf w 1 Af nf kf (is mf)) (hv : Q6 Pf Mf mf Q) :
   Calls Try.prog 14 #[.agg #[.int .i64 Pf, .int .i64 Mf, .slice Af nf kf]] w <| Rt w fun v Qr => ∃ (r0 : Int), v = .int .i64 r0 /\ Qr = [] /\ Q r0 := by
 have hnf := hf.ilen; subst hnf; refine Jh <| Jg (vs := [.agg #[nI Pf, nI Mf, nS Af mf kf]]) [2] XF14 rfl rfl rfl rfl ?_; have hS := Jk w; unfold Q6 at hv; refine Jb 2 <| JC (z := 3) (cs := [nI Pf, nI Mf, nS Af mf kf]) hS rfl rfl rfl rfl ?_; intro g11 w12 hS; refine Jd 2 <| Jb 3 <| JK 0 J2 J6 hS rfl ⟨rfl, rfl⟩ rfl <| SL.call hS (Jan (hS.ro hf) hv) XF29 rfl XN29 rfl rfl ?_; rintro _ _ w13 ⟨r14, rfl, rfl, hv⟩ hGw13 hS; have hS := hS.n0; refine Jbv rfl rfl rfl <| Jp rfl rfl ?_; by_cases g15 : r14 = 0
 .have hv := hv.1 g15; rw [decide_eq_true g15]; refine Jd 6 <| JO rfl <| Jb 4 <| W.ret <| ⟨_, rfl, Fin.nil ?_⟩
  exact (hS.pick [] rfl).fin rfl ⟨(1 : Int), rfl, rfl, hv⟩
 have hv := hv.2 g15; rw [decide_eq_false g15]; refine WL.take rfl <| Jc (off := 0) JE rfl rfl <| WL.take rfl <| Jl 0 0 XU3 hS rfl rfl rfl ⟨rfl, rfl⟩ <| WL.take rfl <| SL.call hS (Jge  hv) XF30 rfl XN30 rfl rfl ?_; rintro _ _ w16 ⟨r17, rfl, rfl, hv⟩ hGw16 hS; have hS := hS.n0; refine Jd 4 <| Je rfl (fun c18 => ?_) (fun c18 => ?_)
 .have hv := hv.1 (c18); refine Jb 4 <| W.ret <| ⟨_, rfl, Fin.nil ?_⟩
  exact (hS.pick [] rfl).fin rfl ⟨(1 : Int), rfl, rfl, hv⟩
 have hv := hv.2 (c18); refine Ji <| Jb 3 <| Jc (off := 1) JG rfl rfl <| Jl 0 1 XU3 hS rfl rfl rfl ⟨rfl, rfl⟩ <| Jd 2 <| Je rfl (fun c19 => ?_) (fun c19 => ?_)
 .have hv := hv.1 (oT c19); refine Jb 3 <| Jc (off := 2) Qa rfl rfl <| Jl 0 2 Jn hS rfl rfl rfl ⟨rfl, rfl⟩ <| WL.len Jn rfl rfl <| Jd 2 <| Je rfl (fun c20 => ?_) (fun c20 => ?_)
  .have hv := hv.1 (oT c20); refine Jb 4 <| W.ret <| ⟨_, rfl, Fin.nil ?_⟩
   exact (hS.pick [] rfl).fin rfl ⟨(1 : Int), rfl, rfl, hv⟩
  have hv := hv.2 (oF c20); refine Ji <| Jb 4 <| W.ret <| ⟨_, rfl, Fin.nil ?_⟩
  exact (hS.pick [] rfl).fin rfl ⟨(0 : Int), rfl, rfl, hv⟩
 have hv := hv.2 (oF c19); refine Ji <| Jb 3 <| Jc (off := 2) Qa rfl rfl <| Jl 0 2 Jn hS rfl rfl rfl ⟨rfl, rfl⟩ <| WL.len Jn rfl rfl <| Jc (off := 1) JG rfl rfl <| Jl 0 1 XU3 hS rfl rfl rfl ⟨rfl, rfl⟩ <| Jd 2 <| Je rfl (fun c21 => ?_) (fun c21 => ?_)
 .have hv := hv.1 (oT c21); refine Jb 4 <| W.ret <| ⟨_, rfl, Fin.nil ?_⟩
  exact (hS.pick [] rfl).fin rfl ⟨(1 : Int), rfl, rfl, hv⟩
 have hv := hv.2 (oF c21); refine Ji <| Jb 5 <| W.block ?_; obtain ⟨I25, μ26, hv, hk72⟩ := hv; refine Jt (σ := Int) (fun z24 w1 => I25 z24 /\ St TT w none w1 [.row 24 3 (nA g11) 1 1 [nI Pf, nI Mf, nS Af mf kf]]) (fun z24 => [(1, nP g11), (2, nI 0), (3, nI z24)]) (fun z24 => μ26 z24) (0 : Int) ⟨hv, hS⟩ ⟨rfl, rfl, rfl, trivial⟩ ?_; rintro z24 w27 ⟨hv, hS⟩; have hv := hk72 z24 hv; refine Jb 4 <| Jc (off := 1) JG rfl rfl <| Jl 0 1 XU3 hS rfl rfl rfl ⟨rfl, rfl⟩ <| Jd 2 <| Je rfl (fun c28 => ?_) (fun c28 => ?_)
 .have hv := hv.1 (oT c28); refine Ji <| Jr <| W.block <| Jr ?_; by_cases g29 : (gi mf z24) < (0 : Int)
  .have hv := hv.1 g29; obtain ⟨o34, hv⟩ := hv; refine JH 16 [⟨[], [1], true⟩, ⟨[0], [], false⟩, ⟨[], [3], true⟩, ⟨[1, 2], [], true⟩, ⟨[3], [], false⟩, ⟨[4], [], true⟩, ⟨[5], [], true⟩, ⟨[6], [1], true⟩, ⟨[6, 7], [], false⟩, ⟨[6], [3], true⟩, ⟨[6, 8, 9], [], true⟩, ⟨[6, 10], [], false⟩, ⟨[6], [1], true⟩, ⟨[6, 12], [], false⟩, ⟨[6, 11, 13], [], true⟩, ⟨[6, 14], [], true⟩] [(32, .pointer (some ((⟨g11, 0, none⟩ : Addr).add 2))), (33, nS Af mf kf), (34, nI z24), (35, .pointer (some ((JL Af).add z24.toNat))), (36, nI (gi mf z24)), (37, .bool true), (38, .bool true), (39, undef), (40, undef), (41, undef), (42, undef), (43, undef), (44, undef), (45, undef), (46, undef), (47, .bool true)] Try.mixed (by kernel_rfl) rfl rfl ?_ ?_
   .refine ⟨fun _ _ _ => Jc (off := 2) Qa rfl rfl <| Ja ⟨rfl, rfl⟩, og hS fun _ _ hS => Jl 0 2 Jn hS rfl rfl rfl ⟨rfl, rfl⟩ <| Ja ⟨rfl, Jf _⟩, oD, fun _ _ _ => Jj Jn XE3 (hS.ro hf) rfl rfl o34 rfl <| Ja ⟨rfl, rfl⟩, og hS fun _ _ hS => Jo XU3 rfl rfl (JF (hS.ro hf) o34) rfl <| Ja ⟨rfl, Jf _⟩, ?_, oD, oD, oD, oD, oD, oD, oD, oD, oD, oD, trivial⟩; intro w36 hE RR; refine QP rfl rfl rfl ?_; rw [decide_eq_true g29]; exact Ja ⟨rfl, rfl⟩
   intro w47 hT; have hS := hS.grow hT; refine Qf <| JO rfl <| Jb 4 <| W.ret <| ⟨_, rfl, Fin.nil ?_⟩
   exact (hS.pick [] rfl).fin rfl ⟨(1 : Int), rfl, rfl, hv⟩
  have hv := hv.2 g29; obtain ⟨o52, hv⟩ := hv; obtain ⟨o60, hv⟩ := hv; refine JH 16 [⟨[], [1], true⟩, ⟨[0], [], false⟩, ⟨[], [3], true⟩, ⟨[1, 2], [], true⟩, ⟨[3], [], false⟩, ⟨[4], [], true⟩, ⟨[5], [], true⟩, ⟨[6], [1], true⟩, ⟨[6, 7], [], false⟩, ⟨[6], [3], true⟩, ⟨[6, 8, 9], [], true⟩, ⟨[6, 10], [], false⟩, ⟨[6], [1], true⟩, ⟨[6, 12], [], false⟩, ⟨[6, 11, 13], [], true⟩, ⟨[6, 14], [], true⟩] [(32, .pointer (some ((⟨g11, 0, none⟩ : Addr).add 2))), (33, nS Af mf kf), (34, nI z24), (35, .pointer (some ((JL Af).add z24.toNat))), (36, nI (gi mf z24)), (37, .bool false), (38, .bool false), (39, .pointer (some ((⟨g11, 0, none⟩ : Addr).add 2))), (40, nS Af mf kf), (41, nI z24), (42, .pointer (some ((JL Af).add z24.toNat))), (43, nI (gi mf z24)), (44, nP g11), (45, nI Pf), (46, .bool (decide (Pf <= (gi mf z24)))), (47, .bool (decide (Pf <= (gi mf z24))))] Try.mixed (by kernel_rfl) rfl rfl ?_ ?_
  .refine ⟨fun _ _ _ => Jc (off := 2) Qa rfl rfl <| Ja ⟨rfl, rfl⟩, og hS fun _ _ hS => Jl 0 2 Jn hS rfl rfl rfl ⟨rfl, rfl⟩ <| Ja ⟨rfl, Jf _⟩, oD, fun _ _ _ => Jj Jn XE3 (hS.ro hf) rfl rfl o52 rfl <| Ja ⟨rfl, rfl⟩, og hS fun _ _ hS => Jo XU3 rfl rfl (JF (hS.ro hf) o52) rfl <| Ja ⟨rfl, Jf _⟩, ?_, oD, fun _ _ _ => WL.take rfl <| Jc (off := 2) Qa rfl rfl <| Ja ⟨rfl, rfl⟩, og hS fun _ _ hS => WL.take rfl <| Jl 0 2 Jn hS rfl rfl rfl ⟨rfl, rfl⟩ <| Ja ⟨rfl, Jf _⟩, oD, fun _ _ _ => WL.take rfl <| Jj Jn XE3 (hS.ro hf) rfl rfl o60 rfl <| Ja ⟨rfl, rfl⟩, og hS fun _ _ hS => WL.take rfl <| Jo XU3 rfl rfl (JF (hS.ro hf) o60) rfl <| Ja ⟨rfl, Jf _⟩, fun _ _ _ => WL.take rfl <| Jc (off := 0) JE rfl rfl <| Ja ⟨rfl, rfl⟩, og hS fun _ _ hS => WL.take rfl <| Jl 0 0 XU3 hS rfl rfl rfl ⟨rfl, rfl⟩ <| Ja ⟨rfl, Jf _⟩, oD, oD, trivial⟩; intro w54 hE RR; refine QP rfl rfl rfl ?_; rw [decide_eq_false g29]; exact Ja ⟨rfl, rfl⟩
  intro w66 hT; have hS := hS.grow hT; refine Qf <| Je rfl (fun c67 => ?_) (fun c67 => ?_)
  .have hv := hv.1 (oT c67); refine Jb 4 <| W.ret <| ⟨_, rfl, Fin.nil ?_⟩
   exact (hS.pick [] rfl).fin rfl ⟨(1 : Int), rfl, rfl, hv⟩
  have hv := hv.2 (oF c67); refine Ji <| Jb 2 ?_; obtain ⟨o68, hv⟩ := hv; refine WL.add (r := (z24 + 1)) rfl rfl (wr o68) rfl <| Jd 2 ?_; exact ⟨(z24 + 1), sp rfl, hv.2, rfl, hv.1, hS⟩
 have hv := hv.2 (oF c28); refine Jq <| Jb 3 <| Jc (off := 2) Qa rfl rfl <| Jl 0 2 Jn hS rfl rfl rfl ⟨rfl, rfl⟩ <| Jc (off := 0) JE rfl rfl <| Jl 0 0 XU3 hS rfl rfl rfl ⟨rfl, rfl⟩ <| SL.call hS (Jj5 (hS.ro hf) hv) XF31 rfl XN31 rfl rfl ?_; rintro _ _ w69 ⟨r70, rfl, rfl, hv⟩ hGw69 hS; have hS := hS.n0; refine Jd 2 <| Je rfl (fun c71 => ?_) (fun c71 => ?_)
 .have hv := hv.1 (c71); refine Jb 4 <| W.ret <| ⟨_, rfl, Fin.nil ?_⟩
  exact (hS.pick [] rfl).fin rfl ⟨(1 : Int), rfl, rfl, hv⟩
 have hv := hv.2 (c71); refine Ji <| Jb 4 <| W.ret <| ⟨_, rfl, Fin.nil ?_⟩
 exact (hS.pick [] rfl).fin rfl ⟨(0 : Int), rfl, rfl, hv⟩
def Jf1 (Pf : Int) (Mf : Int) (mf : LI) (x : Int) (Q : Bool -> Prop) : Prop :=
  (((0 : Int) <= x) -> (Q5 Pf Mf mf (fun r15 => Q (decide (x < r15))))) /\ (¬ ((0 : Int) <= x) -> Q false)
theorem ok_rIs {w : World} {Q : Bool -> Prop} {Pf : Int} {Mf : Int} {mf : LI} {x : Int} {Bf : Nat} {Af : Option Addr} {nf kf : Nat} (hf : Rd Bf w 1 Af nf kf (is mf)) (hv : Jf1 Pf Mf mf x Q) :
   Calls Try.prog 48 #[.agg #[.int .i64 Pf, .int .i64 Mf, .slice Af nf kf], .int .i64 x] w <| Rt w fun v Qr => ∃ (r0 : Bool), v = .bool r0 /\ Qr = [] /\ Q r0 := by
 have hnf := hf.ilen; subst hnf; refine Jh <| Jg (vs := [.agg #[nI Pf, nI Mf, nS Af mf kf], nI x]) [4] XF48 rfl rfl rfl rfl ?_; have hS := Jk w; unfold Jf1 at hv; refine Jb 2 <| JC (z := 3) (cs := [nI Pf, nI Mf, nS Af mf kf]) hS rfl rfl rfl rfl ?_; intro g11 w12 hS; refine Jd 2 <| Jb 4 <| Jp rfl rfl ?_; by_cases g13 : (0 : Int) <= x
 .have hv := hv.1 g13; rw [decide_eq_true g13]; refine Jd 3 <| JK 0 J2 J6 hS rfl ⟨rfl, rfl⟩ rfl <| WL.take rfl <| SL.call hS (Jan (hS.ro hf) hv) XF29 rfl XN29 rfl rfl ?_; rintro _ _ w14 ⟨r15, rfl, rfl, hv⟩ hGw14 hS; have hS := hS.n0; refine Jd 5 <| W.ret <| ⟨_, rfl, Fin.nil ?_⟩
  exact (hS.pick [] rfl).fin rfl ⟨(decide (x < r15)), rfl, rfl, hv⟩
 have hv := hv.2 g13; rw [decide_eq_false g13]; refine Jd 7 <| W.ret <| ⟨_, rfl, Fin.nil ?_⟩
 exact (hS.pick [] rfl).fin rfl ⟨false, rfl, rfl, hv⟩
def Jdg (Pf : Int) (Mf : Int) (mf : LI) (x : Int) (Q : Int -> Prop) : Prop :=
  Jf1 Pf Mf mf x (fun r14 => ((r14 = true) -> Q x) /\ (r14 = false -> (Q 0)))
theorem Jih {w : World} {Q : Int -> Prop} {Pf : Int} {Mf : Int} {mf : LI} {x : Int} {Bf : Nat} {Af : Option Addr} {nf kf : Nat} (hf : Rd Bf w 1 Af nf kf (is mf)) (hv : Jdg Pf Mf mf x Q) :
   Calls Try.prog 34 #[.agg #[.int .i64 Pf, .int .i64 Mf, .slice Af nf kf], .int .i64 x] w <| Rt w fun v Qr => ∃ (r0 : Int), v = .int .i64 r0 /\ Qr = [] /\ Q r0 := by
 have hnf := hf.ilen; subst hnf; refine Jh <| Jg (vs := [.agg #[nI Pf, nI Mf, nS Af mf kf], nI x]) [4] XF34 rfl rfl rfl rfl ?_; have hS := Jk w; unfold Jdg at hv; refine Jb 2 <| JC (z := 3) (cs := [nI Pf, nI Mf, nS Af mf kf]) hS rfl rfl rfl rfl ?_; intro g11 w12 hS; refine Jd 2 <| Jb 3 <| JK 0 J2 J6 hS rfl ⟨rfl, rfl⟩ rfl <| Jp rfl rfl <| SL.call hS (ok_rIs (hS.ro hf) hv) XF48 rfl XN48 rfl rfl ?_; rintro _ _ w13 ⟨r14, rfl, rfl, hv⟩ hGw13 hS; have hS := hS.n0; refine Ja <| Je rfl (fun c15 => ?_) (fun c15 => ?_)
 .have hv := hv.1 (c15); refine Jb 5 <| W.ret <| ⟨_, rfl, Fin.nil ?_⟩
  exact (hS.pick [] rfl).fin rfl ⟨x, rfl, rfl, hv⟩
 have hv := hv.2 (c15); refine Ji <| Jb 4 <| W.ret <| ⟨_, rfl, Fin.nil ?_⟩
 exact (hS.pick [] rfl).fin rfl ⟨(0 : Int), rfl, rfl, hv⟩
def QC (Pf : Int) (Mf : Int) (mf : LI) (x : Int) (Q : LI -> Prop) : Prop :=
  ∃ (r16 : Int), Jdg Pf Mf mf x (fun q => q = r16) /\ (∃ (x24 : LI), QB r16 Pf Mf (fun q => q = x24) /\ Q x24)
theorem ZO {w : World} {Q : LI -> Prop} {Pf : Int} {Mf : Int} {mf : LI} {x : Int} {Bf : Nat} {Af : Option Addr} {nf kf : Nat} (hf : Rd Bf w 1 Af nf kf (is mf)) (hv : QC Pf Mf mf x Q) :
  Calls Try.prog 49 #[.agg #[.int .i64 Pf, .int .i64 Mf, .slice Af nf kf], .int .i64 x] w <| Rt w fun v Qr => ∃ (x : LI)  (A : Option Addr) (c : Nat), v = .slice A x.length c /\ Qr = [.row 3 1 A x.length c (is x)] /\ Q x := by
 have hnf := hf.ilen; subst hnf; refine Jh <| Jg (vs := [.agg #[nI Pf, nI Mf, nS Af mf kf], nI x]) [4] XF49 rfl rfl rfl rfl ?_; have hS := Jk w; unfold QC at hv; refine Jb 2 <| JC (z := 3) (cs := [nI Pf, nI Mf, nS Af mf kf]) hS rfl rfl rfl rfl ?_; intro g11 w12 hS; refine Jd 2 <| Jr ?_; obtain ⟨r16, o18, hv⟩ := hv; obtain ⟨x24, o31, hv⟩ := hv; have hS0 := hS; refine YO 9 (fun iA => [false, false, false, false, false, false, false, true, false].getD iA false) (fun iC => match iC with | 8 => some 7 | _ => none) (fun _ v u => u = v) [⟨[], [2], false⟩, ⟨[], [1], true⟩, ⟨[0, 1], [], false⟩, ⟨[], [2], true⟩, ⟨[3], [], false⟩, ⟨[], [2], true⟩, ⟨[5], [], false⟩, ⟨[2, 4, 6], [], false⟩, ⟨[7], [], true⟩] [.k 5 (.agg #[nI Pf, nI Mf, nS Af mf kf]), .k 6 (nI x), .k 7 (nI r16), .k 8 (nP g11), .k 9 (nI Pf), .k 10 (.pointer (some ((⟨g11, 0, none⟩ : Addr).add 1))), .k 11 (nI Mf), eS w12 12 3 x24.length (is x24), eS w12 4 3 x24.length (is x24)] (fun _ => vbD) Try.mixed (by kernel_rfl) rfl rfl (fun _ _ _ _ _ _ _ h => h) ?_ ?_
 .refine ⟨og hS fun _ _ hS => JK 0 J2 J6 hS rfl ⟨rfl, rfl⟩ rfl <| Ja ⟨rfl, Jf _⟩, oC, ?_, fun _ _ _ => Jc (off := 0) JE rfl rfl <| Ja ⟨rfl, rfl⟩, og hS fun _ _ hS => Jl 0 0 XU3 hS rfl rfl rfl ⟨rfl, rfl⟩ <| Ja ⟨rfl, Jf _⟩, fun _ _ _ => Jc (off := 1) JG rfl rfl <| Ja ⟨rfl, rfl⟩, og hS fun _ _ hS => Jl 0 1 XU3 hS rfl rfl rfl ⟨rfl, rfl⟩ <| Ja ⟨rfl, Jf _⟩, ?_, ?_, trivial⟩
  .intro w15 hE; have hS := hS.grow (hE rfl); intro RR; refine WL.call XF34 rfl XN34 rfl rfl (JI (Jih (hS.ro hf) o18)) ?_; rintro _ w17 ⟨_, hGw17, hRww17, hNww17, r16q, rfl, rfl, he⟩; subst he; exact Ja ⟨rfl, hGw17⟩
  .intro w23 hE; have hE := hE rfl; have hS := hS.grow hE; intro RR; refine WL.call XF45 rfl XN45 rfl rfl (JI (ZN  o31)) ?_; rintro _ w28 ⟨_, hGw28, hRww28, hNww28, x24q, A25, k26, rfl, rfl, he⟩; subst he; have hO29 := (hRww28.get (i := 0) rfl).1; have hN30 : ∀ g, bl A25 = some g -> _ <= g := fun g hg => Nat.le_trans hE.size (hNww28.1 g hg); exact Ja ⟨_, rfl, hGw28, ⟨A25, k26, rfl, hO29, hN30⟩, (fun _ => fun g hg => ⟨hNww28.1 g hg, (hO29.bl_ge g hg).2⟩), (fun j h => by cases h)⟩
  intro w32 hE; rintro _ ⟨A25_7, k26_7, rfl, hO29_7, hN30_7⟩; intro RR; refine JZ rfl rfl ?_; exact Ja ⟨_, rfl, rfl, ⟨A25_7, k26_7, rfl, hO29_7, hN30_7⟩, (fun h => absurd h (by decide)), (fun j h => by cases h; exact ⟨_, rfl, rfl⟩)⟩
 intro vals w33 hT hVs hAp hCp; have hS := hS.grow hT; obtain ⟨A25_7, k26_7, hv7, hO29_7, hN30_7⟩ := hVs 7 (by decide); have hv8 : vals 8 = nS A25_7 x24 k26_7 := (hCp 8 7 (by decide) rfl).trans hv7; have hS := Yn [] hS0 hS hO29_7 hN30_7 (fun s hs => by cases hs); refine Jf0 [(7, nS A25_7 x24 k26_7), (8, nS A25_7 x24 k26_7)] ⟨hv7, hv8, trivial⟩ <| Qf <| W.ret <| ⟨_, rfl, Fin.nil ?_⟩
 exact (hS.pick [0] rfl).fin rfl ⟨x24, A25_7, k26_7, rfl, rfl, hv⟩
def Q4 (Pf : Int) (Mf : Int) (mf : LI) (l : LI) (Q : Int -> Prop) : Prop :=
  (I64 ((l.length : Int) - (1 : Int))) /\ (∃ (I20 : Int -> Int -> Prop) (μ21 : Int -> Int -> Nat), I20 0 ((l.length : Int) - (1 : Int)) /\ ∀ (z18 : Int) (z19 : Int), (I20 z18 z19 -> ((((0 : Int) <= z19) -> ((I64 (z18 * Pf)) /\ ((0 <= z19 /\ z19 < (l.length : Nat)) /\ ((I64 ((z18 * Pf) + (gi l z19))) /\ ((I64 (z19 - 1)) /\ (I20 ((z18 * Pf) + (gi l z19)) (z19 - 1) /\ μ21 ((z18 * Pf) + (gi l z19)) (z19 - 1) < μ21 z18 z19)))))) /\ (¬ ((0 : Int) <= z19) -> Q z18))))
theorem Jgg {w : World} {Q : Int -> Prop} {Pf : Int} {Mf : Int} {mf : LI} {l : LI} {Bf : Nat} {Af : Option Addr} {nf kf : Nat} (hf : Rd Bf w 1 Af nf kf (is mf)) {Bl : Nat} {Al : Option Addr} {nl kl : Nat} (hl : Rd Bl w 1 Al nl kl (is l)) (hv : Q4 Pf Mf mf l Q) :
   Calls Try.prog 50 #[.agg #[.int .i64 Pf, .int .i64 Mf, .slice Af nf kf], .slice Al nl kl] w <| Rt w fun v Qr => ∃ (r0 : Int), v = .int .i64 r0 /\ Qr = [] /\ Q r0 := by
 have hnf := hf.ilen; subst hnf; have hnl := hl.ilen; subst hnl; refine Jh <| Jg (vs := [.agg #[nI Pf, nI Mf, nS Af mf kf], nS Al l kl]) [4] XF50 rfl rfl rfl rfl ?_; have hS := Jk w; unfold Q4 at hv; refine Jb 2 <| JC (z := 3) (cs := [nI Pf, nI Mf, nS Af mf kf]) hS rfl rfl rfl rfl ?_; intro g11 w12 hS; refine Jd 2 <| Jb 8 <| WL.len Jn rfl rfl ?_; obtain ⟨o13, hv⟩ := hv; refine WL.sub (r := ((l.length : Int) - (1 : Int))) rfl rfl (wr o13) rfl <| Jd 2 <| W.block ?_; obtain ⟨I20, μ21, hv, hk39⟩ := hv; refine Jt (σ := Int × Int) (fun q w1 => match q with | (z18, z19) => I20 z18 z19 /\ St TT w none w1 [.row 24 3 (nA g11) 1 1 [nI Pf, nI Mf, nS Af mf kf]]) (fun (z18, z19) => [(1, nS Al l kl), (2, nP g11), (4, nI 0), (5, nI z18), (6, nI z19)]) (fun (z18, z19) => μ21 z18 z19) ((0 : Int), ((l.length : Int) - (1 : Int))) ⟨hv, hS⟩ ⟨rfl, rfl, rfl, rfl, rfl, trivial⟩ ?_; rintro ⟨z18, z19⟩ w22 ⟨hv, hS⟩; have hv := hk39 z18 z19 hv; refine Jb 6 <| Je rfl (fun c23 => ?_) (fun c23 => ?_)
 .have hv := hv.1 (oT c23); refine Ji <| Jr <| W.block ?_; obtain ⟨o28, hv⟩ := hv; obtain ⟨o32, hv⟩ := hv; obtain ⟨o35, hv⟩ := hv; refine JH 10 [⟨[], [5], true⟩, ⟨[], [2], true⟩, ⟨[1], [], false⟩, ⟨[0, 2], [], true⟩, ⟨[], [1], true⟩, ⟨[], [6], true⟩, ⟨[4, 5], [], true⟩, ⟨[6], [], false⟩, ⟨[3, 7], [], true⟩, ⟨[8], [], true⟩] [(14, nI z18), (15, nP g11), (16, nI Pf), (17, nI (z18 * Pf)), (18, nS Al l kl), (19, nI z19), (20, .pointer (some ((JL Al).add z19.toNat))), (21, nI (gi l z19)), (22, nI ((z18 * Pf) + (gi l z19))), (5, nI ((z18 * Pf) + (gi l z19)))] Try.mixed (by kernel_rfl) rfl rfl ?_ ?_
  .refine ⟨oD, fun _ _ _ => Jc (off := 0) JE rfl rfl <| Ja ⟨rfl, rfl⟩, og hS fun _ _ hS => Jl 0 0 XU3 hS rfl rfl rfl ⟨rfl, rfl⟩ <| Ja ⟨rfl, Jf _⟩, fun _ _ _ => WL.mul (r := (z18 * Pf)) rfl rfl (wr o28) rfl <| Ja ⟨rfl, rfl⟩, oD, oD, fun _ _ _ => Jj Jn XE3 (hS.ro hl) rfl rfl o32 rfl <| Ja ⟨rfl, rfl⟩, og hS fun _ _ hS => Jo XU3 rfl rfl (JF (hS.ro hl) o32) rfl <| Ja ⟨rfl, Jf _⟩, fun _ _ _ => WL.add (r := ((z18 * Pf) + (gi l z19))) rfl rfl (wr o35) rfl <| Ja ⟨rfl, rfl⟩, oD, trivial⟩
  intro w37 hT; have hS := hS.grow hT; refine Qf <| Jb 2 ?_; obtain ⟨o38, hv⟩ := hv; refine WL.sub (r := (z19 - 1)) rfl rfl (wr o38) rfl <| Jd 2 ?_; exact ⟨(((z18 * Pf) + (gi l z19)), (z19 - 1)), sp rfl, hv.2, rfl, hv.1, hS⟩
 have hv := hv.2 (oF c23); refine Jq <| Jb 5 <| W.ret <| ⟨_, rfl, Fin.nil ?_⟩
 exact (hS.pick [] rfl).fin rfl ⟨z18, rfl, rfl, hv⟩
def Jbw (Pf : Int) (Mf : Int) (mf : LI) (x : Int) (y : Int) (Q : Int -> Prop) : Prop :=
  QC Pf Mf mf x (fun x14 => QC Pf Mf mf y (fun x19 => (I64 ((2 : Int) * Mf)) /\ ((I64 (((2 : Int) * Mf) - (1 : Int))) /\ ((0 <= (((2 : Int) * Mf) - (1 : Int)) /\ (((2 : Int) * Mf) - (1 : Int)) * 8 <= 281474976710656 /\ (((2 : Int) * Mf) - (1 : Int)) <= 281474976710656) /\ (∃ (I35 : LI -> Int -> Prop) (μ36 : LI -> Int -> Nat), I35 (List.replicate (((2 : Int) * Mf) - (1 : Int)).toNat (0 : Int)) (0 : Int) /\ ∀ (x33 : LI) (z34 : Int), (I35 x33 z34 -> (((z34 < Mf) -> (∃ (I45 : LI -> Int -> Prop) (μ46 : LI -> Int -> Nat), I45 x33 (0 : Int) /\ ∀ (x43 : LI) (z44 : Int), (I45 x43 z44 -> (((z44 < Mf) -> ((I64 (z34 + z44)) /\ ((I64 (z34 + z44)) /\ ((0 <= (z34 + z44) /\ (z34 + z44) < ((((2 : Int) * Mf) - (1 : Int)).toNat : Nat)) /\ ((0 <= z34 /\ z34 < (x14.length : Nat)) /\ ((0 <= z44 /\ z44 < (x19.length : Nat)) /\ ((I64 ((gi x14 z34) * (gi x19 z44))) /\ ((I64 ((gi x43 (z34 + z44)) + ((gi x14 z34) * (gi x19 z44)))) /\ ((Pf ≠ 0) /\ ((0 <= (z34 + z44) /\ (z34 + z44) < ((((2 : Int) * Mf) - (1 : Int)).toNat : Nat)) /\ ((I64 (z44 + 1)) /\ (I45 (si x43 (z34 + z44) (((gi x43 (z34 + z44)) + ((gi x14 z34) * (gi x19 z44))).tmod Pf)) (z44 + 1) /\ μ46 (si x43 (z34 + z44) (((gi x43 (z34 + z44)) + ((gi x14 z34) * (gi x19 z44))).tmod Pf)) (z44 + 1) < μ46 x43 z44)))))))))))) /\ (¬ (z44 < Mf) -> ((I64 (z34 + 1)) /\ (I35 x43 (z34 + 1) /\ μ36 x43 (z34 + 1) < μ36 x33 z34))))))) /\ (¬ (z34 < Mf) -> ((I64 ((2 : Int) * Mf)) /\ ((I64 (((2 : Int) * Mf) - (2 : Int))) /\ (∃ (I94 : LI -> Int -> Prop) (μ95 : LI -> Int -> Nat), I94 x33 (((2 : Int) * Mf) - (2 : Int)) /\ ∀ (x92 : LI) (z93 : Int), (I94 x92 z93 -> (((Mf <= z93) -> (∃ (I104 : LI -> Int -> Prop) (μ105 : LI -> Int -> Nat), I104 x92 (0 : Int) /\ ∀ (x102 : LI) (z103 : Int), (I104 x102 z103 -> (((z103 < Mf) -> ((I64 (z93 - Mf)) /\ ((I64 ((z93 - Mf) + z103)) /\ ((I64 (z93 - Mf)) /\ ((I64 ((z93 - Mf) + z103)) /\ ((0 <= ((z93 - Mf) + z103) /\ ((z93 - Mf) + z103) < ((((2 : Int) * Mf) - (1 : Int)).toNat : Nat)) /\ ((0 <= z93 /\ z93 < ((((2 : Int) * Mf) - (1 : Int)).toNat : Nat)) /\ ((I64 (Pf - (gi x102 z93))) /\ ((0 <= z103 /\ z103 < (mf.length : Nat)) /\ ((I64 ((Pf - (gi x102 z93)) * (gi mf z103))) /\ ((I64 ((gi x102 ((z93 - Mf) + z103)) + ((Pf - (gi x102 z93)) * (gi mf z103)))) /\ ((Pf ≠ 0) /\ ((0 <= ((z93 - Mf) + z103) /\ ((z93 - Mf) + z103) < ((((2 : Int) * Mf) - (1 : Int)).toNat : Nat)) /\ ((I64 (z103 + 1)) /\ (I104 (si x102 ((z93 - Mf) + z103) (((gi x102 ((z93 - Mf) + z103)) + ((Pf - (gi x102 z93)) * (gi mf z103))).tmod Pf)) (z103 + 1) /\ μ105 (si x102 ((z93 - Mf) + z103) (((gi x102 ((z93 - Mf) + z103)) + ((Pf - (gi x102 z93)) * (gi mf z103))).tmod Pf)) (z103 + 1) < μ105 x102 z103))))))))))))))) /\ (¬ (z103 < Mf) -> ((I64 (z93 - 1)) /\ (I94 x102 (z93 - 1) /\ μ95 x102 (z93 - 1) < μ95 x92 z93))))))) /\ (¬ (Mf <= z93) -> ((0 <= Mf /\ Mf <= ((((2 : Int) * Mf) - (1 : Int)).toNat : Nat)) /\ (∃ (r165 : Int), Q4 Pf Mf mf (x92.take Mf.toNat) (fun q => q = r165) /\ Q r165))))))))))))))))
theorem Jj6 {w : World} {Q : Int -> Prop} {Pf : Int} {Mf : Int} {mf : LI} {x : Int} {y : Int} {Bf : Nat} {Af : Option Addr} {nf kf : Nat} (hf : Rd Bf w 1 Af nf kf (is mf)) (hv : Jbw Pf Mf mf x y Q) :
   Calls Try.prog 35 #[.agg #[.int .i64 Pf, .int .i64 Mf, .slice Af nf kf], .int .i64 x, .int .i64 y] w <| Rt w fun v Qr => ∃ (r0 : Int), v = .int .i64 r0 /\ Qr = [] /\ Q r0 := by
 have hnf := hf.ilen; subst hnf; refine Jh <| Jg (vs := [.agg #[nI Pf, nI Mf, nS Af mf kf], nI x, nI y]) [6] XF35 rfl rfl rfl rfl ?_; have hS := Jk w; unfold Jbw at hv; refine Jb 2 <| JC (z := 3) (cs := [nI Pf, nI Mf, nS Af mf kf]) hS rfl rfl rfl rfl ?_; intro g11 w12 hS; refine Jd 2 <| Jb 2 <| JK 0 J2 J6 hS rfl ⟨rfl, rfl⟩ rfl <| Jp rfl rfl <| SL.call hS (ZO (hS.ro hf) hv) XF49 rfl XN49 rfl rfl ?_; rintro _ _ w13 ⟨x14, A15, k16, rfl, rfl, hv⟩ hGw13 hS; have hS := hS.n1; refine Jd 2 <| Jb 2 <| JK 1 J2 J6 hS rfl ⟨rfl, rfl⟩ rfl <| Jp rfl rfl <| SL.call hS (ZO (hS.ro hf) hv) XF49 rfl XN49 rfl rfl ?_; rintro _ _ w18 ⟨x19, A20, k21, rfl, rfl, hv⟩ hGw18 hS; have hS := hS.n1; refine Jd 2 <| Jb 2 <| Jc (off := 1) JG rfl rfl <| Jl 2 1 XU3 hS rfl rfl rfl ⟨rfl, rfl⟩ ?_; obtain ⟨o23, hv⟩ := hv; refine WL.mul (r := ((2 : Int) * Mf)) rfl rfl (wr o23) rfl ?_; obtain ⟨o24, hv⟩ := hv; refine WL.sub (r := (((2 : Int) * Mf) - (1 : Int))) rfl rfl (wr o24) rfl ?_; obtain ⟨o25, hv⟩ := hv; refine QU (J := (((2 : Int) * Mf) - (1 : Int))) hS Jn XE3 rfl rfl o25 (QK _) rfl ?_; intro A26 w27 hS; refine Jd 2 <| Jb 5 <| W.block ?_; obtain ⟨I35, μ36, hv, hk171⟩ := hv; refine Jt (σ := LI × Int) (fun q w1 => match q with | (x33, z34) => I35 x33 z34 /\ St TT w none w1 [.row 3 1 A26 ((((2 : Int) * Mf) - (1 : Int)).toNat) ((((2 : Int) * Mf) - (1 : Int)).toNat) (is x33), nR 3 A20 x19 k21, nR 3 A15 x14 k16, .row 24 3 (nA g11) 1 1 [nI Pf, nI Mf, nS Af mf kf]]) (fun (x33, z34) => [(3, nP g11), (6, nI 0), (7, nS A15 x14 k16), (8, nS A20 x19 k21), (9, .slice A26 ((((2 : Int) * Mf) - (1 : Int)).toNat) ((((2 : Int) * Mf) - (1 : Int)).toNat)), (10, nI z34)]) (fun (x33, z34) => μ36 x33 z34) (List.replicate (((2 : Int) * Mf) - (1 : Int)).toNat (0 : Int), (0 : Int)) ⟨hv, hS⟩ ⟨rfl, rfl, rfl, rfl, rfl, rfl, trivial⟩ ?_; rintro ⟨x33, z34⟩ w37 ⟨hv, hS⟩; have hv := hk171 x33 z34 hv; refine Jb 4 <| Jc (off := 1) JG rfl rfl <| Jl 3 1 XU3 hS rfl rfl rfl ⟨rfl, rfl⟩ <| Jd 2 <| Je rfl (fun c38 => ?_) (fun c38 => ?_)
 .have hv := hv.1 (oT c38); refine Ji <| Jr <| W.block <| Jb 4 <| W.block ?_; obtain ⟨I45, μ46, hv, hk85⟩ := hv; refine Jt (σ := LI × Int) (fun q w1 => match q with | (x43, z44) => I45 x43 z44 /\ St TT w none w1 [.row 3 1 A26 ((((2 : Int) * Mf) - (1 : Int)).toNat) ((((2 : Int) * Mf) - (1 : Int)).toNat) (is x43), nR 3 A20 x19 k21, nR 3 A15 x14 k16, .row 24 3 (nA g11) 1 1 [nI Pf, nI Mf, nS Af mf kf]]) (fun (x43, z44) => [(3, nP g11), (6, nI 0), (7, nS A15 x14 k16), (8, nS A20 x19 k21), (9, .slice A26 ((((2 : Int) * Mf) - (1 : Int)).toNat) ((((2 : Int) * Mf) - (1 : Int)).toNat)), (10, nI z34), (11, nI z44), (28, .bool (decide (z34 < Mf)))]) (fun (x43, z44) => μ46 x43 z44) (x33, (0 : Int)) ⟨hv, hS⟩ ⟨rfl, rfl, rfl, rfl, rfl, rfl, rfl, rfl, trivial⟩ ?_; rintro ⟨x43, z44⟩ w47 ⟨hv, hS⟩; have hv := hk85 x43 z44 hv; refine Jb 4 <| Jc (off := 1) JG rfl rfl <| Jl 3 1 XU3 hS rfl rfl rfl ⟨rfl, rfl⟩ <| Jd 2 <| Je rfl (fun c48 => ?_) (fun c48 => ?_)
  .have hv := hv.1 (oT c48); refine Ji <| Jr <| W.block ?_; obtain ⟨o53, hv⟩ := hv; obtain ⟨o58, hv⟩ := hv; obtain ⟨o60, hv⟩ := hv; obtain ⟨o65, hv⟩ := hv; obtain ⟨o70, hv⟩ := hv; obtain ⟨o73, hv⟩ := hv; obtain ⟨o75, hv⟩ := hv; obtain ⟨o79, hv⟩ := hv; refine JH 23 [⟨[], [9], true⟩, ⟨[], [10], true⟩, ⟨[], [11], true⟩, ⟨[1, 2], [], true⟩, ⟨[], [9], true⟩, ⟨[], [10], true⟩, ⟨[], [11], true⟩, ⟨[5, 6], [], true⟩, ⟨[4, 7], [], true⟩, ⟨[8], [], false⟩, ⟨[], [7], true⟩, ⟨[], [10], true⟩, ⟨[10, 11], [], true⟩, ⟨[12], [], false⟩, ⟨[], [8], true⟩, ⟨[], [11], true⟩, ⟨[14, 15], [], true⟩, ⟨[16], [], false⟩, ⟨[13, 17], [], true⟩, ⟨[9, 18], [], true⟩, ⟨[], [3], true⟩, ⟨[20], [], false⟩, ⟨[19, 21], [], true⟩] [(37, .slice A26 ((((2 : Int) * Mf) - (1 : Int)).toNat) ((((2 : Int) * Mf) - (1 : Int)).toNat)), (38, nI z34), (39, nI z44), (40, nI (z34 + z44)), (41, .slice A26 ((((2 : Int) * Mf) - (1 : Int)).toNat) ((((2 : Int) * Mf) - (1 : Int)).toNat)), (42, nI z34), (43, nI z44), (44, nI (z34 + z44)), (45, .pointer (some ((JL A26).add ((z34 + z44).toNat)))), (46, nI (gi x43 (z34 + z44))), (47, nS A15 x14 k16), (48, nI z34), (49, .pointer (some ((JL A15).add z34.toNat))), (50, nI (gi x14 z34)), (51, nS A20 x19 k21), (52, nI z44), (53, .pointer (some ((JL A20).add z44.toNat))), (54, nI (gi x19 z44)), (55, nI ((gi x14 z34) * (gi x19 z44))), (56, nI ((gi x43 (z34 + z44)) + ((gi x14 z34) * (gi x19 z44)))), (57, nP g11), (58, nI Pf), (59, nI (((gi x43 (z34 + z44)) + ((gi x14 z34) * (gi x19 z44))).tmod Pf))] Try.mixed (by kernel_rfl) rfl rfl ?_ ?_
   .refine ⟨oD, oD, oD, fun _ _ _ => WL.add (r := (z34 + z44)) rfl rfl (wr o53) rfl <| Ja ⟨rfl, rfl⟩, oD, oD, oD, fun _ _ _ => WL.add (r := (z34 + z44)) rfl rfl (wr o58) rfl <| Ja ⟨rfl, rfl⟩, fun _ _ _ => Jj Jn XE3 (hS.rd (i := 0) rfl) rfl rfl o60 rfl <| Ja ⟨rfl, rfl⟩, og hS fun _ _ hS => Jo XU3 rfl rfl (JF (hS.rd (i := 0) rfl) o60) rfl <| Ja ⟨rfl, Jf _⟩, oD, oD, fun _ _ _ => Jj Jn XE3 (hS.rd (i := 2) rfl) rfl rfl o65 rfl <| Ja ⟨rfl, rfl⟩, og hS fun _ _ hS => Jo XU3 rfl rfl (JF (hS.rd (i := 2) rfl) o65) rfl <| Ja ⟨rfl, Jf _⟩, oD, oD, fun _ _ _ => Jj Jn XE3 (hS.rd (i := 1) rfl) rfl rfl o70 rfl <| Ja ⟨rfl, rfl⟩, og hS fun _ _ hS => Jo XU3 rfl rfl (JF (hS.rd (i := 1) rfl) o70) rfl <| Ja ⟨rfl, Jf _⟩, fun _ _ _ => WL.mul (r := ((gi x14 z34) * (gi x19 z44))) rfl rfl (wr o73) rfl <| Ja ⟨rfl, rfl⟩, fun _ _ _ => WL.add (r := ((gi x43 (z34 + z44)) + ((gi x14 z34) * (gi x19 z44)))) rfl rfl (wr o75) rfl <| Ja ⟨rfl, rfl⟩, fun _ _ _ => Jc (off := 0) JE rfl rfl <| Ja ⟨rfl, rfl⟩, og hS fun _ _ hS => Jl 3 0 XU3 hS rfl rfl rfl ⟨rfl, rfl⟩ <| Ja ⟨rfl, Jf _⟩, fun _ _ _ => JR (r := (((gi x43 (z34 + z44)) + ((gi x14 z34) * (gi x19 z44))).tmod Pf)) rfl rfl o79 rfl rfl <| Ja ⟨rfl, rfl⟩, trivial⟩
   intro w80 hT; have hS := hS.grow hT; refine JM 23 rfl ?_; obtain ⟨o81, hv⟩ := hv; refine Jj Jn XE3 (hS.rd (i := 0) rfl) rfl rfl o81 rfl <| Ja <| JM 24 rfl <| Jy (cs' := is (si x43 (z34 + z44) (((gi x43 (z34 + z44)) + ((gi x14 z34) * (gi x19 z44))).tmod Pf))) 0 (z34 + z44).toNat hS rfl XE3 rfl rfl rfl (Qv (hS.rd (i := 0) rfl) o81) (J7 _ _ _) ?_; intro w82 hS; refine Ja <| Qf <| Jb 2 ?_; obtain ⟨o83, hv⟩ := hv; refine WL.add (r := (z44 + 1)) rfl rfl (wr o83) rfl <| Jd 2 ?_; exact ⟨(si x43 (z34 + z44) (((gi x43 (z34 + z44)) + ((gi x14 z34) * (gi x19 z44))).tmod Pf), (z44 + 1)), sp rfl, hv.2, rfl, hv.1, hS⟩
  have hv := hv.2 (oF c48); refine Jq <| Jb 2 ?_; obtain ⟨o84, hv⟩ := hv; refine WL.add (r := (z34 + 1)) rfl rfl (wr o84) rfl <| Jd 2 ?_; exact ⟨(x43, (z34 + 1)), sp rfl, hv.2, rfl, hv.1, hS⟩
 have hv := hv.2 (oF c38); refine Jq <| Jb 3 <| Jc (off := 1) JG rfl rfl <| Jl 3 1 XU3 hS rfl rfl rfl ⟨rfl, rfl⟩ ?_; obtain ⟨o86, hv⟩ := hv; refine WL.mul (r := ((2 : Int) * Mf)) rfl rfl (wr o86) rfl ?_; obtain ⟨o87, hv⟩ := hv; refine WL.sub (r := (((2 : Int) * Mf) - (2 : Int))) rfl rfl (wr o87) rfl <| Jd 2 <| W.block ?_; obtain ⟨I94, μ95, hv, hk170⟩ := hv; refine Jt (σ := LI × Int) (fun q w1 => match q with | (x92, z93) => I94 x92 z93 /\ St TT w none w1 [.row 3 1 A26 ((((2 : Int) * Mf) - (1 : Int)).toNat) ((((2 : Int) * Mf) - (1 : Int)).toNat) (is x92), nR 3 A20 x19 k21, nR 3 A15 x14 k16, .row 24 3 (nA g11) 1 1 [nI Pf, nI Mf, nS Af mf kf]]) (fun (x92, z93) => [(3, nP g11), (6, nI 0), (9, .slice A26 ((((2 : Int) * Mf) - (1 : Int)).toNat) ((((2 : Int) * Mf) - (1 : Int)).toNat)), (12, nI z93)]) (fun (x92, z93) => μ95 x92 z93) (x33, (((2 : Int) * Mf) - (2 : Int))) ⟨hv, hS⟩ ⟨rfl, rfl, rfl, rfl, trivial⟩ ?_; rintro ⟨x92, z93⟩ w96 ⟨hv, hS⟩; have hv := hk170 x92 z93 hv; refine Jb 4 <| Jc (off := 1) JG rfl rfl <| Jl 3 1 XU3 hS rfl rfl rfl ⟨rfl, rfl⟩ <| Jd 2 <| Je rfl (fun c97 => ?_) (fun c97 => ?_)
 .have hv := hv.1 (oT c97); refine Ji <| Jr <| W.block <| Jb 4 <| W.block ?_; obtain ⟨I104, μ105, hv, hk157⟩ := hv; refine Jt (σ := LI × Int) (fun q w1 => match q with | (x102, z103) => I104 x102 z103 /\ St TT w none w1 [.row 3 1 A26 ((((2 : Int) * Mf) - (1 : Int)).toNat) ((((2 : Int) * Mf) - (1 : Int)).toNat) (is x102), nR 3 A20 x19 k21, nR 3 A15 x14 k16, .row 24 3 (nA g11) 1 1 [nI Pf, nI Mf, nS Af mf kf]]) (fun (x102, z103) => [(3, nP g11), (6, nI 0), (9, .slice A26 ((((2 : Int) * Mf) - (1 : Int)).toNat) ((((2 : Int) * Mf) - (1 : Int)).toNat)), (12, nI z93), (13, nI z103), (68, .bool (decide (Mf <= z93)))]) (fun (x102, z103) => μ105 x102 z103) (x92, (0 : Int)) ⟨hv, hS⟩ ⟨rfl, rfl, rfl, rfl, rfl, rfl, trivial⟩ ?_; rintro ⟨x102, z103⟩ w106 ⟨hv, hS⟩; have hv := hk157 x102 z103 hv; refine Jb 4 <| Jc (off := 1) JG rfl rfl <| Jl 3 1 XU3 hS rfl rfl rfl ⟨rfl, rfl⟩ <| Jd 2 <| Je rfl (fun c107 => ?_) (fun c107 => ?_)
  .have hv := hv.1 (oT c107); refine Ji <| Jr <| W.block ?_; obtain ⟨o113, hv⟩ := hv; obtain ⟨o116, hv⟩ := hv; obtain ⟨o122, hv⟩ := hv; obtain ⟨o125, hv⟩ := hv; obtain ⟨o127, hv⟩ := hv; obtain ⟨o134, hv⟩ := hv; obtain ⟨o137, hv⟩ := hv; obtain ⟨o142, hv⟩ := hv; obtain ⟨o145, hv⟩ := hv; obtain ⟨o147, hv⟩ := hv; obtain ⟨o151, hv⟩ := hv; refine JH 33 [⟨[], [9], true⟩, ⟨[], [12], true⟩, ⟨[], [3], true⟩, ⟨[2], [], false⟩, ⟨[1, 3], [], true⟩, ⟨[], [13], true⟩, ⟨[4, 5], [], true⟩, ⟨[], [9], true⟩, ⟨[], [12], true⟩, ⟨[], [3], true⟩, ⟨[9], [], false⟩, ⟨[8, 10], [], true⟩, ⟨[], [13], true⟩, ⟨[11, 12], [], true⟩, ⟨[7, 13], [], true⟩, ⟨[14], [], false⟩, ⟨[], [3], true⟩, ⟨[16], [], false⟩, ⟨[], [9], true⟩, ⟨[], [12], true⟩, ⟨[18, 19], [], true⟩, ⟨[20], [], false⟩, ⟨[17, 21], [], true⟩, ⟨[], [3], true⟩, ⟨[23], [], false⟩, ⟨[], [13], true⟩, ⟨[24, 25], [], true⟩, ⟨[26], [], false⟩, ⟨[22, 27], [], true⟩, ⟨[15, 28], [], true⟩, ⟨[], [3], true⟩, ⟨[30], [], false⟩, ⟨[29, 31], [], true⟩] [(77, .slice A26 ((((2 : Int) * Mf) - (1 : Int)).toNat) ((((2 : Int) * Mf) - (1 : Int)).toNat)), (78, nI z93), (79, .pointer (some ((⟨g11, 0, none⟩ : Addr).add 1))), (80, nI Mf), (81, nI (z93 - Mf)), (82, nI z103), (83, nI ((z93 - Mf) + z103)), (84, .slice A26 ((((2 : Int) * Mf) - (1 : Int)).toNat) ((((2 : Int) * Mf) - (1 : Int)).toNat)), (85, nI z93), (86, .pointer (some ((⟨g11, 0, none⟩ : Addr).add 1))), (87, nI Mf), (88, nI (z93 - Mf)), (89, nI z103), (90, nI ((z93 - Mf) + z103)), (91, .pointer (some ((JL A26).add (((z93 - Mf) + z103).toNat)))), (92, nI (gi x102 ((z93 - Mf) + z103))), (93, nP g11), (94, nI Pf), (95, .slice A26 ((((2 : Int) * Mf) - (1 : Int)).toNat) ((((2 : Int) * Mf) - (1 : Int)).toNat)), (96, nI z93), (97, .pointer (some ((JL A26).add z93.toNat))), (98, nI (gi x102 z93)), (99, nI (Pf - (gi x102 z93))), (100, .pointer (some ((⟨g11, 0, none⟩ : Addr).add 2))), (101, nS Af mf kf), (102, nI z103), (103, .pointer (some ((JL Af).add z103.toNat))), (104, nI (gi mf z103)), (105, nI ((Pf - (gi x102 z93)) * (gi mf z103))), (106, nI ((gi x102 ((z93 - Mf) + z103)) + ((Pf - (gi x102 z93)) * (gi mf z103)))), (107, nP g11), (108, nI Pf), (109, nI (((gi x102 ((z93 - Mf) + z103)) + ((Pf - (gi x102 z93)) * (gi mf z103))).tmod Pf))] Try.mixed (by kernel_rfl) rfl rfl ?_ ?_
   .refine ⟨oD, oD, fun _ _ _ => Jc (off := 1) JG rfl rfl <| Ja ⟨rfl, rfl⟩, og hS fun _ _ hS => Jl 3 1 XU3 hS rfl rfl rfl ⟨rfl, rfl⟩ <| Ja ⟨rfl, Jf _⟩, fun _ _ _ => WL.sub (r := (z93 - Mf)) rfl rfl (wr o113) rfl <| Ja ⟨rfl, rfl⟩, oD, fun _ _ _ => WL.add (r := ((z93 - Mf) + z103)) rfl rfl (wr o116) rfl <| Ja ⟨rfl, rfl⟩, oD, oD, fun _ _ _ => Jc (off := 1) JG rfl rfl <| Ja ⟨rfl, rfl⟩, og hS fun _ _ hS => Jl 3 1 XU3 hS rfl rfl rfl ⟨rfl, rfl⟩ <| Ja ⟨rfl, Jf _⟩, fun _ _ _ => WL.sub (r := (z93 - Mf)) rfl rfl (wr o122) rfl <| Ja ⟨rfl, rfl⟩, oD, fun _ _ _ => WL.add (r := ((z93 - Mf) + z103)) rfl rfl (wr o125) rfl <| Ja ⟨rfl, rfl⟩, fun _ _ _ => Jj Jn XE3 (hS.rd (i := 0) rfl) rfl rfl o127 rfl <| Ja ⟨rfl, rfl⟩, og hS fun _ _ hS => Jo XU3 rfl rfl (JF (hS.rd (i := 0) rfl) o127) rfl <| Ja ⟨rfl, Jf _⟩, fun _ _ _ => Jc (off := 0) JE rfl rfl <| Ja ⟨rfl, rfl⟩, og hS fun _ _ hS => Jl 3 0 XU3 hS rfl rfl rfl ⟨rfl, rfl⟩ <| Ja ⟨rfl, Jf _⟩, oD, oD, fun _ _ _ => Jj Jn XE3 (hS.rd (i := 0) rfl) rfl rfl o134 rfl <| Ja ⟨rfl, rfl⟩, og hS fun _ _ hS => Jo XU3 rfl rfl (JF (hS.rd (i := 0) rfl) o134) rfl <| Ja ⟨rfl, Jf _⟩, fun _ _ _ => WL.sub (r := (Pf - (gi x102 z93))) rfl rfl (wr o137) rfl <| Ja ⟨rfl, rfl⟩, fun _ _ _ => Jc (off := 2) Qa rfl rfl <| Ja ⟨rfl, rfl⟩, og hS fun _ _ hS => Jl 3 2 Jn hS rfl rfl rfl ⟨rfl, rfl⟩ <| Ja ⟨rfl, Jf _⟩, oD, fun _ _ _ => Jj Jn XE3 (hS.ro hf) rfl rfl o142 rfl <| Ja ⟨rfl, rfl⟩, og hS fun _ _ hS => Jo XU3 rfl rfl (JF (hS.ro hf) o142) rfl <| Ja ⟨rfl, Jf _⟩, fun _ _ _ => WL.mul (r := ((Pf - (gi x102 z93)) * (gi mf z103))) rfl rfl (wr o145) rfl <| Ja ⟨rfl, rfl⟩, fun _ _ _ => WL.add (r := ((gi x102 ((z93 - Mf) + z103)) + ((Pf - (gi x102 z93)) * (gi mf z103)))) rfl rfl (wr o147) rfl <| Ja ⟨rfl, rfl⟩, fun _ _ _ => Jc (off := 0) JE rfl rfl <| Ja ⟨rfl, rfl⟩, og hS fun _ _ hS => Jl 3 0 XU3 hS rfl rfl rfl ⟨rfl, rfl⟩ <| Ja ⟨rfl, Jf _⟩, fun _ _ _ => JR (r := (((gi x102 ((z93 - Mf) + z103)) + ((Pf - (gi x102 z93)) * (gi mf z103))).tmod Pf)) rfl rfl o151 rfl rfl <| Ja ⟨rfl, rfl⟩, trivial⟩
   intro w152 hT; have hS := hS.grow hT; refine JM 33 rfl ?_; obtain ⟨o153, hv⟩ := hv; refine Jj Jn XE3 (hS.rd (i := 0) rfl) rfl rfl o153 rfl <| Ja <| JM 34 rfl <| Jy (cs' := is (si x102 ((z93 - Mf) + z103) (((gi x102 ((z93 - Mf) + z103)) + ((Pf - (gi x102 z93)) * (gi mf z103))).tmod Pf))) 0 ((z93 - Mf) + z103).toNat hS rfl XE3 rfl rfl rfl (Qv (hS.rd (i := 0) rfl) o153) (J7 _ _ _) ?_; intro w154 hS; refine Ja <| Qf <| Jb 2 ?_; obtain ⟨o155, hv⟩ := hv; refine WL.add (r := (z103 + 1)) rfl rfl (wr o155) rfl <| Jd 2 ?_; exact ⟨(si x102 ((z93 - Mf) + z103) (((gi x102 ((z93 - Mf) + z103)) + ((Pf - (gi x102 z93)) * (gi mf z103))).tmod Pf), (z103 + 1)), sp rfl, hv.2, rfl, hv.1, hS⟩
  have hv := hv.2 (oF c107); refine Jq <| Jb 2 ?_; obtain ⟨o156, hv⟩ := hv; refine WL.sub (r := (z93 - 1)) rfl rfl (wr o156) rfl <| Jd 2 ?_; exact ⟨(x102, (z93 - 1)), sp rfl, hv.2, rfl, hv.1, hS⟩
 have hv := hv.2 (oF c97); refine Jq <| Jr ?_; obtain ⟨o163, hv⟩ := hv; obtain ⟨r165, o167, hv⟩ := hv; refine JH 7 [⟨[], [3], false⟩, ⟨[], [9], true⟩, ⟨[], [3], true⟩, ⟨[2], [], false⟩, ⟨[1, 3], [], true⟩, ⟨[0, 4], [], false⟩, ⟨[5], [], true⟩] [(111, .agg #[nI Pf, nI Mf, nS Af mf kf]), (112, .slice A26 ((((2 : Int) * Mf) - (1 : Int)).toNat) ((((2 : Int) * Mf) - (1 : Int)).toNat)), (113, .pointer (some ((⟨g11, 0, none⟩ : Addr).add 1))), (114, nI Mf), (115, .slice A26 ((x92.take Mf.toNat).length) ((((2 : Int) * Mf) - (1 : Int)).toNat)), (116, nI r165), (6, nI r165)] Try.mixed (by kernel_rfl) rfl rfl ?_ ?_
 . refine ⟨og hS fun _ _ hS => JK 3 J2 J6 hS rfl ⟨rfl, rfl⟩ rfl <| Ja ⟨rfl, Jf _⟩, oD, fun _ _ _ => Jc (off := 1) JG rfl rfl <| Ja ⟨rfl, rfl⟩, og hS fun _ _ hS => Jl 3 1 XU3 hS rfl rfl rfl ⟨rfl, rfl⟩ <| Ja ⟨rfl, Jf _⟩, fun _ _ _ => Jf4 Jn XE3 (hS.rd (i := 0) rfl) rfl rfl o163 rfl (x92.take Mf.toNat).length (Ja9 (hS.rd (i := 0) rfl) o163) <| Ja ⟨rfl, rfl⟩, ?_, oD, trivial⟩; intro w164 hE RR; have hS := hS.grow (hE rfl); refine WL.call XF50 rfl XN50 rfl rfl (JI (Jgg (hS.ro hf) (Jju (hS.rd (i := 0) rfl) o163) o167)) ?_; rintro _ w166 ⟨_, hGw166, hRww166, hNww166, r165q, rfl, rfl, he⟩; subst he; exact Ja ⟨rfl, hGw166⟩
 intro w169 hT; have hS := hS.grow hT; refine Qf <| W.ret <| ⟨_, rfl, Fin.nil ?_⟩
 exact (hS.pick [] rfl).fin rfl ⟨r165, rfl, rfl, hv⟩
def Qx (Pf : Int) (Mf : Int) (mf : LI) (x : Int) (Q : Int -> Prop) : Prop :=
  Jdg Pf Mf mf x (fun r14 => ((r14 = 0) -> (Q 0)) /\ (¬ (r14 = 0) -> (∃ (I22 : Int -> Int -> Prop) (μ23 : Int -> Int -> Nat), I22 1 r14 /\ ∀ (z20 : Int) (z21 : Int), (I22 z20 z21 -> (((z21 ≠ 1) -> ((I64 (z20 + 1)) /\ (Jbw Pf Mf mf z21 r14 (fun r28 => I22 (z20 + 1) r28 /\ μ23 (z20 + 1) r28 < μ23 z20 z21)))) /\ (¬ (z21 ≠ 1) -> Q z20))))))
theorem Jbf {w : World} {Q : Int -> Prop} {Pf : Int} {Mf : Int} {mf : LI} {x : Int} {Bf : Nat} {Af : Option Addr} {nf kf : Nat} (hf : Rd Bf w 1 Af nf kf (is mf)) (hv : Qx Pf Mf mf x Q) :
   Calls Try.prog 17 #[.agg #[.int .i64 Pf, .int .i64 Mf, .slice Af nf kf], .int .i64 x] w <| Rt w fun v Qr => ∃ (r0 : Int), v = .int .i64 r0 /\ Qr = [] /\ Q r0 := by
 have hnf := hf.ilen; subst hnf; refine Jh <| Jg (vs := [.agg #[nI Pf, nI Mf, nS Af mf kf], nI x]) [4] XF17 rfl rfl rfl rfl ?_; have hS := Jk w; unfold Qx at hv; refine Jb 2 <| JC (z := 3) (cs := [nI Pf, nI Mf, nS Af mf kf]) hS rfl rfl rfl rfl ?_; intro g11 w12 hS; refine Jd 2 <| Jb 2 <| JK 0 J2 J6 hS rfl ⟨rfl, rfl⟩ rfl <| Jp rfl rfl <| SL.call hS (Jih (hS.ro hf) hv) XF34 rfl XN34 rfl rfl ?_; rintro _ _ w13 ⟨r14, rfl, rfl, hv⟩ hGw13 hS; have hS := hS.n0; refine Jd 2 <| Jb 6 <| Je rfl (fun c15 => ?_) (fun c15 => ?_)
 .have hv := hv.1 (oT c15); refine Jb 4 <| W.ret <| ⟨_, rfl, Fin.nil ?_⟩
  exact (hS.pick [] rfl).fin rfl ⟨(0 : Int), rfl, rfl, hv⟩
 have hv := hv.2 (oF c15); refine Ji <| Jb 10 <| W.block ?_; obtain ⟨I22, μ23, hv, hk29⟩ := hv; refine Jt (σ := Int × Int) (fun q w1 => match q with | (z20, z21) => I22 z20 z21 /\ St TT w none w1 [.row 24 3 (nA g11) 1 1 [nI Pf, nI Mf, nS Af mf kf]]) (fun (z20, z21) => [(1, nI r14), (2, nP g11), (4, nI 0), (5, nI z20), (6, nI z21)]) (fun (z20, z21) => μ23 z20 z21) ((1 : Int), r14) ⟨hv, hS⟩ ⟨rfl, rfl, rfl, rfl, rfl, trivial⟩ ?_; rintro ⟨z20, z21⟩ w24 ⟨hv, hS⟩; have hv := hk29 z20 z21 hv; refine Jb 6 <| Je rfl (fun c25 => ?_) (fun c25 => ?_)
 .have hv := hv.1 (oT c25); refine Ji <| Jr <| W.block <| Jb 2 ?_; obtain ⟨o26, hv⟩ := hv; refine WL.add (r := (z20 + 1)) rfl rfl (wr o26) rfl <| Jd 2 <| Jv <| JK 0 J2 J6 hS rfl ⟨rfl, rfl⟩ rfl <| Jd 2 <| SL.call hS (Jj6 (hS.ro hf) hv) XF35 rfl XN35 rfl rfl ?_; rintro _ _ w27 ⟨r28, rfl, rfl, hv⟩ hGw27 hS; have hS := hS.n0; refine Jd 2 ?_; exact ⟨((z20 + 1), r28), sp rfl, hv.2, rfl, hv.1, hS⟩
 have hv := hv.2 (oF c25); refine Jq <| Jb 5 <| W.ret <| ⟨_, rfl, Fin.nil ?_⟩
 exact (hS.pick [] rfl).fin rfl ⟨z20, rfl, rfl, hv⟩
end Go.Proofs.Ytgcdbnpenhclfaa
namespace Go.Proofs.Ytgcdbnpenhclfaa
open Go.RowKit
def QR (x : Int) (Q : Bool -> Prop) : Prop :=
  (((1 : Int) <= x) -> (Q (decide (x <= 2147483647)))) /\ (¬ ((1 : Int) <= x) -> Q false)
theorem Z9 {w : World} {Q : Bool -> Prop} {x : Int}  (hv : QR x Q) :
   Calls Try.prog 46 #[.int .i64 x] w <| Rt w fun v Qr => ∃ (r0 : Bool), v = .bool r0 /\ Qr = [] /\ Q r0 := by
 refine Jh <| Jg (vs := [nI x]) [2] XF46 rfl rfl rfl rfl ?_; have hS := Jk w; unfold QR at hv; refine Jb 8 <| Jp rfl rfl ?_; by_cases g11 : (1 : Int) <= x
 .have hv := hv.1 g11; rw [decide_eq_true g11]; refine Jd 7 <| W.ret <| ⟨_, rfl, Fin.nil ?_⟩
  exact (hS.pick [] rfl).fin rfl ⟨(decide (x <= 2147483647)), rfl, rfl, hv⟩
 have hv := hv.2 g11; rw [decide_eq_false g11]; refine Jd 5 <| W.ret <| ⟨_, rfl, Fin.nil ?_⟩
 exact (hS.pick [] rfl).fin rfl ⟨false, rfl, rfl, hv⟩
def YT (x : Int) (Q : Int -> Prop) : Prop :=
  ∃ (I14 : Int -> Prop) (μ15 : Int -> Nat), I14 0 /\ ∀ (z13 : Int), (I14 z13 -> (((z13 < 3) -> ((0 <= z13 /\ z13 < (3 : Nat)) /\ (((gi ([(2 : Int), (3 : Int), (5 : Int)] : LI) z13) ≠ 0) /\ ((((x.tmod (gi ([(2 : Int), (3 : Int), (5 : Int)] : LI) z13)) = 0) -> (Q (gi ([(2 : Int), (3 : Int), (5 : Int)] : LI) z13))) /\ (¬ ((x.tmod (gi ([(2 : Int), (3 : Int), (5 : Int)] : LI) z13)) = 0) -> ((I64 (z13 + 1)) /\ (I14 (z13 + 1) /\ μ15 (z13 + 1) < μ15 z13))))))) /\ (¬ (z13 < 3) -> (∃ J23 : Int -> Prop, (∃ (I27 : Int -> Prop) (μ28 : Int -> Nat), I27 0 /\ ∀ (z26 : Int), (I27 z26 -> ((I64 (z26 * z26)) /\ ((((z26 * z26) <= x) -> (∃ (I35 : Int -> Prop) (μ36 : Int -> Nat), I35 0 /\ ∀ (z34 : Int), (I35 z34 -> (((z34 < 8) -> ((0 <= z34 /\ z34 < (8 : Nat)) /\ ((I64 (z26 + (gi ([(7 : Int), (11 : Int), (13 : Int), (17 : Int), (19 : Int), (23 : Int), (29 : Int), (31 : Int)] : LI) z34))) /\ (((z26 + (gi ([(7 : Int), (11 : Int), (13 : Int), (17 : Int), (19 : Int), (23 : Int), (29 : Int), (31 : Int)] : LI) z34)) ≠ 0) /\ ((((x.tmod (z26 + (gi ([(7 : Int), (11 : Int), (13 : Int), (17 : Int), (19 : Int), (23 : Int), (29 : Int), (31 : Int)] : LI) z34))) = 0) -> ((I64 (z26 + (gi ([(7 : Int), (11 : Int), (13 : Int), (17 : Int), (19 : Int), (23 : Int), (29 : Int), (31 : Int)] : LI) z34))) /\ (J23 (z26 + (gi ([(7 : Int), (11 : Int), (13 : Int), (17 : Int), (19 : Int), (23 : Int), (29 : Int), (31 : Int)] : LI) z34))))) /\ (¬ ((x.tmod (z26 + (gi ([(7 : Int), (11 : Int), (13 : Int), (17 : Int), (19 : Int), (23 : Int), (29 : Int), (31 : Int)] : LI) z34))) = 0) -> ((I64 (z34 + 1)) /\ (I35 (z34 + 1) /\ μ36 (z34 + 1) < μ36 z34)))))))) /\ (¬ (z34 < 8) -> ((I64 (z26 + 30)) /\ (I27 (z26 + 30) /\ μ28 (z26 + 30) < μ28 z26))))))) /\ (¬ ((z26 * z26) <= x) -> J23 x))))) /\ ∀ (z22 : Int), (J23 z22 -> Q z22)))))
theorem Jgi {w : World} {Q : Int -> Prop} {x : Int}  (hv : YT x Q) :
   Calls Try.prog 47 #[.int .i64 x] w <| Rt w fun v Qr => ∃ (r0 : Int), v = .int .i64 r0 /\ Qr = [] /\ Q r0 := by
 refine Jh <| Jg (vs := [nI x]) [2] XF47 rfl rfl rfl rfl ?_; have hS := Jk w; unfold YT at hv; refine Jb 4 <| Jk0 <| Jb 3 <| Jaz (vs := [nI 2, nI 3, nI 5]) (cells := #[nI 2, nI 3, nI 5]) rfl (by kernel_rfl) rfl <| Jd 2 <| W.block ?_; obtain ⟨I14, μ15, hv, hk50⟩ := hv; refine Jt (σ := Int) (fun z13 w1 => I14 z13 /\ St TT w none w1 []) (fun z13 => [(0, nI x), (2, nI 0), (9, .agg #[nI 2, nI 3, nI 5]), (10, nI z13)]) (fun z13 => μ15 z13) (0 : Int) ⟨hv, hS⟩ ⟨rfl, rfl, rfl, rfl, trivial⟩ ?_; rintro z13 w16 ⟨hv, hS⟩; have hv := hk50 z13 hv; refine Jb 5 <| Je rfl (fun c17 => ?_) (fun c17 => ?_)
 .have hv := hv.1 (oT c17); refine Ji <| Jr <| W.block <| Jb 2 ?_; obtain ⟨o18, hv⟩ := hv; refine Z3 (l := ([(2 : Int), (3 : Int), (5 : Int)] : LI)) Try.arr83 rfl rfl rfl o18 rfl <| Jd 2 <| Jb 4 ?_; obtain ⟨o19, hv⟩ := hv; refine JR (r := (x.tmod (gi ([(2 : Int), (3 : Int), (5 : Int)] : LI) z13))) rfl rfl o19 rfl rfl <| Jd 2 <| Je rfl (fun c20 => ?_) (fun c20 => ?_)
  .have hv := hv.1 (oT c20); refine Jb 5 <| W.ret <| ⟨_, rfl, Fin.nil ?_⟩
   exact (hS.pick [] rfl).fin rfl ⟨(gi ([(2 : Int), (3 : Int), (5 : Int)] : LI) z13), rfl, rfl, hv⟩
  have hv := hv.2 (oF c20); refine Ji <| Jv ?_; obtain ⟨o21, hv⟩ := hv; refine WL.add (r := (z13 + 1)) rfl rfl (wr o21) rfl <| Jd 2 ?_; exact ⟨(z13 + 1), sp rfl, hv.2, rfl, hv.1, hS⟩
 have hv := hv.2 (oF c17); refine Jq <| Jb 6 <| Jk3 <| Jb 5 ?_; obtain ⟨J23, hv, hk49⟩ := hv; refine YA (σ := Int) (fun z22 w1 => J23 z22 /\ St TT w none w1 []) (fun z22 => [(2, nI 0), (5, nI z22)]) ?_ ?_
 .refine W.block ?_; obtain ⟨I27, μ28, hv, hk47⟩ := hv; refine Jt (σ := Int) (fun z26 w1 => I27 z26 /\ St TT w none w1 []) (fun z26 => [(0, nI x), (2, nI 0), (5, nI x), (6, nI z26)]) (fun z26 => μ28 z26) (0 : Int) ⟨hv, hS⟩ ⟨rfl, rfl, rfl, rfl, trivial⟩ ?_; rintro z26 w29 ⟨hv, hS⟩; have hv := hk47 z26 hv; refine Jb 5 ?_; obtain ⟨o30, hv⟩ := hv; refine WL.mul (r := (z26 * z26)) rfl rfl (wr o30) rfl <| Jd 3 <| Je rfl (fun c31 => ?_) (fun c31 => ?_)
  .have hv := hv.1 (oT c31); refine Ji <| Jr <| W.block <| Jb 2 <| Jaz (vs := [nI 7, nI 11, nI 13, nI 17, nI 19, nI 23, nI 29, nI 31]) (cells := #[nI 7, nI 11, nI 13, nI 17, nI 19, nI 23, nI 29, nI 31]) rfl (by kernel_rfl) rfl <| Jd 2 <| W.block ?_; obtain ⟨I35, μ36, hv, hk46⟩ := hv; refine Jt (σ := Int) (fun z34 w1 => I35 z34 /\ St TT w none w1 []) (fun z34 => [(0, nI x), (2, nI 0), (5, nI x), (6, nI z26), (24, .bool (decide ((z26 * z26) <= x))), (27, .agg #[nI 7, nI 11, nI 13, nI 17, nI 19, nI 23, nI 29, nI 31]), (28, nI z34)]) (fun z34 => μ36 z34) (0 : Int) ⟨hv, hS⟩ ⟨rfl, rfl, rfl, rfl, rfl, rfl, rfl, trivial⟩ ?_; rintro z34 w37 ⟨hv, hS⟩; have hv := hk46 z34 hv; refine Jb 5 <| Je rfl (fun c38 => ?_) (fun c38 => ?_)
   .have hv := hv.1 (oT c38); refine Ji <| Jr <| W.block <| Jb 2 ?_; obtain ⟨o39, hv⟩ := hv; refine Z3 (l := ([(7 : Int), (11 : Int), (13 : Int), (17 : Int), (19 : Int), (23 : Int), (29 : Int), (31 : Int)] : LI)) Try.arr84 rfl rfl rfl o39 rfl <| Jd 2 <| Jb 5 ?_; obtain ⟨o40, hv⟩ := hv; refine WL.add (r := (z26 + (gi ([(7 : Int), (11 : Int), (13 : Int), (17 : Int), (19 : Int), (23 : Int), (29 : Int), (31 : Int)] : LI) z34))) rfl rfl (wr o40) rfl ?_; obtain ⟨o41, hv⟩ := hv; refine JR (r := (x.tmod (z26 + (gi ([(7 : Int), (11 : Int), (13 : Int), (17 : Int), (19 : Int), (23 : Int), (29 : Int), (31 : Int)] : LI) z34)))) rfl rfl o41 rfl rfl <| Jd 2 <| Je rfl (fun c42 => ?_) (fun c42 => ?_)
    .have hv := hv.1 (oT c42); refine Jb 4 ?_; obtain ⟨o43, hv⟩ := hv; refine WL.add (r := (z26 + (gi ([(7 : Int), (11 : Int), (13 : Int), (17 : Int), (19 : Int), (23 : Int), (29 : Int), (31 : Int)] : LI) z34))) rfl rfl (wr o43) rfl <| Jd 2 <| Jq ?_; exact ⟨(z26 + (gi ([(7 : Int), (11 : Int), (13 : Int), (17 : Int), (19 : Int), (23 : Int), (29 : Int), (31 : Int)] : LI) z34)), ⟨rfl, rfl, trivial⟩, rfl, hv, hS⟩
    have hv := hv.2 (oF c42); refine Ji <| Jv ?_; obtain ⟨o44, hv⟩ := hv; refine WL.add (r := (z34 + 1)) rfl rfl (wr o44) rfl <| Jd 2 ?_; exact ⟨(z34 + 1), sp rfl, hv.2, rfl, hv.1, hS⟩
   have hv := hv.2 (oF c38); refine Jq <| Jb 2 ?_; obtain ⟨o45, hv⟩ := hv; refine WL.add (r := (z26 + 30)) rfl rfl (wr o45) rfl <| Jd 2 ?_; exact ⟨(z26 + 30), sp rfl, hv.2, rfl, hv.1, hS⟩
  have hv := hv.2 (oF c31); refine Jq ?_; exact ⟨x, ⟨rfl, rfl, trivial⟩, rfl, hv, hS⟩
 rintro z22 w48 ⟨hv, hS⟩; have hv := hk49 z22 hv; refine Jb 5 <| W.ret <| ⟨_, rfl, Fin.nil ?_⟩
 exact (hS.pick [] rfl).fin rfl ⟨z22, rfl, rfl, hv⟩
def Yk (x : Int) (Q : List (Int × Int) × Int -> Prop) : Prop :=
  QR x (fun r12 => (((!r12) = true) -> (Q (([] : List (Int × Int)), (6 : Int)))) /\ ((!r12) = false -> (∃ (I29 : Int -> List (Int × Int) -> Prop) (μ30 : Int -> List (Int × Int) -> Nat), I29 x ([] : List (Int × Int)) /\ ∀ (z24 : Int) (x25 : List (Int × Int)), (I29 z24 x25 -> ((((1 : Int) < z24) -> (YT z24 (fun r34 => ∃ (I41 : Int -> Int -> Prop) (μ42 : Int -> Int -> Nat), I41 z24 0 /\ ∀ (z39 : Int) (z40 : Int), (I41 z39 z40 -> ((r34 ≠ 0) /\ ((((z39.tmod r34) = (0 : Int)) -> ((r34 ≠ 0 /\ I64 (z39.tdiv r34)) /\ ((I64 (z40 + 1)) /\ (I41 (z39.tdiv r34) (z40 + 1) /\ μ42 (z39.tdiv r34) (z40 + 1) < μ42 z39 z40)))) /\ (¬ ((z39.tmod r34) = (0 : Int)) -> ((((x25.length : Nat) + (1 : Nat) : Int) * 16 <= 140737488355328) /\ (I29 z39 (x25 ++ ([(r34, z40)] : List (Int × Int))) /\ μ30 z39 (x25 ++ ([(r34, z40)] : List (Int × Int))) < μ30 z24 x25))))))))) /\ (¬ ((1 : Int) < z24) -> (Q (x25, (0 : Int)))))))))
theorem Jd3 {w : World} {Q : List (Int × Int) × Int -> Prop} {x : Int}  (hv : Yk x Q) :
   Calls Try.prog 33 #[.int .i64 x] w <| Rt w fun v Qr => ∃ (r0 : List (Int × Int)) (r1 : Int) (A0 : Option Addr) (k0 : Nat), v = .tuple #[.slice A0 r0.length k0, .int .i64 r1] /\ Qr = [.row 65 2 A0 r0.length k0 (prs r0)] /\ Q (r0, r1) := by
 refine Jh <| Jg (vs := [nI x]) [2, 3] XF33 rfl rfl rfl rfl ?_; have hS := Jk w; unfold Yk at hv; refine Jb 9 <| SL.call hS (Z9  hv) XF46 rfl XN46 rfl rfl ?_; rintro _ _ w11 ⟨r12, rfl, rfl, hv⟩ hGw11 hS; have hS := hS.n0; refine Jd 2 <| Je rfl (fun c13 => ?_) (fun c13 => ?_)
 .have hv := hv.1 (c13); refine Jb 5 <| W.ret ?_; have hS := hS.nil (e := 65) (z := 2)
  change St _ _ _ _ [_] at hS
  refine ⟨_, rfl, Fin.nil ?_⟩; exact (hS.pick [0] rfl).fin rfl ⟨([] : List (Int × Int)), (6 : Int), none, 0, rfl, rfl, hv⟩
 have hv := hv.2 (c13); refine Ji <| Jb 5 <| W.block ?_; obtain ⟨I29, μ30, hv, hk56⟩ := hv; have hS := hS.nil (e := 65) (z := 2); have hm0 : 0 = ([] : List (Int × Int)).length := (Rd.plen (l := ([] : List (Int × Int))) (hS.rd (i := 0) rfl)).symm; have hS := hS.relen (i := 0) rfl hm0
 change St _ _ _ _ [_] at hS
 refine Jt (σ := Int × List (Int × Int) × Option Addr × Nat) (fun q w1 => match q with | (z24, x25, A26, k27) => I29 z24 x25 /\ St TT w none w1 [.row 65 2 A26 x25.length k27 (prs x25)]) (fun (z24, x25, A26, k27) => [(0, nI z24), (2, .slice none 0 0), (3, nI 0), (4, nS A26 x25 k27)]) (fun (z24, x25, A26, k27) => μ30 z24 x25) (x, ([] : List (Int × Int)), none, 0) ⟨hv, hS⟩ ⟨rfl, rfl, rfl, (sm (by first | rfl | assumption | omega)), trivial⟩ ?_; rintro ⟨z24, x25, A26, k27⟩ w31 ⟨hv, hS⟩; have hv := hk56 z24 x25 hv; refine Jb 6 <| Je rfl (fun c32 => ?_) (fun c32 => ?_)
 .have hv := hv.1 (oT c32); refine Ji <| W.block <| Jb 3 <| SL.call hS (Jgi  hv) XF47 rfl XN47 rfl rfl ?_; rintro _ _ w33 ⟨r34, rfl, rfl, hv⟩ hGw33 hS; have hS := hS.n0; refine Jd 3 <| Jr <| W.block ?_; obtain ⟨I41, μ42, hv, hk55⟩ := hv; refine Jt (σ := Int × Int) (fun q w1 => match q with | (z39, z40) => I41 z39 z40 /\ St TT w none w1 [.row 65 2 A26 x25.length k27 (prs x25)]) (fun (z39, z40) => [(0, nI z39), (2, .slice none 0 0), (3, nI 0), (4, nS A26 x25 k27), (5, nI r34), (6, nI z40), (11, .bool (decide ((1 : Int) < z24)))]) (fun (z39, z40) => μ42 z39 z40) (z24, (0 : Int)) ⟨hv, hS⟩ ⟨rfl, rfl, rfl, rfl, rfl, rfl, rfl, trivial⟩ ?_; rintro ⟨z39, z40⟩ w43 ⟨hv, hS⟩; have hv := hk55 z39 z40 hv; refine Jb 5 ?_; obtain ⟨o44, hv⟩ := hv; refine JR (r := (z39.tmod r34)) rfl rfl o44 rfl rfl <| Jd 2 <| Je rfl (fun c45 => ?_) (fun c45 => ?_)
  .have hv := hv.1 (oT c45); refine Ji <| W.block <| Jb 4 ?_; obtain ⟨o46, hv⟩ := hv; refine Zf (r := (z39.tdiv r34)) rfl rfl o46.1 (wr o46.2) rfl <| Jd 2 <| Jb 2 ?_; obtain ⟨o47, hv⟩ := hv; refine WL.add (r := (z40 + 1)) rfl rfl (wr o47) rfl <| Jd 2 ?_; exact ⟨((z39.tdiv r34), (z40 + 1)), sp rfl, hv.2, rfl, hv.1, hS⟩
  have hv := hv.2 (oF c45); refine Jq <| Jb 4 <| Qm (cells := #[nI r34, nI z40]) XB65 rfl rfl rfl <| Jk9 (cells := [nI r34, nI z40]) hS XU61 Jhd rfl ⟨_, rfl, rfl⟩ rfl rfl ?_; intro A48 w49 hS
  change St _ _ _ _ [_, _] at hS
  obtain ⟨o51, hv⟩ := hv; refine SL.append (cs := prs x25) (cs' := prs ([(r34, z40)] : List (Int × Int))) 1 ((x25 ++ ([(r34, z40)] : List (Int × Int))).length) (prs (x25 ++ ([(r34, z40)] : List (Int × Int)))) hS rfl XU61 Jhd (hS.rd (i := 0) rfl) (Jfd _) rfl rfl (apk o51).1 (apk o51).2 (prs_ap (hS.rd (i := 1) rfl) (hS.rd (i := 0) rfl)) (ZL _ _) rfl ?_; intro A52 k53 w54 hS; refine Jd 2 ?_; have hS := hS.pick [1] rfl; exact ⟨(z39, x25 ++ ([(r34, z40)] : List (Int × Int)), A52, k53), sp rfl, hv.2, rfl, hv.1, hS⟩
 have hv := hv.2 (oF c32); refine Jq <| Jb 6 <| W.ret <| ⟨_, rfl, Fin.nil ?_⟩
 exact (hS.pick [0] rfl).fin rfl ⟨x25, (0 : Int), A26, k27, rfl, rfl, hv⟩
def Q7 (x : Int) (Q : LI -> Prop) : Prop :=
  Yk x (fun (x12, r13) => (0 <= (x12.length : Int) /\ (x12.length : Int) * 8 <= 281474976710656 /\ (x12.length : Int) <= 281474976710656) /\ (∃ (I27 : LI -> Int -> Prop) (μ28 : LI -> Int -> Nat), I27 (List.replicate (x12.length : Int).toNat (0 : Int)) (0 : Int) /\ ∀ (x25 : LI) (z26 : Int), (I27 x25 z26 -> (((z26 < (x12.length : Int)) -> ((0 <= z26 /\ z26 < (x12.length : Nat)) /\ ((0 <= z26 /\ z26 < ((x12.length : Int).toNat : Nat)) /\ ((I64 (z26 + 1)) /\ (I27 (si x25 z26 ((gpr x12 z26).1)) (z26 + 1) /\ μ28 (si x25 z26 ((gpr x12 z26).1)) (z26 + 1) < μ28 x25 z26))))) /\ (¬ (z26 < (x12.length : Int)) -> Q x25)))))
theorem Jap {w : World} {Q : LI -> Prop} {x : Int}  (hv : Q7 x Q) :
  Calls Try.prog 16 #[.int .i64 x] w <| Rt w fun v Qr => ∃ (x : LI)  (A : Option Addr) (c : Nat), v = .slice A x.length c /\ Qr = [.row 3 1 A x.length c (is x)] /\ Q x := by
 refine Jh <| Jg (vs := [nI x]) [2] XF16 rfl rfl rfl rfl ?_; have hS := Jk w; unfold Q7 at hv; refine Jb 7 <| SL.call hS (Jd3  hv) XF33 rfl XN33 rfl rfl ?_; rintro _ _ w11 ⟨x12, r13, A14, k15, rfl, rfl, hv⟩ hGw11 hS; have hS := hS.n1; refine Jd 6 <| Jb 3 <| WL.len XU61 rfl rfl ?_; obtain ⟨o17, hv⟩ := hv; refine QU (J := (x12.length : Int)) hS Jn XE3 rfl rfl o17 (QK _) rfl ?_; intro A18 w19 hS; refine Jd 2 <| Jb 4 <| WL.len XU61 rfl rfl <| Jd 2 <| W.block ?_; obtain ⟨I27, μ28, hv, hk38⟩ := hv; refine Jt (σ := LI × Int) (fun q w1 => match q with | (x25, z26) => I27 x25 z26 /\ St TT w none w1 [.row 3 1 A18 ((x12.length : Int).toNat) ((x12.length : Int).toNat) (is x25), .row 65 2 A14 x12.length k15 (prs x12)]) (fun (x25, z26) => [(2, .slice none 0 0), (5, .slice A18 ((x12.length : Int).toNat) ((x12.length : Int).toNat)), (16, nS A14 x12 k15), (17, nI (x12.length : Int)), (18, nI z26)]) (fun (x25, z26) => μ28 x25 z26) (List.replicate (x12.length : Int).toNat (0 : Int), (0 : Int)) ⟨hv, hS⟩ ⟨rfl, rfl, rfl, rfl, rfl, trivial⟩ ?_; rintro ⟨x25, z26⟩ w29 ⟨hv, hS⟩; have hv := hk38 x25 z26 hv; refine Jb 5 <| Je rfl (fun c30 => ?_) (fun c30 => ?_)
 .have hv := hv.1 (oT c30); refine Ji <| Jr <| W.block <| Jb 3 ?_; obtain ⟨o31, hv⟩ := hv; refine Jez XU61 Jhd (hS.rd (i := 1) rfl) rfl rfl o31 rfl <| Z2 (cs := [nI ((gpr x12 z26).1), nI ((gpr x12 z26).2)]) Jhd XG65 rfl rfl (vpart (prRd (hS.rd (i := 1) rfl) o31) 0 rfl) rfl <| SL.alloc (cs := [nI 0, nI 0]) hS Jhd rfl rfl ?_; intro g32 w33 hS; refine JZ rfl rfl <| J0 (cs := [nI ((gpr x12 z26).1), nI ((gpr x12 z26).2)]) 0 hS rfl Jhd rfl rfl rfl rfl rfl ?_; intro w34 hS; refine Ja <| Jb 3 <| Jc (off := 0) XA65_0 rfl rfl <| Jl 0 0 XU3 hS rfl rfl rfl ⟨rfl, rfl⟩ ?_; obtain ⟨o35, hv⟩ := hv; refine Jj Jn XE3 (hS.rd (i := 1) rfl) rfl rfl o35 rfl <| Jy (cs' := is (si x25 z26 ((gpr x12 z26).1))) 1 z26.toNat hS rfl XE3 rfl rfl rfl (Qv (hS.rd (i := 1) rfl) o35) (J7 _ _ _) ?_; intro w36 hS; refine Ja <| Jv ?_; obtain ⟨o37, hv⟩ := hv; refine WL.add (r := (z26 + 1)) rfl rfl (wr o37) rfl <| Jd 2 ?_; have hS := hS.pick [1, 2] rfl; exact ⟨(si x25 z26 ((gpr x12 z26).1), (z26 + 1)), sp rfl, hv.2, rfl, hv.1, hS⟩
 have hv := hv.2 (oF c30); refine Jq <| Jb 5 <| W.ret ?_; have hm := (hS.rd (i := 0) rfl).ilen; have hS := hS.relen (i := 0) rfl hm.symm; refine ⟨_, rfl, Fin.nil ?_⟩; exact ⟨_, hS.ext, (hS.pick [0] rfl).rows, YY (hS.pick [0] rfl).rows rfl, ⟨x25, A18, (x12.length : Int).toNat, (by rw [hm]), rfl, hv⟩⟩
def YU (Fg : GFv) (x : Int) (n : Int) (Q : Bool -> Prop) : Prop :=
  Jdh Fg x n (fun (r12, r13) => Q (decide (r12 = 1)))
theorem Jci {w : World} {Q : Bool -> Prop} {Fg : GFv} {x : Int} {n : Int} {ag : Addr} {Bg : Nat} (hgg : GFR Bg w ag Fg) (hv : YU Fg x n Q) :
  Calls Try.prog 21 #[.pointer (some ag), .int .i64 x, .int .i64 n] w <| Rt w fun v Qr => ∃ (r0 : Bool), v = .bool r0 /\ Qr = [] /\ Q r0 := by
 have hgg_ := hgg; obtain ⟨Ag_mod, kg_mod, Ag_exp, kg_exp, Ag_log, kg_log, Ag_above, kg_above, hg_c, hg_mod, hg_exp, hg_log, hg_above⟩ := hgg_; refine Jh <| Jg (vs := [.pointer (some ag), nI x, nI n]) [6] XF21 rfl rfl rfl rfl ?_; have hS := Jk w; unfold YU at hv; refine Jb 9 <| SL.call hS (ok_Pow (GFR.ext (GFR.norm hgg) hS.ext) hv) XF12 rfl XN12 rfl rfl ?_; rintro _ _ w11 ⟨r12, r13, rfl, rfl, hv⟩ hGw11 hS; have hS := hS.n0; refine Jd 6 <| Jb 6 <| W.ret <| ⟨_, rfl, Fin.nil ?_⟩
 exact (hS.pick [] rfl).fin rfl ⟨(decide (r12 = 1)), rfl, rfl, hv⟩
def Zy (l : LI) (o : LI) (Q : Bool -> Prop) : Prop :=
  (((l.length : Int) ≠ (o.length : Int)) -> Q false) /\ (¬ ((l.length : Int) ≠ (o.length : Int)) -> (∃ (I15 : Int -> Prop) (μ16 : Int -> Nat), I15 0 /\ ∀ (z14 : Int), (I15 z14 -> (((z14 < (l.length : Int)) -> ((0 <= z14 /\ z14 < (l.length : Nat)) /\ ((0 <= z14 /\ z14 < (o.length : Nat)) /\ ((((gi l z14) ≠ (gi o z14)) -> Q false) /\ (¬ ((gi l z14) ≠ (gi o z14)) -> ((I64 (z14 + 1)) /\ (I15 (z14 + 1) /\ μ16 (z14 + 1) < μ16 z14))))))) /\ (¬ (z14 < (l.length : Int)) -> Q true)))))
theorem Jij {w : World} {Q : Bool -> Prop} {l : LI} {o : LI} {Bl : Nat} {Al : Option Addr} {nl kl : Nat} (hl : Rd Bl w 1 Al nl kl (is l)) {Bo : Nat} {Ao : Option Addr} {no ko : Nat} (ho : Rd Bo w 1 Ao no ko (is o)) (hv : Zy l o Q) :
   Calls Try.prog 20 #[.slice Al nl kl, .slice Ao no ko] w <| Rt w fun v Qr => ∃ (r0 : Bool), v = .bool r0 /\ Qr = [] /\ Q r0 := by
 have hnl := hl.ilen; subst hnl; have hno := ho.ilen; subst hno; refine Jh <| Jg (vs := [nS Al l kl, nS Ao o ko]) [4] XF20 rfl rfl rfl rfl ?_; have hS := Jk w; unfold Zy at hv; refine Jb 8 <| WL.len Jn rfl rfl <| Jp rfl rfl <| WL.len Jn rfl rfl <| Jd 2 <| Je rfl (fun c11 => ?_) (fun c11 => ?_)
 .have hv := hv.1 (oT c11); refine Jb 4 <| W.ret <| ⟨_, rfl, Fin.nil ?_⟩
  exact (hS.pick [] rfl).fin rfl ⟨false, rfl, rfl, hv⟩
 have hv := hv.2 (oF c11); refine Ji <| Jb 4 <| WL.len Jn rfl rfl <| Jd 2 <| W.block ?_; obtain ⟨I15, μ16, hv, hk33⟩ := hv; refine Jt (σ := Int) (fun z14 w1 => I15 z14 /\ St TT w none w1 []) (fun z14 => [(0, nS Al l kl), (1, nS Ao o ko), (4, .bool false), (12, nI (l.length : Int)), (13, nI z14)]) (fun z14 => μ16 z14) (0 : Int) ⟨hv, hS⟩ ⟨rfl, rfl, rfl, rfl, rfl, trivial⟩ ?_; rintro z14 w17 ⟨hv, hS⟩; have hv := hk33 z14 hv; refine Jb 5 <| Je rfl (fun c18 => ?_) (fun c18 => ?_)
 .have hv := hv.1 (oT c18); refine Ji <| Jr <| W.block <| Jb 6 ?_; obtain ⟨o22, hv⟩ := hv; obtain ⟨o27, hv⟩ := hv; refine JH 9 [⟨[], [0], true⟩, ⟨[], [5], true⟩, ⟨[0, 1], [], true⟩, ⟨[2], [], false⟩, ⟨[], [1], true⟩, ⟨[], [5], true⟩, ⟨[4, 5], [], true⟩, ⟨[6], [], false⟩, ⟨[3, 7], [], true⟩] [(16, nS Al l kl), (17, nI z14), (18, .pointer (some ((JL Al).add z14.toNat))), (19, nI (gi l z14)), (20, nS Ao o ko), (21, nI z14), (22, .pointer (some ((JL Ao).add z14.toNat))), (23, nI (gi o z14)), (24, .bool (decide ((gi l z14) ≠ (gi o z14))))] Try.mixed (by kernel_rfl) rfl rfl ?_ ?_
  .refine ⟨oD, oD, fun _ _ _ => Jj Jn XE3 (hS.ro hl) rfl rfl o22 rfl <| Ja ⟨rfl, rfl⟩, og hS fun _ _ hS => Jo XU3 rfl rfl (JF (hS.ro hl) o22) rfl <| Ja ⟨rfl, Jf _⟩, oD, oD, fun _ _ _ => Jj Jn XE3 (hS.ro ho) rfl rfl o27 rfl <| Ja ⟨rfl, rfl⟩, og hS fun _ _ hS => Jo XU3 rfl rfl (JF (hS.ro ho) o27) rfl <| Ja ⟨rfl, Jf _⟩, oD, trivial⟩
  intro w30 hT; have hS := hS.grow hT; refine Qf <| Je rfl (fun c31 => ?_) (fun c31 => ?_)
  .have hv := hv.1 (oT c31); refine Jb 4 <| W.ret <| ⟨_, rfl, Fin.nil ?_⟩
   exact (hS.pick [] rfl).fin rfl ⟨false, rfl, rfl, hv⟩
  have hv := hv.2 (oF c31); refine Ji <| Jv ?_; obtain ⟨o32, hv⟩ := hv; refine WL.add (r := (z14 + 1)) rfl rfl (wr o32) rfl <| Jd 2 ?_; exact ⟨(z14 + 1), sp rfl, hv.2, rfl, hv.1, hS⟩
 have hv := hv.2 (oF c18); refine Jq <| Jb 4 <| W.ret <| ⟨_, rfl, Fin.nil ?_⟩
 exact (hS.pick [] rfl).fin rfl ⟨true, rfl, rfl, hv⟩
def QF (Fg : GFv) (x : Int) (Q : Int × LI × Int -> Prop) : Prop :=
  QS Fg x (fun (r14, r15) => ((r15 ≠ 0) -> (Q ((0 : Int), ([] : LI), r15))) /\ (¬ (r15 ≠ 0) -> (Q7 r14 (fun x19 => Q (r14, x19, (0 : Int))))))
theorem Jar {w : World} {Q : Int × LI × Int -> Prop} {Fg : GFv} {x : Int} {ag : Addr} {Bg : Nat} (hgg : GFR Bg w ag Fg) (hv : QF Fg x Q) :
   Calls Try.prog 7 #[.pointer (some ag), .int .i64 x] w <| Rt w fun v Qr => ∃ (o0 : Int) (r0 : LI) (r1 : Int) (A0 : Option Addr) (k0 : Nat), v = .tuple #[.agg #[.int .i64 o0, .slice A0 r0.length k0], .int .i64 r1] /\ Qr = [.row 3 1 A0 r0.length k0 (is r0)] /\ Q (o0, r0, r1) := by
 have hgg_ := hgg; obtain ⟨Ag_mod, kg_mod, Ag_exp, kg_exp, Ag_log, kg_log, Ag_above, kg_above, hg_c, hg_mod, hg_exp, hg_log, hg_above⟩ := hgg_; refine Jh <| Q0 (vs := [.pointer (some ag), nI x]) [.cell 4 29, .tmp 5] XF7 rfl rfl rfl rfl ?_; have hS := Jk w; unfold QF at hv; refine Jb 2 <| SL.alloc (cs := [nI 0, .slice none 0 0]) hS QN rfl rfl ?_; intro g11 w12 hS; refine Jd 2 <| Jb 4 <| SL.call hS (Jcm (GFR.ext (GFR.norm hgg) hS.ext) hv) XF15 rfl XN15 rfl rfl ?_; rintro _ _ w13 ⟨r14, r15, rfl, rfl, hv⟩ hGw13 hS; have hS := hS.n0; refine Jd 6 <| Jb 6 <| Je rfl (fun c16 => ?_) (fun c16 => ?_)
 .have hv := hv.1 (oT c16); refine Jb 2 <| Qm (cells := #[nI 0, .slice none 0 0]) XB29 rfl rfl rfl <| Jp rfl rfl <| J0 (cs := [nI 0, .slice none 0 0]) 0 hS rfl QN rfl rfl rfl rfl rfl ?_; intro w17 hS; refine Jd 2 <| W.ret ?_; have hS := hS.nil (e := 3) (z := 1)
  change St _ _ _ _ [_, _] at hS
  repeat with_reducible first | refine blk.ret ?_ | refine exits.retI ?_
  refine endC.mk ⟨[.agg #[nI 0, .slice none 0 0], nI r15], ⟨_, _, _, rfl, rfl, Qp (cs := [nI 0, .slice none 0 0]) QN Jev rfl (JS (hS.own (i := 1) rfl)), ⟨_, _, rfl, rfl, rfl⟩⟩, ?_⟩; exact (hS.pick [0] rfl).fin rfl ⟨(0 : Int), ([] : LI), r15, none, 0, rfl, rfl, hv⟩
 have hv := hv.2 (oF c16); refine Ji <| Jb 4 <| SL.call hS (Jap  hv) XF16 rfl XN16 rfl rfl ?_; rintro _ _ w18 ⟨x19, A20, k21, rfl, rfl, hv⟩ hGw18 hS; have hS := hS.n1; refine Qm (cells := #[nI r14, nS A20 x19 k21]) XB29 rfl rfl rfl <| J0 (cs := [nI r14, nS A20 x19 k21]) 1 hS rfl QN rfl rfl rfl rfl rfl ?_; intro w23 hS; refine Jd 2 <| W.ret ?_
 repeat with_reducible first | refine blk.ret ?_ | refine exits.retI ?_
 refine endC.mk ⟨[.agg #[nI r14, nS A20 x19 k21], nI 0], ⟨_, _, _, rfl, rfl, Qp (cs := [nI r14, nS A20 x19 k21]) QN Jev rfl (JS (hS.own (i := 1) rfl)), ⟨_, _, rfl, rfl, rfl⟩⟩, ?_⟩; exact (hS.pick [0] rfl).fin rfl ⟨r14, x19, (0 : Int), A20, k21, rfl, rfl, hv⟩
def YV (Fg : GFv) (x : Int) (op : Int) (lp : LI) (Q : Int -> Prop) : Prop :=
  (¬ (op < 1)) /\ (∃ (r22 : Int), YX Fg (fun q => q = r22) /\ ((¬ (r22 <= op)) /\ (∃ (x34 : LI), Q7 op (fun q => q = x34) /\ ((Zy lp x34 (fun q => q = true)) /\ (∃ (r54 : Bool), YU Fg x op (fun q => q = r54) /\ ((((!r54) = true) -> (Q 13)) /\ ((!r54) = false -> (∃ (I65 : Int -> Prop) (μ66 : Int -> Nat), I65 0 /\ ∀ (z63 : Int), (I65 z63 -> (((z63 < (lp.length : Int)) -> ((0 <= z63 /\ z63 < (lp.length : Nat)) /\ (((gi lp z63) ≠ 0 /\ I64 (op.tdiv (gi lp z63))) /\ (YU Fg x (op.tdiv (gi lp z63)) (fun r72 => ((r72 = true) -> (Q 13)) /\ (r72 = false -> ((I64 (z63 + 1)) /\ (I65 (z63 + 1) /\ μ66 (z63 + 1) < μ66 z63)))))))) /\ (¬ (z63 < (lp.length : Int)) -> (Q 0))))))))))))
theorem Jgj {w : World} {Q : Int -> Prop} {Fg : GFv} {x : Int} {op : Int} {lp : LI} {ag : Addr} {Bg : Nat} (hgg : GFR Bg w ag Fg) {Bp : Nat} {Ap : Option Addr} {np kp : Nat} (hp : Rd Bp w 1 Ap np kp (is lp)) (hv : YV Fg x op lp Q) :
   Calls Try.prog 10 #[.pointer (some ag), .int .i64 x, .agg #[.int .i64 op, .slice Ap np kp]] w <| Rt w fun v Qr => ∃ (r0 : Int), v = .int .i64 r0 /\ Qr = [] /\ Q r0 := by
 have hgg_ := hgg; obtain ⟨Ag_mod, kg_mod, Ag_exp, kg_exp, Ag_log, kg_log, Ag_above, kg_above, hg_c, hg_mod, hg_exp, hg_log, hg_above⟩ := hgg_; have hnp := hp.ilen; subst hnp; refine Jh <| Jg (vs := [.pointer (some ag), nI x, .agg #[nI op, nS Ap lp kp]]) [6] XF10 rfl rfl rfl rfl ?_; have hS := Jk w; unfold YV at hv; refine Jb 2 <| JC (z := 2) (cs := [nI op, nS Ap lp kp]) hS rfl rfl rfl rfl ?_; intro g11 w12 hS; refine Jd 2 <| Jb 2 ?_; obtain ⟨o16, hv⟩ := hv; obtain ⟨r22, o24, hv⟩ := hv; obtain ⟨o26, hv⟩ := hv; obtain ⟨x34, o41, hv⟩ := hv; obtain ⟨o45, hv⟩ := hv; obtain ⟨r54, o56, hv⟩ := hv; have hS0 := hS; refine YO 27 (fun iA => [false, false, false, false, false, false, false, false, false, false, false, false, false, false, false, true, false, false, false, false, false, false, false, false, false, false, false].getD iA false) (fun _ => none) (fun _ v u => u = v) [⟨[], [5], true⟩, ⟨[0], [], false⟩, ⟨[1], [], true⟩, ⟨[2], [], true⟩, ⟨[3], [5], true⟩, ⟨[3, 4], [], false⟩, ⟨[3], [0], true⟩, ⟨[3, 6], [], false⟩, ⟨[3, 5, 7], [], true⟩, ⟨[3, 8], [], true⟩, ⟨[9], [], true⟩, ⟨[10], [5], true⟩, ⟨[10, 11], [], false⟩, ⟨[10], [5], true⟩, ⟨[10, 13], [], false⟩, ⟨[10, 14], [], false⟩, ⟨[10, 12, 15], [], false⟩, ⟨[10, 16], [], true⟩, ⟨[10, 17], [], true⟩, ⟨[18], [], true⟩, ⟨[19], [0], true⟩, ⟨[19], [1], true⟩, ⟨[19], [5], true⟩, ⟨[19, 22], [], false⟩, ⟨[19, 20, 21, 23], [], false⟩, ⟨[19, 24], [], true⟩, ⟨[19, 25], [], true⟩] [.k 9 (nP g11), .k 10 (nI op), .k 11 (.bool false), .k 12 (.bool false), .k 13 (nP g11), .k 14 (nI op), .k 15 (.pointer (some ag)), .k 16 (nI r22), .k 17 (.bool false), .k 18 (.bool false), .k 19 (.bool false), .k 20 (.pointer (some ((⟨g11, 0, none⟩ : Addr).add 1))), .k 21 (nS Ap lp kp), .k 22 (nP g11), .k 23 (nI op), eS w12 24 3 x34.length (is x34), .k 25 (.bool true), .k 26 (.bool false), .k 27 (.bool false), .k 28 (.bool false), .k 29 (.pointer (some ag)), .k 30 (nI x), .k 31 (nP g11), .k 32 (nI op), .k 33 (.bool r54), .k 34 (.bool (!r54)), .k 35 (.bool (!r54))] (fun _ => vbD) Try.mixed (by kernel_rfl) rfl rfl (fun _ _ _ _ _ _ _ h => h) ?_ ?_
 . refine ⟨fun _ _ _ => Jc (off := 0) Q2 rfl rfl <| Ja ⟨rfl, rfl⟩, og hS fun _ _ hS => Jl 0 0 XU3 hS rfl rfl rfl ⟨rfl, rfl⟩ <| Ja ⟨rfl, Jf _⟩, ?_, oC, fun _ _ _ => WL.take rfl <| Jc (off := 0) Q2 rfl rfl <| Ja ⟨rfl, rfl⟩, og hS fun _ _ hS => WL.take rfl <| Jl 0 0 XU3 hS rfl rfl rfl ⟨rfl, rfl⟩ <| Ja ⟨rfl, Jf _⟩, oC, ?_, ?_, oC, oC, fun _ _ _ => WL.take rfl <| Jc (off := 1) Yz rfl rfl <| Ja ⟨rfl, rfl⟩, og hS fun _ _ hS => WL.take rfl <| Jl 0 1 Jn hS rfl rfl rfl ⟨rfl, rfl⟩ <| Ja ⟨rfl, Jf _⟩, fun _ _ _ => WL.take rfl <| Jc (off := 0) Q2 rfl rfl <| Ja ⟨rfl, rfl⟩, og hS fun _ _ hS => WL.take rfl <| Jl 0 0 XU3 hS rfl rfl rfl ⟨rfl, rfl⟩ <| Ja ⟨rfl, Jf _⟩, ?_, ?_, oC, oC, oC, oC, oC, fun _ _ _ => WL.take rfl <| Jc (off := 0) Q2 rfl rfl <| Ja ⟨rfl, rfl⟩, og hS fun _ _ hS => WL.take rfl <| Jl 0 0 XU3 hS rfl rfl rfl ⟨rfl, rfl⟩ <| Ja ⟨rfl, Jf _⟩, ?_, oC, oC, trivial⟩
   .intro w15 hE; intro RR; refine QP rfl rfl rfl ?_; rw [decide_eq_false o16]; exact Ja ⟨rfl, rfl⟩
   .intro w21 hE; have hS := hS.grow (hE rfl); intro RR; refine WL.take rfl <| WL.call XF19 rfl XN19 rfl rfl (JI (Jil (GFR.ext (GFR.norm hgg) hS.ext) o24)) ?_; rintro _ w23 ⟨_, hGw23, hRww23, hNww23, r22q, rfl, rfl, he⟩; subst he; exact Ja ⟨rfl, hGw23⟩
   .intro w25 hE; intro RR; refine WL.take rfl <| Jbu rfl rfl rfl ?_; rw [decide_eq_false o26]; exact Ja ⟨rfl, rfl⟩
   .intro w33 hE; have hE := hE rfl; have hS := hS.grow hE; intro RR; refine WL.take rfl <| WL.call XF16 rfl XN16 rfl rfl (JI (Jap  o41)) ?_; rintro _ w38 ⟨_, hGw38, hRww38, hNww38, x34q, A35, k36, rfl, rfl, he⟩; subst he; have hO39 := (hRww38.get (i := 0) rfl).1; have hN40 : ∀ g, bl A35 = some g -> _ <= g := fun g hg => Nat.le_trans hE.size (hNww38.1 g hg); exact Ja ⟨_, rfl, hGw38, ⟨A35, k36, rfl, hO39, hN40⟩, (fun _ => fun g hg => ⟨hNww38.1 g hg, (hO39.bl_ge g hg).2⟩), (fun j h => by cases h)⟩
   .intro w42 hE; have hS := hS.grow (hE rfl); rintro _ ⟨A35_15, k36_15, rfl, hO39_15, hN40_15⟩; intro RR; refine WL.take rfl <| WL.call XF20 rfl XN20 rfl rfl (JI (Jij (hS.ro hp) hO39_15.rd o45)) ?_; rintro _ w44 ⟨_, hGw44, hRww44, hNww44, r43, rfl, rfl, he⟩; subst he; exact Ja ⟨rfl, hGw44⟩
   intro w53 hE; have hS := hS.grow (hE rfl); intro RR; refine WL.take rfl <| WL.call XF21 rfl XN21 rfl rfl (JI (Jci (GFR.ext (GFR.norm hgg) hS.ext) o56)) ?_; rintro _ w55 ⟨_, hGw55, hRww55, hNww55, r54q, rfl, rfl, he⟩; subst he; exact Ja ⟨rfl, hGw55⟩
 intro vals w59 hT hVs hAp hCp; have hS := hS.grow hT; obtain ⟨A35_15, k36_15, hv15, hO39_15, hN40_15⟩ := hVs 15 (by decide); refine Jf0 [(15, nS A35_15 x34 k36_15)] ⟨hv15, trivial⟩ <| Qf <| Je rfl (fun c60 => ?_) (fun c60 => ?_)
 .have hv := hv.1 (c60); refine Jb 4 <| W.ret <| ⟨_, rfl, Fin.nil ?_⟩
  exact (hS.pick [] rfl).fin rfl ⟨(13 : Int), rfl, rfl, hv⟩
 have hv := hv.2 (c60); refine Ji <| Jb 3 <| Jc (off := 1) Yz rfl rfl <| Jl 0 1 Jn hS rfl rfl rfl ⟨rfl, rfl⟩ <| WL.len Jn rfl rfl <| Jd 2 <| W.block ?_; obtain ⟨I65, μ66, hv, hk75⟩ := hv; refine Jt (σ := Int) (fun z63 w1 => I65 z63 /\ St TT w none w1 [.row 29 2 (nA g11) 1 1 [nI op, nS Ap lp kp]]) (fun z63 => [(0, .pointer (some ag)), (1, nI x), (5, nP g11), (6, nI 0), (37, nS Ap lp kp), (38, nI (lp.length : Int)), (39, nI z63)]) (fun z63 => μ66 z63) (0 : Int) ⟨hv, hS⟩ ⟨rfl, rfl, rfl, rfl, rfl, rfl, rfl, trivial⟩ ?_; rintro z63 w67 ⟨hv, hS⟩; have hv := hk75 z63 hv; refine Jb 5 <| Je rfl (fun c68 => ?_) (fun c68 => ?_)
 .have hv := hv.1 (oT c68); refine Ji <| Jr <| W.block <| Jb 2 ?_; obtain ⟨o69, hv⟩ := hv; refine Jj Jn XE3 (hS.ro hp) rfl rfl o69 rfl <| Jo XU3 rfl rfl (JF (hS.ro hp) o69) rfl <| Jd 2 <| Jb 4 <| Jc (off := 0) Q2 rfl rfl <| Jl 0 0 XU3 hS rfl rfl rfl ⟨rfl, rfl⟩ <| Jp rfl rfl ?_; obtain ⟨o70, hv⟩ := hv; refine Zf (r := (op.tdiv (gi lp z63))) rfl rfl o70.1 (wr o70.2) rfl <| SL.call hS (Jci (GFR.ext (GFR.norm hgg) hS.ext) hv) XF21 rfl XN21 rfl rfl ?_; rintro _ _ w71 ⟨r72, rfl, rfl, hv⟩ hGw71 hS; have hS := hS.n0; refine Ja <| Je rfl (fun c73 => ?_) (fun c73 => ?_)
  .have hv := hv.1 (c73); refine Jb 4 <| W.ret <| ⟨_, rfl, Fin.nil ?_⟩
   exact (hS.pick [] rfl).fin rfl ⟨(13 : Int), rfl, rfl, hv⟩
  have hv := hv.2 (c73); refine Ji <| Jv ?_; obtain ⟨o74, hv⟩ := hv; refine WL.add (r := (z63 + 1)) rfl rfl (wr o74) rfl <| Jd 2 ?_; exact ⟨(z63 + 1), sp rfl, hv.2, rfl, hv.1, hS⟩
 have hv := hv.2 (oF c68); refine Jq <| Jb 4 <| W.ret <| ⟨_, rfl, Fin.nil ?_⟩
 exact (hS.pick [] rfl).fin rfl ⟨(0 : Int), rfl, rfl, hv⟩
end Go.Proofs.Ytgcdbnpenhclfaa
namespace Go.Proofs.Ytgcdbnpenhclfaa
open Go.RowKit
def Yi (x : Int) (Q : LI -> Prop) : Prop :=
  ∃ (I26 : LI -> Int -> Prop) (μ27 : LI -> Int -> Nat), I26 ([] : LI) (2 : Int) /\ ∀ (x22 : LI) (z25 : Int), (I26 x22 z25 -> (((z25 <= x) -> (∃ J33 : LI -> Prop, ((z25 ≠ 0) /\ ((((x.tmod z25) ≠ (0 : Int)) -> J33 x22) /\ (¬ ((x.tmod z25) ≠ (0 : Int)) -> (∃ (I42 : Bool -> Int -> Prop) (μ43 : Bool -> Int -> Nat), I42 true (2 : Int) /\ ∀ (b40 : Bool) (z41 : Int), (I42 b40 z41 -> (((z41 < z25) -> (∃ J47 : Bool -> Prop, ((z41 ≠ 0) /\ ((((z25.tmod z41) = (0 : Int)) -> J47 false) /\ (¬ ((z25.tmod z41) = (0 : Int)) -> J47 b40))) /\ ∀ (b46 : Bool), (J47 b46 -> ((I64 (z41 + 1)) /\ (I42 b46 (z41 + 1) /\ μ43 b46 (z41 + 1) < μ43 b40 z41))))) /\ (¬ (z41 < z25) -> (((b40 = true) -> ((((x22.length : Nat) + (1 : Nat) : Int) * 8 <= 140737488355328) /\ (J33 (x22 ++ ([z25] : LI))))) /\ (b40 = false -> J33 x22))))))))) /\ ∀ (x30 : LI), (J33 x30 -> ((I64 (z25 + 1)) /\ (I26 x30 (z25 + 1) /\ μ27 x30 (z25 + 1) < μ27 x22 z25))))) /\ (¬ (z25 <= x) -> Q x22)))
theorem Jd1 {w : World} {Q : LI -> Prop} {x : Int}  (hv : Yi x Q) :
   Calls Try.prog 18 #[.int .i64 x] w <| Rt w fun v Qr => ∃ (x : LI)  (A : Option Addr) (c : Nat), v = .slice A x.length c /\ Qr = [.row 3 1 A x.length c (is x)] /\ Q x := by
 refine Jh <| Jg (vs := [nI x]) [2] XF18 rfl rfl rfl rfl ?_; have hS := Jk w; unfold Yi at hv; refine Jb 6 <| Qy (vs := is ([] : LI)) hS Jn XE3 rfl rfl rfl rfl (JX _) rfl ?_; intro A11 w12 hS; refine Jd 2 <| Jb 5 <| W.block ?_; obtain ⟨I26, μ27, hv, hk65⟩ := hv; have hm0 : 0 = ([] : LI).length := (hS.rd (i := 0) rfl).ilen.symm; have hS := hS.relen (i := 0) rfl hm0
 change St _ _ _ _ [_] at hS
 refine Jt (σ := LI × Int × Option Addr × Nat) (fun q w1 => match q with | (x22, z25, A23, k24) => I26 x22 z25 /\ St TT w none w1 [nR 3 A23 x22 k24]) (fun (x22, z25, A23, k24) => [(0, nI x), (2, .slice none 0 0), (3, nS A23 x22 k24), (4, nI z25)]) (fun (x22, z25, A23, k24) => μ27 x22 z25) (([] : LI), (2 : Int), A11, 0) ⟨hv, hS⟩ ⟨rfl, rfl, (sm (by first | rfl | assumption | omega)), rfl, trivial⟩ ?_; rintro ⟨x22, z25, A23, k24⟩ w28 ⟨hv, hS⟩; have hv := hk65 x22 z25 hv; refine Jb 7 <| Je rfl (fun c29 => ?_) (fun c29 => ?_)
 .have hv := hv.1 (oT c29); refine Ji <| Jr ?_; obtain ⟨J33, hv, hk64⟩ := hv; refine YA (σ := LI × Option Addr × Nat) (fun q w1 => match q with | (x30, A31, k32) => J33 x30 /\ St TT w none w1 [nR 3 A31 x30 k32]) (fun (x30, A31, k32) => [(0, nI x), (2, .slice none 0 0), (3, nS A31 x30 k32), (4, nI z25), (10, .bool (decide (z25 <= x))), (16, .bool (decide ((x.tmod z25) ≠ (0 : Int))))]) ?_ ?_
  .refine W.block ?_; refine Jb 5 ?_; obtain ⟨o34, hv⟩ := hv; refine JR (r := (x.tmod z25)) rfl rfl o34 rfl rfl <| Jd 2 <| Je rfl (fun c35 => ?_) (fun c35 => ?_)
   .have hv := hv.1 (oT c35); refine Jq ?_; exact ⟨(x22, A23, k24), sp rfl, rfl, hv, hS⟩
   have hv := hv.2 (oF c35); refine Ji <| Jb 9 <| W.block ?_; obtain ⟨I42, μ43, hv, hk61⟩ := hv; refine Jt (σ := Bool × Int) (fun q w1 => match q with | (b40, z41) => I42 b40 z41 /\ St TT w none w1 [nR 3 A23 x22 k24]) (fun (b40, z41) => [(0, nI x), (2, .slice none 0 0), (3, nS A23 x22 k24), (4, nI z25), (5, .bool b40), (6, nI z41), (10, .bool (decide (z25 <= x))), (16, .bool (decide ((x.tmod z25) ≠ (0 : Int))))]) (fun (b40, z41) => μ43 b40 z41) (true, (2 : Int)) ⟨hv, hS⟩ ⟨rfl, rfl, rfl, rfl, rfl, rfl, rfl, rfl, trivial⟩ ?_; rintro ⟨b40, z41⟩ w44 ⟨hv, hS⟩; have hv := hk61 b40 z41 hv; refine Jb 7 <| Je rfl (fun c45 => ?_) (fun c45 => ?_)
   .have hv := hv.1 (oT c45); refine Ji <| Jr ?_; obtain ⟨J47, hv, hk52⟩ := hv; refine YA (σ := Bool) (fun b46 w1 => J47 b46 /\ St TT w none w1 [nR 3 A23 x22 k24]) (fun b46 => [(0, nI x), (2, .slice none 0 0), (3, nS A23 x22 k24), (4, nI z25), (5, .bool b46), (6, nI z41), (10, .bool (decide (z25 <= x))), (16, .bool (decide ((x.tmod z25) ≠ (0 : Int)))), (19, .bool (decide (z41 < z25))), (25, .bool (decide ((z25.tmod z41) = (0 : Int))))]) ?_ ?_
    .refine W.block ?_; refine Jb 4 ?_; obtain ⟨o48, hv⟩ := hv; refine JR (r := (z25.tmod z41)) rfl rfl o48 rfl rfl <| Jd 2 <| Je rfl (fun c49 => ?_) (fun c49 => ?_)
     .have hv := hv.1 (oT c49); refine Jb 3 ?_; exact ⟨false, sp rfl, rfl, hv, hS⟩
     have hv := hv.2 (oF c49); refine Ji ?_; exact ⟨b40, sp rfl, rfl, hv, hS⟩
    rintro b46 w50 ⟨hv, hS⟩; have hv := hk52 b46 hv; refine Jb 2 ?_; obtain ⟨o51, hv⟩ := hv; refine WL.add (r := (z41 + 1)) rfl rfl (wr o51) rfl <| Jd 2 ?_; exact ⟨(b46, (z41 + 1)), sp rfl, hv.2, rfl, hv.1, hS⟩
   have hv := hv.2 (oF c45); refine Jq <| Jb 4 <| Je rfl (fun c53 => ?_) (fun c53 => ?_)
   .have hv := hv.1 (c53); refine Jb 3 <| Qy (vs := is ([z25] : LI)) hS Jn XE3 rfl rfl rfl rfl (JX _) rfl ?_; intro A54 w55 hS; obtain ⟨o57, hv⟩ := hv; refine SL.append (cs := is x22) (cs' := is ([z25] : LI)) 1 ((x22 ++ ([z25] : LI)).length) (is (x22 ++ ([z25] : LI))) hS rfl Jn XE3 (hS.rd (i := 0) rfl) (JX _) rfl rfl (apk o57).1 (apk o57).2 (Zn (hS.rd (i := 1) rfl) (hS.rd (i := 0) rfl)) (JU _ _) rfl ?_; intro A58 k59 w60 hS; refine Jd 2 ?_; have hS := hS.pick [1] rfl; exact ⟨(x22 ++ ([z25] : LI), A58, k59), sp rfl, rfl, hv, hS⟩
   have hv := hv.2 (c53); refine Ji ?_; exact ⟨(x22, A23, k24), sp rfl, rfl, hv, hS⟩
  rintro ⟨x30, A31, k32⟩ w62 ⟨hv, hS⟩; have hv := hk64 x30 hv; refine Jb 2 ?_; obtain ⟨o63, hv⟩ := hv; refine WL.add (r := (z25 + 1)) rfl rfl (wr o63) rfl <| Jd 2 ?_; exact ⟨(x30, (z25 + 1), A31, k32), sp rfl, hv.2, rfl, hv.1, hS⟩
 have hv := hv.2 (oF c29); refine Jq <| Jb 5 <| W.ret <| ⟨_, rfl, Fin.nil ?_⟩
 exact (hS.pick [0] rfl).fin rfl ⟨x22, A23, k24, rfl, rfl, hv⟩
def Zh (Pf : Int) (Mf : Int) (mf : LI) (x : Int) (Q : Int × LI × Int -> Prop) : Prop :=
  Qx Pf Mf mf x (fun r16 => ((r16 = 0) -> (Q ((0 : Int), ([] : LI), (7 : Int)))) /\ (¬ (r16 = 0) -> (Yi r16 (fun x20 => Q (r16, x20, (0 : Int))))))
theorem Jd0 {w : World} {Q : Int × LI × Int -> Prop} {Pf : Int} {Mf : Int} {mf : LI} {x : Int} {Bf : Nat} {Af : Option Addr} {nf kf : Nat} (hf : Rd Bf w 1 Af nf kf (is mf)) (hv : Zh Pf Mf mf x Q) :
   Calls Try.prog 8 #[.agg #[.int .i64 Pf, .int .i64 Mf, .slice Af nf kf], .int .i64 x] w <| Rt w fun v Qr => ∃ (o0 : Int) (r0 : LI) (r1 : Int) (A0 : Option Addr) (k0 : Nat), v = .tuple #[.agg #[.int .i64 o0, .slice A0 r0.length k0], .int .i64 r1] /\ Qr = [.row 3 1 A0 r0.length k0 (is r0)] /\ Q (o0, r0, r1) := by
 have hnf := hf.ilen; subst hnf; refine Jh <| Q0 (vs := [.agg #[nI Pf, nI Mf, nS Af mf kf], nI x]) [.cell 4 29, .tmp 5] XF8 rfl rfl rfl rfl ?_; have hS := Jk w; unfold Zh at hv; refine Jb 2 <| JC (z := 3) (cs := [nI Pf, nI Mf, nS Af mf kf]) hS rfl rfl rfl rfl ?_; intro g11 w12 hS; refine SL.alloc (cs := [nI 0, .slice none 0 0]) hS QN rfl rfl ?_; intro g13 w14 hS; refine Jd 2 <| Jb 2 <| JK 1 J2 J6 hS rfl ⟨rfl, rfl⟩ rfl <| Jp rfl rfl <| SL.call hS (Jbf (hS.ro hf) hv) XF17 rfl XN17 rfl rfl ?_; rintro _ _ w15 ⟨r16, rfl, rfl, hv⟩ hGw15 hS; have hS := hS.n0; refine Jd 2 <| Jb 6 <| Je rfl (fun c17 => ?_) (fun c17 => ?_)
 .have hv := hv.1 (oT c17); refine Jb 2 <| Qm (cells := #[nI 0, .slice none 0 0]) XB29 rfl rfl rfl <| J0 (cs := [nI 0, .slice none 0 0]) 0 hS rfl QN rfl rfl rfl rfl rfl ?_; intro w18 hS; refine Jd 2 <| W.ret ?_; have hS := hS.nil (e := 3) (z := 1)
  change St _ _ _ _ [_, _, _] at hS
  repeat with_reducible first | refine blk.ret ?_ | refine exits.retI ?_
  refine endC.mk ⟨[.agg #[nI 0, .slice none 0 0], nI 7], ⟨_, _, _, rfl, rfl, Qp (cs := [nI 0, .slice none 0 0]) QN Jev rfl (JS (hS.own (i := 1) rfl)), ⟨_, _, rfl, rfl, rfl⟩⟩, ?_⟩; exact (hS.pick [0] rfl).fin rfl ⟨(0 : Int), ([] : LI), (7 : Int), none, 0, rfl, rfl, hv⟩
 have hv := hv.2 (oF c17); refine Ji <| Jb 4 <| SL.call hS (Jd1  hv) XF18 rfl XN18 rfl rfl ?_; rintro _ _ w19 ⟨x20, A21, k22, rfl, rfl, hv⟩ hGw19 hS; have hS := hS.n1; refine Qm (cells := #[nI r16, nS A21 x20 k22]) XB29 rfl rfl rfl <| J0 (cs := [nI r16, nS A21 x20 k22]) 1 hS rfl QN rfl rfl rfl rfl rfl ?_; intro w24 hS; refine Jd 2 <| W.ret ?_
 repeat with_reducible first | refine blk.ret ?_ | refine exits.retI ?_
 refine endC.mk ⟨[.agg #[nI r16, nS A21 x20 k22], nI 0], ⟨_, _, _, rfl, rfl, Qp (cs := [nI r16, nS A21 x20 k22]) QN Jev rfl (JS (hS.own (i := 1) rfl)), ⟨_, _, rfl, rfl, rfl⟩⟩, ?_⟩; exact (hS.pick [0] rfl).fin rfl ⟨r16, x20, (0 : Int), A21, k22, rfl, rfl, hv⟩
def YR (op : Int) (lp : LI) (or : Int) (lr : LI) (Q : Bool -> Prop) : Prop :=
  ((op ≠ or) -> Q false) /\ (¬ (op ≠ or) -> ((((lp.length : Int) ≠ (lr.length : Int)) -> Q false) /\ (¬ ((lp.length : Int) ≠ (lr.length : Int)) -> (∃ (I20 : Int -> Prop) (μ21 : Int -> Nat), I20 0 /\ ∀ (z19 : Int), (I20 z19 -> (((z19 < (lp.length : Int)) -> ((0 <= z19 /\ z19 < (lp.length : Nat)) /\ ((0 <= z19 /\ z19 < (lr.length : Nat)) /\ ((((gi lp z19) ≠ (gi lr z19)) -> Q false) /\ (¬ ((gi lp z19) ≠ (gi lr z19)) -> ((I64 (z19 + 1)) /\ (I20 (z19 + 1) /\ μ21 (z19 + 1) < μ21 z19))))))) /\ (¬ (z19 < (lp.length : Int)) -> Q true)))))))
theorem Jgf {w : World} {Q : Bool -> Prop} {op : Int} {lp : LI} {or : Int} {lr : LI} {Bp : Nat} {Ap : Option Addr} {np kp : Nat} (hp : Rd Bp w 1 Ap np kp (is lp)) {Br : Nat} {Ar : Option Addr} {nr kr : Nat} (hr : Rd Br w 1 Ar nr kr (is lr)) (hv : YR op lp or lr Q) :
   Calls Try.prog 9 #[.agg #[.int .i64 op, .slice Ap np kp], .agg #[.int .i64 or, .slice Ar nr kr]] w <| Rt w fun v Qr => ∃ (r0 : Bool), v = .bool r0 /\ Qr = [] /\ Q r0 := by
 have hnp := hp.ilen; subst hnp; have hnr := hr.ilen; subst hnr; refine Jh <| Jg (vs := [.agg #[nI op, nS Ap lp kp], .agg #[nI or, nS Ar lr kr]]) [4] XF9 rfl rfl rfl rfl ?_; have hS := Jk w; unfold YR at hv; refine Jb 2 <| JC (z := 2) (cs := [nI op, nS Ap lp kp]) hS rfl rfl rfl rfl ?_; intro g11 w12 hS; refine JC (z := 2) (cs := [nI or, nS Ar lr kr]) hS rfl rfl rfl rfl ?_; intro g13 w14 hS; refine Jd 2 <| Jb 3 <| Jc (off := 0) Q2 rfl rfl <| Jl 1 0 XU3 hS rfl rfl rfl ⟨rfl, rfl⟩ <| Jc (off := 0) Q2 rfl rfl <| Jl 0 0 XU3 hS rfl rfl rfl ⟨rfl, rfl⟩ <| Zw rfl rfl rfl <| Jp rfl rfl ?_; by_cases g15 : op ≠ or
 .have hv := hv.1 g15; rw [decide_eq_true g15]; refine Jd 9 <| JO rfl <| Jb 4 <| W.ret <| ⟨_, rfl, Fin.nil ?_⟩
  exact (hS.pick [] rfl).fin rfl ⟨false, rfl, rfl, hv⟩
 have hv := hv.2 g15; rw [decide_eq_false g15]; refine WL.take rfl <| Jc (off := 1) Yz rfl rfl <| WL.take rfl <| Jl 1 1 Jn hS rfl rfl rfl ⟨rfl, rfl⟩ <| WL.take rfl <| WL.len Jn rfl rfl <| WL.take rfl <| Jc (off := 1) Yz rfl rfl <| WL.take rfl <| Jl 0 1 Jn hS rfl rfl rfl ⟨rfl, rfl⟩ <| WL.take rfl <| WL.len Jn rfl rfl <| Jd 4 <| Je rfl (fun c16 => ?_) (fun c16 => ?_)
 .have hv := hv.1 (oT c16); refine Jb 4 <| W.ret <| ⟨_, rfl, Fin.nil ?_⟩
  exact (hS.pick [] rfl).fin rfl ⟨false, rfl, rfl, hv⟩
 have hv := hv.2 (oF c16); refine Ji <| Jb 5 <| W.block ?_; obtain ⟨I20, μ21, hv, hk40⟩ := hv; refine Jt (σ := Int) (fun z19 w1 => I20 z19 /\ St TT w none w1 [.row 29 2 (nA g13) 1 1 [nI or, nS Ar lr kr], .row 29 2 (nA g11) 1 1 [nI op, nS Ap lp kp]]) (fun z19 => [(2, nP g11), (3, nP g13), (4, .bool false), (5, nI z19)]) (fun z19 => μ21 z19) (0 : Int) ⟨hv, hS⟩ ⟨rfl, rfl, rfl, rfl, trivial⟩ ?_; rintro z19 w22 ⟨hv, hS⟩; have hv := hk40 z19 hv; refine Jb 4 <| Jc (off := 1) Yz rfl rfl <| Jl 1 1 Jn hS rfl rfl rfl ⟨rfl, rfl⟩ <| WL.len Jn rfl rfl <| Jd 2 <| Je rfl (fun c23 => ?_) (fun c23 => ?_)
 .have hv := hv.1 (oT c23); refine Ji <| Jr <| W.block <| Jr ?_; obtain ⟨o28, hv⟩ := hv; obtain ⟨o34, hv⟩ := hv; refine JH 11 [⟨[], [2], true⟩, ⟨[0], [], false⟩, ⟨[], [5], true⟩, ⟨[1, 2], [], true⟩, ⟨[3], [], false⟩, ⟨[], [3], true⟩, ⟨[5], [], false⟩, ⟨[], [5], true⟩, ⟨[6, 7], [], true⟩, ⟨[8], [], false⟩, ⟨[4, 9], [], true⟩] [(27, .pointer (some ((⟨g11, 0, none⟩ : Addr).add 1))), (28, nS Ap lp kp), (29, nI z19), (30, .pointer (some ((JL Ap).add z19.toNat))), (31, nI (gi lp z19)), (32, .pointer (some ((⟨g13, 0, none⟩ : Addr).add 1))), (33, nS Ar lr kr), (34, nI z19), (35, .pointer (some ((JL Ar).add z19.toNat))), (36, nI (gi lr z19)), (37, .bool (decide ((gi lp z19) ≠ (gi lr z19))))] Try.mixed (by kernel_rfl) rfl rfl ?_ ?_
  .refine ⟨fun _ _ _ => Jc (off := 1) Yz rfl rfl <| Ja ⟨rfl, rfl⟩, og hS fun _ _ hS => Jl 1 1 Jn hS rfl rfl rfl ⟨rfl, rfl⟩ <| Ja ⟨rfl, Jf _⟩, oD, fun _ _ _ => Jj Jn XE3 (hS.ro hp) rfl rfl o28 rfl <| Ja ⟨rfl, rfl⟩, og hS fun _ _ hS => Jo XU3 rfl rfl (JF (hS.ro hp) o28) rfl <| Ja ⟨rfl, Jf _⟩, fun _ _ _ => Jc (off := 1) Yz rfl rfl <| Ja ⟨rfl, rfl⟩, og hS fun _ _ hS => Jl 0 1 Jn hS rfl rfl rfl ⟨rfl, rfl⟩ <| Ja ⟨rfl, Jf _⟩, oD, fun _ _ _ => Jj Jn XE3 (hS.ro hr) rfl rfl o34 rfl <| Ja ⟨rfl, rfl⟩, og hS fun _ _ hS => Jo XU3 rfl rfl (JF (hS.ro hr) o34) rfl <| Ja ⟨rfl, Jf _⟩, oD, trivial⟩
  intro w37 hT; have hS := hS.grow hT; refine Qf <| Je rfl (fun c38 => ?_) (fun c38 => ?_)
  .have hv := hv.1 (oT c38); refine Jb 4 <| W.ret <| ⟨_, rfl, Fin.nil ?_⟩
   exact (hS.pick [] rfl).fin rfl ⟨false, rfl, rfl, hv⟩
  have hv := hv.2 (oF c38); refine Ji <| Jb 2 ?_; obtain ⟨o39, hv⟩ := hv; refine WL.add (r := (z19 + 1)) rfl rfl (wr o39) rfl <| Jd 2 ?_; exact ⟨(z19 + 1), sp rfl, hv.2, rfl, hv.1, hS⟩
 have hv := hv.2 (oF c23); refine Jq <| Jb 4 <| W.ret <| ⟨_, rfl, Fin.nil ?_⟩
 exact (hS.pick [] rfl).fin rfl ⟨true, rfl, rfl, hv⟩
def Jbx (Pf : Int) (Mf : Int) (mf : LI) (Q : Option GFv × Bool -> Prop) : Prop :=
  Jf3 Pf Mf mf (fun q => match q with | (none, r15) => Q6 Pf Mf mf (fun r23 => ((r23 ≠ 0) -> (Q (none, (decide (r15 ≠ 0))))) /\ (¬ (r23 ≠ 0) -> (((r15 ≠ 0) -> (Q (none, false))) /\ (¬ (r15 ≠ 0) -> (Q (none, false)))))) | (some F16, r15) => Q6 Pf Mf mf (fun r27 => ((r27 ≠ 0) -> (Q (none, (decide (r15 ≠ 0))))) /\ (¬ (r27 ≠ 0) -> (((r15 ≠ 0) -> (Q (none, false))) /\ (¬ (r15 ≠ 0) -> (Q (some F16, true)))))))
theorem Jj7 {w : World} {Q : Option GFv × Bool -> Prop} {Pf : Int} {Mf : Int} {mf : LI} {Bf : Nat} {Af : Option Addr} {nf kf : Nat} (hf : Rd Bf w 1 Af nf kf (is mf)) (hv : Jbx Pf Mf mf Q) :
  Calls Try.prog 6 #[.agg #[.int .i64 Pf, .int .i64 Mf, .slice Af nf kf]] w <| Rt w fun v Qr => ∃ (o : Option GFv) (b2 : Bool), Q (o, b2) /\ match o with | none => v = .tuple #[.pointer none, .bool true, .bool b2] /\ Qr = [] | some F => ∃ (ad : Addr) (lo hi : Nat), v = .tuple #[.pointer (some ad), .bool false, .bool true] /\ Qr = [.ch lo hi (fun wz => GFX lo hi wz ad F)] := by
 have hnf := hf.ilen; subst hnf; refine Jh <| Jg (vs := [.agg #[nI Pf, nI Mf, nS Af mf kf]]) [2, 3, 4] XF6 rfl rfl rfl rfl ?_; have hS := Jk w; unfold Jbx at hv; refine Jb 2 <| JC (z := 3) (cs := [nI Pf, nI Mf, nS Af mf kf]) hS rfl rfl rfl rfl ?_; intro g11 w12 hS; refine Jd 4 <| Jb 2 <| JK 0 J2 J6 hS rfl ⟨rfl, rfl⟩ rfl <| SL.call hS (ok_New (hS.ro hf) hv) XF13 rfl XN13 rfl rfl ?_; rintro _ _ w14 ⟨o, r15, hv, hK⟩ hGw14 hS; cases o with
 | none =>
  obtain ⟨rfl, rfl⟩ := hK
  change St _ _ _ _ [_] at hS
  refine Jd 6 <| Jb 3 <| JK 0 J2 J6 hS rfl ⟨rfl, rfl⟩ rfl <| SL.call hS (Jao (hS.ro hf) hv) XF14 rfl XN14 rfl rfl ?_; rintro _ _ w22 ⟨r23, rfl, rfl, hv⟩ hGw22 hS; have hS := hS.n0; refine Jd 2 <| Je rfl (fun c24 => ?_) (fun c24 => ?_)
  .have hv := hv.1 (oT c24); refine Jb 8 <| W.ret <| ⟨_, rfl, Fin.nil ?_⟩
   exact (hS.pick [] rfl).fin rfl ⟨none, (decide (r15 ≠ 0)), hv, rfl, rfl⟩
  have hv := hv.2 (oF c24); refine Ji <| Jb 5 <| Jp rfl rfl ?_; by_cases g25 : r15 ≠ 0
  .have hv := hv.1 g25; rw [decide_eq_true g25]; refine Jd 4 <| JO rfl <| Jb 6 <| W.ret <| ⟨_, rfl, Fin.nil ?_⟩
   exact (hS.pick [] rfl).fin rfl ⟨none, false, hv, rfl, rfl⟩
  have hv := hv.2 g25; rw [decide_eq_false g25]; refine Jd 3 <| Jdd Jhb rfl rfl rfl rfl <| Jd 2 <| JO rfl <| Jb 6 <| W.ret <| ⟨_, rfl, Fin.nil ?_⟩
  exact (hS.pick [] rfl).fin rfl ⟨none, false, hv, rfl, rfl⟩
 | some F16 =>
  obtain ⟨ad17, lo18, hi19, rfl, rfl⟩ := hK
  change St _ _ _ _ [_, _] at hS
  refine Jd 6 <| Jb 3 <| JK 1 J2 J6 hS rfl ⟨rfl, rfl⟩ rfl <| SL.call hS (Jao (hS.ro hf) hv) XF14 rfl XN14 rfl rfl ?_; rintro _ _ w26 ⟨r27, rfl, rfl, hv⟩ hGw26 hS; have hS := hS.n0; refine Jd 2 <| Je rfl (fun c28 => ?_) (fun c28 => ?_)
  .have hv := hv.1 (oT c28); refine Jb 8 <| W.ret <| ⟨_, rfl, Fin.nil ?_⟩
   exact (hS.pick [] rfl).fin rfl ⟨none, (decide (r15 ≠ 0)), hv, rfl, rfl⟩
  have hv := hv.2 (oF c28); refine Ji <| Jb 5 <| Jp rfl rfl ?_; by_cases g29 : r15 ≠ 0
  .have hv := hv.1 g29; rw [decide_eq_true g29]; refine Jd 4 <| JO rfl <| Jb 6 <| W.ret <| ⟨_, rfl, Fin.nil ?_⟩
   exact (hS.pick [] rfl).fin rfl ⟨none, false, hv, rfl, rfl⟩
  have hv := hv.2 g29; rw [decide_eq_false g29]; refine Jd 3 <| Jdd Jhb rfl rfl rfl rfl <| Jd 2 <| Yh rfl <| Ji <| Jb 7 <| W.ret <| ⟨_, rfl, Fin.nil ?_⟩
  exact (hS.pick [0] rfl).fin rfl ⟨some F16, true, hv, _, _, _, rfl, rfl⟩
end Go.Proofs.Ytgcdbnpenhclfaa
namespace Go.Proofs.Ytgcdbnpenhclfaa
open Go.RowKit
def QT (Pf : Int) (Mf : Int) (mf : LI) (x : Int) (Q : Bool -> Prop) : Prop :=
  Jbx Pf Mf mf (fun q => match q with | (none, r15) => Q r15 | (some F16, _) => QF F16 x (fun (r23, x24, r25) => Zh Pf Mf mf x (fun (r33, x34, r35) => ((r25 ≠ r35) -> Q false) /\ (¬ (r25 ≠ r35) -> (YR r23 x24 r33 x34 (fun r44 => (((!r44) = true) -> Q false) /\ ((!r44) = false -> (QF F16 (1 : Int) (fun (r47, x48, r49) => ((r47 ≠ 1) -> Q false) /\ (¬ (r47 ≠ 1) -> (((r49 ≠ 0) -> Q false) /\ (¬ (r49 ≠ 0) -> (((r35 ≠ 0) -> Q true) /\ (¬ (r35 ≠ 0) -> (YV F16 x r23 x24 (fun r60 => Q (decide (r60 = 0))))))))))))))))))
theorem Jab {w : World} {Q : Bool -> Prop} {Pf : Int} {Mf : Int} {mf : LI} {x : Int} {Bf : Nat} {Af : Option Addr} {nf kf : Nat} (hf : Rd Bf w 1 Af nf kf (is mf)) (hv : QT Pf Mf mf x Q) :
  Calls Try.prog 3 #[.agg #[.int .i64 Pf, .int .i64 Mf, .slice Af nf kf], .int .i64 x] w <| Rt w fun v Qr => ∃ (r0 : Bool), v = .bool r0 /\ Qr = [] /\ Q r0 := by
 have hnf := hf.ilen; subst hnf; refine Jh <| Jg (vs := [.agg #[nI Pf, nI Mf, nS Af mf kf], nI x]) [4] XF3 rfl rfl rfl rfl ?_; have hS := Jk w; unfold QT at hv; refine Jb 2 <| JC (z := 3) (cs := [nI Pf, nI Mf, nS Af mf kf]) hS rfl rfl rfl rfl ?_; intro g11 w12 hS; refine Jd 2 <| Jb 2 <| JK 0 J2 J6 hS rfl ⟨rfl, rfl⟩ rfl <| SL.call hS (Jj7 (hS.ro hf) hv) XF6 rfl XN6 rfl rfl ?_; rintro _ _ w14 ⟨o, r15, hv, hK⟩ hGw14 hS; cases o with
 | none =>
  obtain ⟨rfl, rfl⟩ := hK
  change St _ _ _ _ [_] at hS
  refine Jd 8 <| Jb 5 <| JO rfl <| Jb 5 <| W.ret <| ⟨_, rfl, Fin.nil ?_⟩
  exact (hS.pick [] rfl).fin rfl ⟨r15, rfl, rfl, hv⟩
 | some F16 =>
  obtain ⟨ad17, lo18, hi19, rfl, rfl⟩ := hK
  change St _ _ _ _ [_, _] at hS
  refine Jd 8 <| Jb 5 <| Yh rfl <| Ji <| Jb 4 <| SL.call hS (Jar (Jbz (hS.chunk (i := 0) rfl)) hv) XF7 rfl XN7 rfl rfl ?_; rintro _ _ w22 ⟨r23, x24, r25, A26, k27, rfl, rfl, hv⟩ hGw22 hS; have hS := hS.n1; refine Jd 3 <| SL.alloc (cs := [nI 0, .slice none 0 0]) hS QN rfl rfl ?_; intro g29 w30 hS; refine J0 (cs := [nI r23, nS A26 x24 k27]) 0 hS rfl QN rfl rfl rfl rfl rfl ?_; intro w31 hS; refine Jd 2 <| Jb 2 <| JK 3 J2 J6 hS rfl ⟨rfl, rfl⟩ rfl <| Jp rfl rfl <| SL.call hS (Jd0 (hS.ro hf) hv) XF8 rfl XN8 rfl rfl ?_; rintro _ _ w32 ⟨r33, x34, r35, A36, k37, rfl, rfl, hv⟩ hGw32 hS; have hS := hS.n1; refine Jd 3 <| SL.alloc (cs := [nI 0, .slice none 0 0]) hS QN rfl rfl ?_; intro g39 w40 hS; refine J0 (cs := [nI r33, nS A36 x34 k37]) 0 hS rfl QN rfl rfl rfl rfl rfl ?_; intro w41 hS; refine Jd 2 <| Jb 6 <| Jp rfl rfl ?_; by_cases g42 : r25 ≠ r35
  .have hv := hv.1 g42; rw [decide_eq_true g42]; refine Jd 6 <| JO rfl <| Jb 4 <| W.ret <| ⟨_, rfl, Fin.nil ?_⟩
   exact (hS.pick [] rfl).fin rfl ⟨false, rfl, rfl, hv⟩
  have hv := hv.2 g42; rw [decide_eq_false g42]; refine WL.take rfl <| JK 2 QN Jev hS rfl ⟨rfl, rfl⟩ rfl <| WL.take rfl <| JK 0 QN Jev hS rfl ⟨rfl, rfl⟩ rfl <| WL.take rfl <| SL.call hS (Jgf (hS.rd (i := 3) rfl) (hS.rd (i := 1) rfl) hv) XF9 rfl XN9 rfl rfl ?_; rintro _ _ w43 ⟨r44, rfl, rfl, hv⟩ hGw43 hS; have hS := hS.n0; refine Jd 4 <| Je rfl (fun c45 => ?_) (fun c45 => ?_)
  .have hv := hv.1 (c45); refine Jb 4 <| W.ret <| ⟨_, rfl, Fin.nil ?_⟩
   exact (hS.pick [] rfl).fin rfl ⟨false, rfl, rfl, hv⟩
  have hv := hv.2 (c45); refine Ji <| Jb 3 <| SL.call hS (Jar (Jbz (hS.chunk (i := 4) rfl)) hv) XF7 rfl XN7 rfl rfl ?_; rintro _ _ w46 ⟨r47, x48, r49, A50, k51, rfl, rfl, hv⟩ hGw46 hS; have hS := hS.n1; refine Jd 3 <| SL.alloc (cs := [nI 0, .slice none 0 0]) hS QN rfl rfl ?_; intro g53 w54 hS; refine J0 (cs := [nI r47, nS A50 x48 k51]) 0 hS rfl QN rfl rfl rfl rfl rfl ?_; intro w55 hS; refine Jd 2 <| Jb 3 <| Jc (off := 0) Q2 rfl rfl <| Jl 0 0 XU3 hS rfl rfl rfl ⟨rfl, rfl⟩ <| Zw rfl rfl rfl <| Jp rfl rfl ?_; by_cases g56 : r47 ≠ 1
  .have hv := hv.1 g56; rw [decide_eq_true g56]; refine Jd 4 <| JO rfl <| Jb 4 <| W.ret <| ⟨_, rfl, Fin.nil ?_⟩
   exact (hS.pick [] rfl).fin rfl ⟨false, rfl, rfl, hv⟩
  have hv := hv.2 g56; rw [decide_eq_false g56]; refine Jd 6 <| Je rfl (fun c57 => ?_) (fun c57 => ?_)
  .have hv := hv.1 (oT c57); refine Jb 4 <| W.ret <| ⟨_, rfl, Fin.nil ?_⟩
   exact (hS.pick [] rfl).fin rfl ⟨false, rfl, rfl, hv⟩
  have hv := hv.2 (oF c57); refine Ji <| Jb 4 <| Jp rfl rfl ?_; by_cases g58 : r35 ≠ 0
  .have hv := hv.1 g58; rw [decide_eq_true g58]; refine Jd 8 <| W.ret <| ⟨_, rfl, Fin.nil ?_⟩
   exact (hS.pick [] rfl).fin rfl ⟨true, rfl, rfl, hv⟩
  have hv := hv.2 g58; rw [decide_eq_false g58]; refine Jd 5 <| JK 4 QN Jev hS rfl ⟨rfl, rfl⟩ rfl <| WL.take rfl <| SL.call hS (Jgj (Jbz (hS.chunk (i := 6) rfl)) (hS.rd (i := 5) rfl) hv) XF10 rfl XN10 rfl rfl ?_; rintro _ _ w59 ⟨r60, rfl, rfl, hv⟩ hGw59 hS; have hS := hS.n0; refine Jd 5 <| W.ret <| ⟨_, rfl, Fin.nil ?_⟩
  exact (hS.pick [] rfl).fin rfl ⟨(decide (r60 = 0)), rfl, rfl, hv⟩
end Go.Proofs.Ytgcdbnpenhclfaa
namespace Go.Proofs.Ytgcdbnpenhclfaa
end Go.Proofs.Ytgcdbnpenhclfaa
namespace Go.Proofs.Ytgcdbnpenhclfaa
abbrev Vec := Nat -> Int
def tX (m : Nat) (c : Vec) (v : Vec) : Vec := fun i => if i < m then (if i = 0 then 0 else v (i - 1)) - c i * v (m - 1) else 0
def Jw (u v : Vec) : Vec := fun i => u i + v i
def vsm (a : Int) (v : Vec) : Vec := fun i => a * v i
def vz : Vec := fun _ => 0
def e0 : Vec := fun i => if i = 0 then 1 else 0
def tXn (m : Nat) (c : Vec) : Nat -> Vec -> Vec
  | 0, v => v
  | n + 1, v => tX m c (tXn m c n v)
def opr (m : Nat) (c b : Vec) : Nat -> Vec -> Vec
  | 0, _ => vz
  | n + 1, v => Jw (opr m c b n v) (vsm (b n) (tXn m c n v))
def Qi (m : Nat) (c a b : Vec) : Vec := opr m c b m a
section
variable (m : Nat) (c : Vec)
theorem tX_add (u v : Vec) : tX m c (Jw u v) = Jw (tX m c u) (tX m c v) := by
 funext i; simp only [tX, Jw]; split
 .split <;> grind
 .rfl
theorem tX_sm (a : Int) (v : Vec) : tX m c (vsm a v) = vsm a (tX m c v) := by
 funext i; simp only [tX, vsm]; split
 .split <;> grind
 .grind
theorem tX_z : tX m c vz = vz := by funext i; simp [tX, vz]
theorem Yt (u : Vec) : Jw u vz = u := by funext i; simp [Jw, vz]
theorem z_vadd (u : Vec) : Jw vz u = u := by funext i; simp [Jw, vz]
theorem Jah (u v : Vec) : Jw u v = Jw v u := by funext i; simp only [Jw]; omega
theorem QG (u v w : Vec) : Jw (Jw u v) w = Jw u (Jw v w) := by funext i; simp only [Jw]; omega
theorem Zr (a : Int) (u v : Vec) : vsm a (Jw u v) = Jw (vsm a u) (vsm a v) := by funext i; simp only [Jw, vsm]; grind
theorem Ja2 (a b : Int) (u : Vec) : vsm a (vsm b u) = vsm (a * b) u := by funext i; simp only [vsm]; grind
theorem Je3 (a : Int) : vsm a vz = vz := by funext i; simp [vsm, vz]
theorem YF (n : Nat) (u v : Vec) : tXn m c n (Jw u v) = Jw (tXn m c n u) (tXn m c n v) := by
 induction n with
 | zero => rfl
 | succ n ih => simp only [tXn, ih, tX_add]
theorem Y1 (n : Nat) (a : Int) (v : Vec) : tXn m c n (vsm a v) = vsm a (tXn m c n v) := by
 induction n with
 | zero => rfl
 | succ n ih => simp only [tXn, ih, tX_sm]
theorem Jb7 (n : Nat) : tXn m c n vz = vz := by
 induction n with
 | zero => rfl
 | succ n ih => simp only [tXn, ih, tX_z]
theorem Jh0 (n : Nat) (v : Vec) : tXn m c n (tX m c v) = tX m c (tXn m c n v) := by
 induction n with
 | zero => rfl
 | succ n ih => simp only [tXn, ih]
theorem Zv (n k : Nat) (v : Vec) : tXn m c n (tXn m c k v) = tXn m c (n + k) v := by
 induction n with
 | zero => simp [tXn]
 | succ n ih => rw [Nat.succ_add]; simp only [tXn, ih]
variable (b : Vec)
theorem Jfi (n : Nat) (u v : Vec) : opr m c b n (Jw u v) = Jw (opr m c b n u) (opr m c b n v) := by
 induction n with
 | zero => simp [opr, Yt]
 | succ n ih => simp only [opr, ih, YF, Zr]; funext i; simp only [Jw]; omega
theorem Jif (n : Nat) (a : Int) (v : Vec) : opr m c b n (vsm a v) = vsm a (opr m c b n v) := by
 induction n with
 | zero => simp [opr, Je3]
 | succ n ih => simp only [opr, ih, Y1, Zr, Ja2]; rw [Int.mul_comm (b n) a]
theorem opr_z (n : Nat) : opr m c b n vz = vz := by
 induction n with
 | zero => rfl
 | succ n ih => simp only [opr, ih, Jb7, Je3, Yt]
theorem Jfh (n k : Nat) (v : Vec) : opr m c b n (tXn m c k v) = tXn m c k (opr m c b n v) := by
 induction n with
 | zero => simp [opr, Jb7]
 | succ n ih => simp only [opr, ih, YF, Y1, Zv]; rw [Nat.add_comm n k]
theorem Jcg (d : Vec) (n k : Nat) (v : Vec) : opr m c b n (opr m c d k v) = opr m c d k (opr m c b n v) := by
 induction n with
 | zero => simp only [opr, opr_z]
 | succ n ih => simp only [opr, ih, Jfi, Jif, Jfh]
theorem Jie (d : Vec) (n : Nat) (v : Vec) : opr m c (Jw b d) n v = Jw (opr m c b n v) (opr m c d n v) := by
 induction n with
 | zero => simp [opr, Yt]
 | succ n ih => simp only [opr, ih]; funext i; simp only [Jw, vsm]; grind
end
def vei (k : Nat) : Vec := fun i => if i = k then 1 else 0
theorem Jdq {m : Nat} {c : Vec} : ∀ {k : Nat}, k < m -> tXn m c k e0 = vei k
 | 0, _ => rfl
 | k + 1, h => by
  have ih : tXn m c k e0 = vei k := Jdq (by omega); simp only [tXn, ih]; funext i; simp only [tX, vei]; split
  .rw [if_neg (show ¬ m - 1 = k by omega)]; by_cases h0 : i = 0
   .subst h0; simp
   .simp only [h0, if_false]; by_cases h1 : i = k + 1
    .subst h1; simp
    .rw [if_neg (by omega), if_neg h1]; simp
  .rw [if_neg (by omega)]
theorem Jbd {m : Nat} {c a : Vec} : ∀ {n : Nat}, n <= m -> ∀ i, opr m c a n e0 i = if i < n then a i else 0
  | 0, _, i => by simp [opr, vz]
  | n + 1, h, i => by
    simp only [opr, Jw, vsm]
    rw [Jbd (n := n) (by omega) i, Jdq (by omega)]
    simp only [vei]
    by_cases h1 : i = n
    . subst h1; simp
    . by_cases h2 : i < n
      . simp [h2, h1, show i < n + 1 by omega]
      . simp [h2, h1, show ¬ i < n + 1 by omega]
def Sup (m : Nat) (v : Vec) : Prop := ∀ i, m <= i -> v i = 0
theorem QV {m : Nat} {c a : Vec} (h : Sup m a) : opr m c a m e0 = a := by
 funext i; rw [Jbd (Nat.le_refl m)]; split
 .rfl
 .exact (h i (by omega)).symm
theorem Sup.z {m : Nat} : Sup m vz := fun _ _ => rfl
theorem Sup.tX {m : Nat} {c v : Vec} : Sup m (tX m c v) := fun i h => by simp [Go.Proofs.Ytgcdbnpenhclfaa.tX, show ¬ i < m by omega]
theorem Sup.add {m : Nat} {u v : Vec} (hu : Sup m u) (hv : Sup m v) : Sup m (Jw u v) := fun i h => by simp [Jw, hu i h, hv i h]
theorem Sup.sm {m : Nat} {a : Int} {v : Vec} (hv : Sup m v) : Sup m (vsm a v) := fun i h => by simp [vsm, hv i h]
theorem Sup.tXn {m : Nat} {c v : Vec} (hv : Sup m v) : ∀ n, Sup m (tXn m c n v)
 | 0 => hv
 | _ + 1 => Sup.tX
theorem Sup.opr {m : Nat} {c b v : Vec} (hv : Sup m v) : ∀ n, Sup m (opr m c b n v)
 | 0 => Sup.z
 | n + 1 => (Sup.opr hv n).add (hv.tXn n).sm
theorem Q9 {m : Nat} {c a b : Vec} (ha : Sup m a) (hb : Sup m b) : Qi m c a b = Qi m c b a := by
 unfold Qi
 calc opr m c b m a = opr m c b m (opr m c a m e0) := by rw [QV ha]
  _ = opr m c a m (opr m c b m e0) := Jcg ..
  _ = opr m c a m b := by rw [QV hb]
theorem Jdn {m : Nat} {c a b d : Vec} (ha : Sup m a) (hb : Sup m b) (hd : Sup m d) : Qi m c (Qi m c a b) d = Qi m c a (Qi m c b d) := by
 rw [Q9 (a := a) (b := Qi m c b d) ha (Sup.opr hb m)]; show opr m c d m (opr m c b m a) = opr m c a m (opr m c d m b); rw [<- Jcg m c d a m m b]; show opr m c d m (Qi m c a b) = opr m c d m (Qi m c b a); rw [Q9 ha hb]
theorem Jhp {m : Nat} {c a b d : Vec} : Qi m c a (Jw b d) = Jw (Qi m c a b) (Qi m c a d) := Jie ..
theorem Jho {m : Nat} {c a : Vec} (hm : 0 < m) : Qi m c a e0 = a := by
 have key : ∀ n, 0 < n -> opr m c e0 n a = a := by
  intro n
  induction n with
  | zero => intro h; omega
  | succ n ih =>
   intro _; rcases Nat.eq_zero_or_pos n with h | h
   .subst h; funext i; simp [opr, e0, Jw, vsm, vz, tXn]
   .simp only [opr, ih h]; funext i; simp [e0, Jw, vsm, show n ≠ 0 by omega]
 exact key m hm
def vcg (p : Int) (u v : Vec) : Prop := ∀ i, u i % p = v i % p
section
variable {p : Int} {m : Nat} {c c' u u' v v' b b' : Vec}
theorem vcg.refl (u : Vec) : vcg p u u := fun _ => rfl
theorem vcg.symm (h : vcg p u v) : vcg p v u := fun i => (h i).symm
theorem vcg.trans {w : Vec} (h : vcg p u v) (k : vcg p v w) : vcg p u w := fun i => (h i).trans (k i)
theorem Y6 {a a' d d' : Int} (h : a % p = a' % p) (k : d % p = d' % p) : (a * d) % p = (a' * d') % p := by
 rw [Int.mul_emod, h, k, <- Int.mul_emod]
theorem Zd {a a' d d' : Int} (h : a % p = a' % p) (k : d % p = d' % p) : (a + d) % p = (a' + d') % p := by
 rw [Int.add_emod, h, k, <- Int.add_emod]
theorem Jdr {a a' d d' : Int} (h : a % p = a' % p) (k : d % p = d' % p) : (a - d) % p = (a' - d') % p := by
 rw [Int.sub_emod, h, k, <- Int.sub_emod]
theorem vcg.add (h : vcg p u u') (k : vcg p v v') : vcg p (Jw u v) (Jw u' v') := fun i => Zd (h i) (k i)
theorem vcg.sm {a a' : Int} (ha : a % p = a' % p) (h : vcg p u u') : vcg p (vsm a u) (vsm a' u') := fun i => Y6 ha (h i)
theorem vcg.tX (hc : vcg p c c') (h : vcg p u u') : vcg p (tX m c u) (tX m c' u') := fun i => by
 simp only [Go.Proofs.Ytgcdbnpenhclfaa.tX]; split
 .split
  .exact Jdr rfl (Y6 (hc i) (h _))
  .exact Jdr (h _) (Y6 (hc i) (h _))
 .rfl
theorem vcg.tXn (hc : vcg p c c') (h : vcg p u u') : ∀ n, vcg p (tXn m c n u) (tXn m c' n u')
 | 0 => h
 | n + 1 => vcg.tX hc (vcg.tXn hc h n)
theorem vcg.opr (hc : vcg p c c') (hb : vcg p b b') (h : vcg p u u') : ∀ n, vcg p (opr m c b n u) (opr m c' b' n u')
 | 0 => .refl _
 | n + 1 => (vcg.opr hc hb h n).add (vcg.sm (hb n) (vcg.tXn hc h n))
theorem vcg.mul (hc : vcg p c c') (h : vcg p u u') (hb : vcg p b b') : vcg p (Qi m c u b) (Qi m c' u' b') := vcg.opr hc hb h m
end
end Go.Proofs.Ytgcdbnpenhclfaa
namespace Go.Proofs.Ytgcdbnpenhclfaa
def dv (p x : Nat) : Vec := fun i => ((x / p ^ i % p : Nat) : Int)
def vl (p : Nat) : Nat -> Vec -> Int
  | 0, _ => 0
  | n + 1, v => v 0 + (p : Int) * vl p n (fun i => v (i + 1))
def Cn (p n : Nat) (v : Vec) : Prop := ∀ i, i < n -> 0 <= v i /\ v i < p
def nm (p m : Nat) (v : Vec) : Nat := (vl p m (fun i => v i % (p : Int))).toNat
theorem Yf (p x i : Nat) : dv p x (i + 1) = dv p (x / p) i := by
 simp only [dv]; rw [Nat.pow_succ', <- Nat.div_div_eq_div_mul]
theorem QM (p x : Nat) : dv p x 0 = ((x % p : Nat) : Int) := by simp [dv]
theorem Cn.tl {p n : Nat} {v : Vec} (h : Cn p (n + 1) v) : Cn p n (fun i => v (i + 1)) := fun i hi => h (i + 1) (by omega)
theorem Je4 {p : Nat} (hp : 0 < p) : ∀ {n : Nat} {v : Vec}, Cn p n v -> 0 <= vl p n v /\ vl p n v < ((p ^ n : Nat) : Int)
 | 0, v, _ => by simp [vl]
 | n + 1, v, h => by
  have ih := Je4 hp h.tl; have h0 := h 0 (by omega); simp only [vl]; have h1 : (p : Int) * vl p n (fun i => v (i + 1)) <= p * (((p ^ n : Nat) : Int) - 1) := Int.mul_le_mul_of_nonneg_left (by omega) (by omega); have h2 : 0 <= (p : Int) * vl p n (fun i => v (i + 1)) := Int.mul_nonneg (by omega) ih.1; have h3 : ((p ^ (n + 1) : Nat) : Int) = p * ((p ^ n : Nat) : Int) := by rw [Nat.pow_succ']; push_cast; rfl
  have h4 : (p : Int) * (((p ^ n : Nat) : Int) - 1) = p * ((p ^ n : Nat) : Int) - p := by rw [Int.mul_sub, Int.mul_one]
  omega
theorem ZA {p : Nat} : ∀ {n : Nat} {u v : Vec}, (∀ i, i < n -> u i = v i) -> vl p n u = vl p n v
 | 0, _, _, _ => rfl
 | n + 1, u, v, h => by simp only [vl]; rw [h 0 (by omega), ZA (n := n) fun i hi => h (i + 1) (by omega)]
theorem Jhq {p : Nat} (hp : 0 < p) : ∀ {n x : Nat}, x < p ^ n -> vl p n (dv p x) = x
 | 0, x, h => by simp at h; subst h; rfl
 | n + 1, x, h => by
  simp only [vl]; have : (fun i => dv p x (i + 1)) = dv p (x / p) := by funext i; exact Yf p x i
  rw [this, Jhq hp (n := n) (by rw [Nat.div_lt_iff_lt_mul hp, <- Nat.pow_succ]; exact h), QM]; have := Nat.mod_add_div x p; have h2 : ((x % p + p * (x / p) : Nat) : Int) = (x : Int) := by rw [this]
  push_cast at h2 ⊢; exact h2
theorem dv_vl {p : Nat} (hp : 0 < p) : ∀ {n : Nat} {v : Vec}, Cn p n v -> ∀ i, i < n -> dv p (vl p n v).toNat i = v i
 | 0, _, _, i, hi => by omega
 | n + 1, v, h, i, hi => by
  have ih := Je4 hp h.tl; have h0 := h 0 (by omega); obtain ⟨t, ht⟩ := Int.eq_ofNat_of_zero_le ih.1; obtain ⟨a, ha⟩ := Int.eq_ofNat_of_zero_le h0.1; have hv : (vl p (n + 1) v).toNat = a + p * t := by
   simp only [vl]; rw [ht, ha]; have : (a : Int) + (p : Int) * (t : Int) = ((a + p * t : Nat) : Int) := by push_cast; rfl
   rw [this]; rfl
  have hap : a < p := by have := h0.2; rw [ha] at this; omega
  rw [hv]; cases i with
  | zero => rw [QM, Nat.add_mul_mod_self_left, Nat.mod_eq_of_lt hap, ha]
  | succ i =>
   rw [Yf]; have h2 : (a + p * t) / p = t := by rw [Nat.add_mul_div_left _ _ hp, Nat.div_eq_of_lt hap, Nat.zero_add]
   have ih2 := dv_vl hp h.tl i (by omega); rw [ht] at ih2; rw [h2]; exact ih2
section
variable {p m : Nat}
theorem md_cn (hp : 0 < p) (v : Vec) (n : Nat) : Cn p n (fun i => v i % (p : Int)) := fun i _ => ⟨Int.emod_nonneg _ (by omega), Int.emod_lt_of_pos _ (by omega)⟩
theorem Yr (hp : 0 < p) (v : Vec) : nm p m v < p ^ m := by
 have := Je4 hp (md_cn hp v m); unfold nm; omega
theorem Jft (hp : 0 < p) (v : Vec) {i : Nat} (hi : i < m) : dv p (nm p m v) i = v i % (p : Int) := dv_vl hp (md_cn hp v m) i hi
theorem Jav (hp : 0 < p) (x n : Nat) : Cn p n (dv p x) := fun i _ => by
 have := Nat.mod_lt (x / p ^ i) hp; simp only [dv]; omega
theorem Ji3 {x i : Nat} (hx : x < p ^ m) (hi : m <= i) : dv p x i = 0 := by
 rcases Nat.eq_zero_or_pos p with rfl | hp
 .simp only [dv]; cases m with
  | zero =>
   have : x = 0 := by simpa using hx
   subst this; simp
  | succ m => simp at hx
 .have : x / p ^ i = 0 := Nat.div_eq_of_lt (Nat.lt_of_lt_of_le hx (Nat.pow_le_pow_right hp hi)); simp [dv, this]
theorem Qe {x : Nat} (hx : x < p ^ m) : Sup m (dv p x) := fun i hi => Ji3 hx hi
theorem Yw (x i : Nat) : dv p x i % (p : Int) = dv p x i := by
 simp only [dv]; rw [<- Int.natCast_emod, Nat.mod_mod]
theorem Ys (hp : 0 < p) {x : Nat} (hx : x < p ^ m) : nm p m (dv p x) = x := by
 unfold nm; rw [ZA (v := dv p x) fun i _ => Yw x i, Jhq hp hx]; rfl
theorem Jin {u v : Vec} (h : ∀ i, i < m -> u i % (p : Int) = v i % (p : Int)) : nm p m u = nm p m v := by
 unfold nm; rw [ZA h]
theorem QI {u v : Vec} (h : vcg p u v) : nm p m u = nm p m v := Jin fun i _ => h i
theorem Jc7 (hp : 0 < p) {v : Vec} (hv : Sup m v) : vcg p (dv p (nm p m v)) v := fun i => by
 rcases Nat.lt_or_ge i m with h | h
 .rw [Jft hp v h, Int.emod_emod]
 .rw [Ji3 (Yr hp v) h, hv i h]
theorem nm_eq (hp : 0 < p) {x : Nat} {v : Vec} (hx : x < p ^ m) (h : ∀ i, i < m -> dv p x i = v i % (p : Int)) : nm p m v = x := by
 rw [<- Ys hp hx]; exact Jin fun i hi => by rw [h i hi, Int.emod_emod]
end
def Qs (p m x y : Nat) : Nat := nm p m (Jw (dv p x) (dv p y))
def fneg (p m x : Nat) : Nat := nm p m (vsm (-1) (dv p x))
def Js (p m : Nat) (c : Vec) (x y : Nat) : Nat := nm p m (Qi m c (dv p x) (dv p y))
section
variable {p m : Nat} {c : Vec}
theorem Jkn (hp : 0 < p) (x y : Nat) : Qs p m x y < p ^ m := Yr hp _
theorem Jkm (hp : 0 < p) (x : Nat) : fneg p m x < p ^ m := Yr hp _
theorem Jfs (hp : 0 < p) (x y : Nat) : Js p m c x y < p ^ m := Yr hp _
theorem Jbq (hp : 0 < p) {x y : Nat} (hx : x < p ^ m) (hy : y < p ^ m) : vcg p (dv p (Qs p m x y)) (Jw (dv p x) (dv p y)) := Jc7 hp ((Qe hx).add (Qe hy))
theorem Jko (hp : 0 < p) {x : Nat} (hx : x < p ^ m) : vcg p (dv p (fneg p m x)) (vsm (-1) (dv p x)) := Jc7 hp (Qe hx).sm
theorem Jhn {a b : Vec} (ha : Sup m a) : Sup m (Qi m c a b) := Sup.opr ha m
theorem YI (hp : 0 < p) {x y : Nat} (hx : x < p ^ m) : vcg p (dv p (Js p m c x y)) (Qi m c (dv p x) (dv p y)) := Jc7 hp (Jhn (Qe hx))
theorem Jgu (x y : Nat) : Qs p m x y = Qs p m y x := by unfold Qs; rw [Jah]
theorem Jef (hp : 0 < p) {x y z : Nat} (hx : x < p ^ m) (hy : y < p ^ m) (hz : z < p ^ m) : Qs p m (Qs p m x y) z = Qs p m x (Qs p m y z) := by
 show nm p m (Jw (dv p (Qs p m x y)) (dv p z)) = nm p m (Jw (dv p x) (dv p (Qs p m y z))); rw [QI ((Jbq hp hx hy).add (vcg.refl _)), QI ((vcg.refl (p := p) (dv p x)).add (Jbq hp hy hz)), QG]
theorem Jac (p : Nat) : dv p 0 = vz := by funext i; simp [dv, vz]
theorem Jgt (hp : 0 < p) {x : Nat} (hx : x < p ^ m) : Qs p m x 0 = x := by unfold Qs; rw [Jac, Yt, Ys hp hx]
theorem Jiz (hp : 0 < p) {x : Nat} (hx : x < p ^ m) : Qs p m x (fneg p m x) = 0 := by
 show nm p m (Jw (dv p x) (dv p (fneg p m x))) = 0; rw [QI ((vcg.refl (p := p) (dv p x)).add (Jko hp hx))]; have : Jw (dv p x) (vsm (-1) (dv p x)) = vz := by funext i; simp only [Jw, vsm, vz]; omega
 rw [this, <- Jac p, Ys hp (by exact Nat.pow_pos hp)]
theorem Y8 {x y : Nat} (hx : x < p ^ m) (hy : y < p ^ m) : Js p m c x y = Js p m c y x := by
 unfold Js; rw [Q9 (Qe hx) (Qe hy)]
theorem Jed (hp : 0 < p) {x y z : Nat} (hx : x < p ^ m) (hy : y < p ^ m) (hz : z < p ^ m) : Js p m c (Js p m c x y) z = Js p m c x (Js p m c y z) := by
 show nm p m (Qi m c (dv p (Js p m c x y)) (dv p z)) = nm p m (Qi m c (dv p x) (dv p (Js p m c y z))); rw [QI (vcg.mul (vcg.refl c) (YI hp hx) (vcg.refl _)), QI (vcg.mul (vcg.refl c) (vcg.refl (dv p x)) (YI hp hy)), Jdn (Qe hx) (Qe hy) (Qe hz)]
theorem Jbp (hp : 2 <= p) : dv p 1 = e0 := by
 funext i; cases i with
 | zero => rw [QM, Nat.mod_eq_of_lt (by omega)]; rfl
 | succ i =>
  have : (1 : Nat) / p ^ (i + 1) = 0 := Nat.div_eq_of_lt (Nat.one_lt_pow (by omega) (by omega)); simp [dv, this, e0]
theorem ZW (hp : 2 <= p) (hm : 0 < m) {x : Nat} (hx : x < p ^ m) : Js p m c x 1 = x := by
 unfold Js; rw [Jbp hp, Jho hm, Ys (by omega) hx]
theorem Jgr (hp : 0 < p) {x : Nat} (hx : x < p ^ m) : Js p m c x 0 = 0 := by
 rw [Y8 hx (Nat.pow_pos hp)]; unfold Js; rw [Jac]; have : Qi m c vz (dv p x) = vz := opr_z ..; rw [this, <- Jac p, Ys hp (Nat.pow_pos hp)]
theorem Jix (hp : 0 < p) {x y z : Nat} (hx : x < p ^ m) (hy : y < p ^ m) (hz : z < p ^ m) : Js p m c x (Qs p m y z) = Qs p m (Js p m c x y) (Js p m c x z) := by
 show nm p m (Qi m c (dv p x) (dv p (Qs p m y z))) = nm p m (Jw (dv p (Js p m c x y)) (dv p (Js p m c x z))); rw [QI (vcg.mul (vcg.refl c) (vcg.refl (dv p x)) (Jbq hp hy hz)), QI ((YI (c := c) hp hx).add (YI hp hx)), Jhp]
end
structure CR (q : Nat) (A M : Nat -> Nat -> Nat) : Prop where
  q2 : 2 <= q
  Al : ∀ x y, A x y < q
  Ml : ∀ x y, M x y < q
  Ac : ∀ x y, A x y = A y x
  Aa : ∀ {x y z}, x < q -> y < q -> z < q -> A (A x y) z = A x (A y z)
  Az : ∀ {x}, x < q -> A x 0 = x
  An : ∀ {x}, x < q -> ∃ y, y < q /\ A x y = 0
  Mc : ∀ {x y}, x < q -> y < q -> M x y = M y x
  Ma : ∀ {x y z}, x < q -> y < q -> z < q -> M (M x y) z = M x (M y z)
  M1 : ∀ {x}, x < q -> M x 1 = x
  M0 : ∀ {x}, x < q -> M x 0 = 0
  Md : ∀ {x y z}, x < q -> y < q -> z < q -> M x (A y z) = A (M x y) (M x z)
theorem Je1 {p m : Nat} (c : Vec) (hp : 2 <= p) (hm : 0 < m) : CR (p ^ m) (Qs p m) (Js p m c) where
 q2 := Nat.le_trans hp (by have := Nat.pow_le_pow_right (n := p) (by omega) hm; simpa using this)
 Al := Jkn (by omega)
 Ml := Jfs (by omega)
 Ac := Jgu
 Aa := Jef (by omega)
 Az := Jgt (by omega)
 An := fun {x} hx => ⟨fneg p m x, Jkm (by omega) x, Jiz (by omega) hx⟩
 Mc := Y8
 Ma := Jed (by omega)
 M1 := ZW hp hm
 M0 := Jgr (by omega)
 Md := Jix (by omega)
end Go.Proofs.Ytgcdbnpenhclfaa
namespace Go.Proofs.Ytgcdbnpenhclfaa
def pw (M : Nat -> Nat -> Nat) (g : Nat) : Nat -> Nat
  | 0 => 1
  | k + 1 => M (pw M g k) g
theorem php : ∀ (n : Nat) (f : Nat -> Nat), (∀ i, i < n + 1 -> f i < n) -> ∃ i j, i < j /\ j < n + 1 /\ f i = f j
 | 0, f, h => absurd (h 0 (by omega)) (by omega)
 | n + 1, f, h => by
  by_cases hc : ∃ i, i < n + 1 /\ f i = f (n + 1)
  .obtain ⟨i, hi, he⟩ := hc; exact ⟨i, n + 1, hi, by omega, he⟩
  .have hv := h (n + 1) (by omega); obtain ⟨i, j, hij, hj, he⟩ := php n (fun i => if f i = n then f (n + 1) else f i) (fun i hi => by
    have hne : f i ≠ f (n + 1) := fun e => hc ⟨i, hi, e⟩; have := h i (by omega); show (if f i = n then f (n + 1) else f i) < n; split
    .omega
    .omega)
   refine ⟨i, j, hij, by omega, ?_⟩; have hi1 : f i ≠ f (n + 1) := fun e => hc ⟨i, by omega, e⟩; have hj1 : f j ≠ f (n + 1) := fun e => hc ⟨j, by omega, e⟩; split at he <;> split at he <;> omega
theorem Jb8 {n : Nat} {f : Nat -> Nat} (hb : ∀ i, i < n -> f i < n) (hi : ∀ i j, i < j -> j < n -> f i ≠ f j) {y : Nat} (hy : y < n) : ∃ i, i < n /\ f i = y := by
 obtain ⟨i, j, hij, hj, he⟩ := php n (fun i => if i < n then f i else y) (fun i _ => by
  show (if i < n then f i else y) < n; split
  .rename_i h; exact hb i h
  .exact hy)
 rcases Nat.lt_or_ge j n with h | h
 .rw [if_pos h, if_pos (show i < n by omega)] at he; exact absurd he (hi i j hij h)
 .rw [if_neg (show ¬ j < n by omega), if_pos (show i < n by omega)] at he; exact ⟨i, by omega, he⟩
section
variable {q : Nat} {A M : Nat -> Nat -> Nat} (R : CR q A M)
include R
namespace CR
theorem one_lt : 1 < q := R.q2
theorem pos : 0 < q := by have := R.q2; omega
theorem I1 {x : Nat} (hx : x < q) : M 1 x = x := by rw [R.Mc R.one_lt hx, R.M1 hx]
theorem Z0 {x : Nat} (hx : x < q) : M 0 x = 0 := by rw [R.Mc R.pos hx, R.M0 hx]
theorem pw_lt (g : Nat) : ∀ k, pw M g k < q
 | 0 => R.one_lt
 | k + 1 => R.Ml _ _
theorem pw_one {g : Nat} (hg : g < q) : pw M g 1 = g := R.I1 hg
theorem pw_add {g : Nat} (hg : g < q) (i : Nat) : ∀ j, pw M g (i + j) = M (pw M g i) (pw M g j)
 | 0 => (R.M1 (R.pw_lt g i)).symm
 | j + 1 => by
  show M (pw M g (i + j)) g = M (pw M g i) (M (pw M g j) g); rw [pw_add hg i j, R.Ma (R.pw_lt g i) (R.pw_lt g j) hg]
theorem pw_pw {g : Nat} (hg : g < q) (i : Nat) : ∀ j, pw M (pw M g i) j = pw M g (i * j)
 | 0 => rfl
 | j + 1 => by
  show M (pw M (pw M g i) j) (pw M g i) = _; rw [pw_pw hg i j, <- R.pw_add hg]; rfl
theorem one_pw : ∀ j, pw M 1 j = 1
 | 0 => rfl
 | j + 1 => by show M (pw M 1 j) 1 = 1; rw [one_pw j, R.M1 R.one_lt]
theorem zero_pw {n : Nat} (h : 0 < n) : pw M 0 n = 0 := by
 cases n with
 | zero => omega
 | succ n => exact R.M0 (R.pw_lt 0 n)
end CR
end
structure Gn (q : Nat) (M : Nat -> Nat -> Nat) (g : Nat) : Prop where
  lt : g < q
  one : pw M g (q - 1) = 1
  no : ∀ k, 0 < k -> k < q - 1 -> pw M g k ≠ 1
namespace Gn
variable {q g : Nat} {A M : Nat -> Nat -> Nat}
theorem per (G : Gn q M g) (R : CR q A M) (i k : Nat) : pw M g (i + (q - 1) * k) = pw M g i := by
 rw [R.pw_add G.lt, <- R.pw_pw G.lt, G.one, R.one_pw, R.M1 (R.pw_lt g i)]
theorem modp (G : Gn q M g) (R : CR q A M) (i : Nat) : pw M g (i % (q - 1)) = pw M g i := by
 have := G.per R (i % (q - 1)) (i / (q - 1)); rw [Nat.mod_add_div] at this; exact this.symm
theorem ne0 (G : Gn q M g) (R : CR q A M) (k : Nat) : pw M g k ≠ 0 := fun h => by
 have h1 := G.per R 0 (k + 1); have hq := R.q2; rw [Nat.zero_add] at h1; have : (q - 1) * (k + 1) = k + ((q - 1) * (k + 1) - k) := by
  have : k + 1 <= (q - 1) * (k + 1) := Nat.le_mul_of_pos_left _ (by omega); omega
 rw [this, R.pw_add G.lt, h, R.Z0 (R.pw_lt g _)] at h1; exact absurd h1 (by show ¬ (0 : Nat) = 1; omega)
theorem inj (G : Gn q M g) (R : CR q A M) {i j : Nat} (hij : i < j) (hj : j < q - 1) : pw M g i ≠ pw M g j := fun h => by
 have e1 : M (pw M g i) (pw M g (q - 1 - i)) = 1 := by rw [<- R.pw_add G.lt, show i + (q - 1 - i) = q - 1 by omega, G.one]
 have e2 : M (pw M g j) (pw M g (q - 1 - i)) = pw M g (j - i) := by
  rw [<- R.pw_add G.lt, show j + (q - 1 - i) = (j - i) + (q - 1) * 1 by omega, G.per R]
 rw [h] at e1; exact G.no (j - i) (by omega) (by omega) (e2.symm.trans e1)
theorem surj (G : Gn q M g) (R : CR q A M) {x : Nat} (h0 : 0 < x) (hx : x < q) : ∃ k, k < q - 1 /\ pw M g k = x := by
 obtain ⟨i, hi, he⟩ := Jb8 (n := q - 1) (f := fun k => pw M g k - 1) (fun i hi => by
  have := R.pw_lt g i; have := G.ne0 R i; show pw M g i - 1 < q - 1; omega) (fun i j hij hj he => by
  have h1 := G.ne0 R i; have h2 := G.ne0 R j; exact G.inj R hij hj (by omega)) (y := x - 1) (by omega)
 have := G.ne0 R i; exact ⟨i, hi, by omega⟩
open Classical in
noncomputable def lg (q : Nat) (M : Nat -> Nat -> Nat) (g x : Nat) : Nat := if h : ∃ k, k < q - 1 /\ pw M g k = x then Classical.choose h else 0
theorem one_iff (G : Gn q M g) (R : CR q A M) (k : Nat) : pw M g k = 1 ↔ (q - 1) ∣ k := by
 have hq := R.q2; rw [<- G.modp R k]; constructor
 .intro h; rcases Nat.eq_zero_or_pos (k % (q - 1)) with h0 | h0
  .exact Nat.dvd_of_mod_eq_zero h0
  .exact absurd h (G.no _ h0 (Nat.mod_lt _ (by omega)))
 .intro h; rw [Nat.mod_eq_zero_of_dvd h]; rfl
theorem xone (G : Gn q M g) (R : CR q A M) {x : Nat} (h0 : 0 < x) (hx : x < q) : pw M x (q - 1) = 1 := by
  obtain ⟨k, hk, rfl⟩ := G.surj R h0 hx
  rw [R.pw_pw G.lt, Nat.mul_comm, <- R.pw_pw G.lt, G.one, R.one_pw]
theorem ord_iff (G : Gn q M g) (R : CR q A M) (e k : Nat) : pw M (pw M g e) k = 1 ↔ (q - 1) / Nat.gcd (q - 1) e ∣ k := by
  have hq := R.q2
  rw [R.pw_pw G.lt, G.one_iff R]
  have hg : 0 < Nat.gcd (q - 1) e := Nat.gcd_pos_of_pos_left _ (by omega)
  obtain ⟨a, ha⟩ := Nat.gcd_dvd_left (q - 1) e
  obtain ⟨b, hb⟩ := Nat.gcd_dvd_right (q - 1) e
  generalize hd : Nat.gcd (q - 1) e = d at *
  have hco : Nat.Coprime a b := by
    have := Nat.coprime_div_gcd_div_gcd (m := q - 1) (n := e) (by omega)
    rw [hd] at this
    rwa [show (q - 1) / d = a by rw [ha]; exact Nat.mul_div_cancel_left _ hg, show e / d = b by rw [hb]; exact Nat.mul_div_cancel_left _ hg] at this
  have e1 : (q - 1) / d = a := by rw [ha]; exact Nat.mul_div_cancel_left _ hg
  rw [e1]
  constructor
  . intro h
    have : a ∣ b * k := Nat.dvd_of_mul_dvd_mul_left hg (by rw [<- ha, <- Nat.mul_assoc, <- hb]; exact h)
    exact hco.dvd_of_dvd_mul_left this
  . rintro ⟨t, rfl⟩
    exact ⟨b * t, by rw [ha, hb]; simp only [Nat.mul_comm, Nat.mul_left_comm]⟩
end Gn
end Go.Proofs.Ytgcdbnpenhclfaa
namespace Go.Proofs.Ytgcdbnpenhclfaa
structure IsLf (n d : Nat) : Prop where
  two : 2 <= d
  dvd : n % d = 0
  min : ∀ e, 2 <= e -> n % e = 0 -> d <= e
def Ji4 : Nat -> Nat -> Nat
  | _, 0 => 1
  | 0, _ + 1 => 0
  | n + 1, k + 1 => Ji4 n k + Ji4 n (k + 1)
section
variable {q : Nat} {A M : Nat -> Nat -> Nat} (R : CR q A M)
include R
namespace CR
theorem Aac {a b c : Nat} (ha : a < q) (hb : b < q) (hc : c < q) : A (A a b) c = A (A a c) b := by
 rw [R.Aa ha hb hc, R.Ac b c, <- R.Aa ha hc hb]
theorem A4 {a b c d : Nat} (ha : a < q) (hb : b < q) (hc : c < q) (hd : d < q) : A (A a b) (A c d) = A (A a c) (A b d) := by
 rw [<- R.Aa (R.Al a b) hc hd, R.Aac ha hb hc, R.Aa (R.Al a c) hb hd]
end CR
end
end Go.Proofs.Ytgcdbnpenhclfaa
