/- Contracts of functions of the program, and what they lean on: D12, D13, D14, D15, Dt, Fa, Fb, Fg, Fp, Fk, Fc, V1. -/
import Derived.Test.YtopemhgpdlbkjaaTowerMinimalG4
set_option linter.unusedSimpArgs false
set_option linter.unusedVariables false
set_option maxRecDepth 4000
set_option maxHeartbeats 4000000
namespace Go.Proofs.Ytopemhgpdlbkjaa
open Go.RowKit
def QA (Fg : GFv) (d : Int) (Q : Bool -> Prop) : Prop :=
  (((1 : Int) <= d) -> (Q2 Fg (fun (r13, r14, x15) => (d ≠ 0) /\ (Q (decide ((r14.tmod d) = (0 : Int))))))) /\ (¬ ((1 : Int) <= d) -> Q false)
theorem Yy {w : World} {Q : Bool -> Prop} {Fg : GFv} {d : Int} {ag : Addr} {Bg : Nat} (hgg : GFR Bg w ag Fg) (hv : QA Fg d Q) :
   Calls Try.prog 27 #[.pointer (some ag), .int .i64 d] w <| Rt w fun v Qr => ∃ (r0 : Bool), v = .bool r0 /\ Qr = [] /\ Q r0 := by
 have hgg_ := hgg; obtain ⟨Ag_mod, kg_mod, Ag_exp, kg_exp, Ag_log, kg_log, Ag_above, kg_above, hg_c, hg_mod, hg_exp, hg_log, hg_above⟩ := hgg_; refine Jg <| Jf (vs := [.pointer (some ag), nI d]) [4] XF27 rfl rfl rfl rfl ?_; have hS := Jl w; unfold QA at hv; refine Jc 8 <| Jn rfl rfl ?_; by_cases g11 : (1 : Int) <= d
 .have hv := hv.1 g11; rw [decide_eq_true g11]; refine Jb 3 <| SL.call hS (Jbs (GFR.ext (GFR.norm hgg) hS.ext) hv) XF53 rfl XN53 rfl rfl ?_; rintro _ _ w12 ⟨r13, r14, x15, A16, k17, rfl, rfl, hv⟩ hGw12 hS; have hS := hS.n1; refine WL.take rfl <| Jgc (off := 1) Jnk rfl rfl rfl <| Jb 3 ?_; obtain ⟨o19, hv⟩ := hv; refine J3 (r := (r14.tmod d)) rfl rfl o19 rfl rfl <| Jb 5 <| W.ret <| ⟨_, rfl, Fin.nil ?_⟩
  exact (hS.pick [] rfl).fin rfl ⟨(decide ((r14.tmod d) = (0 : Int))), rfl, rfl, hv⟩
 have hv := hv.2 g11; rw [decide_eq_false g11]; refine Jb 9 <| W.ret <| ⟨_, rfl, Fin.nil ?_⟩
 exact (hS.pick [] rfl).fin rfl ⟨false, rfl, rfl, hv⟩
def Z3 (Fg : GFv) (x : Int) (k : Int) (Q : Int -> Prop) : Prop :=
  Q2 Fg (fun (r12, r13, x14) => (r13 ≠ 0) /\ (∃ J23 : Int -> Prop, ((((k.tmod r13) < (0 : Int)) -> ((I64 ((k.tmod r13) + r13)) /\ (J23 ((k.tmod r13) + r13)))) /\ (¬ ((k.tmod r13) < (0 : Int)) -> (J23 (k.tmod r13)))) /\ ∀ (z22 : Int), (J23 z22 -> (∃ (I33 : Int -> Int -> Prop) (μ34 : Int -> Int -> Nat), I33 1 (0 : Int) /\ ∀ (z31 : Int) (z32 : Int), (I33 z31 z32 -> (((z32 < z22) -> ((I64 (z31 * r12)) /\ ((I64 (z32 + 1)) /\ (I33 (z31 * r12) (z32 + 1) /\ μ34 (z31 * r12) (z32 + 1) < μ34 z31 z32)))) /\ (¬ (z32 < z22) -> (Jgh Fg x z31 (fun (r40, r41) => Q r40)))))))))
theorem Ji1 {w : World} {Q : Int -> Prop} {Fg : GFv} {x : Int} {k : Int} {ag : Addr} {Bg : Nat} (hgg : GFR Bg w ag Fg) (hv : Z3 Fg x k Q) :
   Calls Try.prog 29 #[.pointer (some ag), .int .i64 x, .int .i64 k] w <| Rt w fun v Qr => ∃ (r0 : Int), v = .int .i64 r0 /\ Qr = [] /\ Q r0 := by
 have hgg_ := hgg; obtain ⟨Ag_mod, kg_mod, Ag_exp, kg_exp, Ag_log, kg_log, Ag_above, kg_above, hg_c, hg_mod, hg_exp, hg_log, hg_above⟩ := hgg_; refine Jg <| Jf (vs := [.pointer (some ag), nI x, nI k]) [6] XF29 rfl rfl rfl rfl ?_; have hS := Jl w; unfold Z3 at hv; refine Jc 7 <| SL.call hS (Jbs (GFR.ext (GFR.norm hgg) hS.ext) hv) XF53 rfl XN53 rfl rfl ?_; rintro _ _ w11 ⟨r12, r13, x14, A15, k16, rfl, rfl, hv⟩ hGw11 hS; have hS := hS.n1; refine SL.alloc (cs := [nI 0, nI 0, .slice none 0 0]) hS JD rfl rfl ?_; intro g18 w19 hS; refine Z5 (cs := [nI r12, nI r13, nS A15 x14 k16]) 0 hS rfl JD rfl rfl rfl rfl rfl ?_; intro w20 hS; refine Ja <| Jc 3 <| Jd (off := 1) JN rfl rfl <| Jp 0 1 XU3 hS rfl rfl rfl ⟨rfl, rfl⟩ ?_; obtain ⟨o21, hv⟩ := hv; refine J3 (r := (k.tmod r13)) rfl rfl o21 rfl rfl <| Jb 2 <| Jc 6 ?_; obtain ⟨J23, hv, hk43⟩ := hv; refine YG (σ := Int) (fun z22 w1 => J23 z22 /\ St TT w none w1 [.row 24 3 (nA g18) 1 1 [nI r12, nI r13, nS A15 x14 k16], nR 3 A15 x14 k16]) (fun z22 => [(0, .pointer (some ag)), (1, nI x), (2, nI z22), (6, nI 0), (7, nP g18)]) ?_ ?_
 .refine Jh rfl (fun c24 => ?_) (fun c24 => ?_)
  .have hv := hv.1 (oT c24); refine Jc 2 <| Jd (off := 1) JN rfl rfl <| Jp 0 1 XU3 hS rfl rfl rfl ⟨rfl, rfl⟩ ?_; obtain ⟨o25, hv⟩ := hv; refine WL.add (r := ((k.tmod r13) + r13)) rfl rfl (wr o25) rfl <| Jb 2 ?_; exact ⟨((k.tmod r13) + r13), sp rfl, rfl, hv, hS⟩
  have hv := hv.2 (oF c24); refine Jj ?_; exact ⟨(k.tmod r13), sp rfl, rfl, hv, hS⟩
 rintro z22 w26 ⟨hv, hS⟩; have hv := hk43 z22 hv; refine Jc 10 <| W.block ?_; obtain ⟨I33, μ34, hv, hk42⟩ := hv; refine Jv (σ := Int × Int) (fun q w1 => match q with | (z31, z32) => I33 z31 z32 /\ St TT w none w1 [.row 24 3 (nA g18) 1 1 [nI r12, nI r13, nS A15 x14 k16], nR 3 A15 x14 k16]) (fun (z31, z32) => [(0, .pointer (some ag)), (1, nI x), (6, nI 0), (7, nP g18), (8, nI z31), (23, nI z22), (24, nI z32)]) (fun (z31, z32) => μ34 z31 z32) ((1 : Int), (0 : Int)) ⟨hv, hS⟩ ⟨rfl, rfl, rfl, rfl, rfl, rfl, rfl, trivial⟩ ?_; rintro ⟨z31, z32⟩ w35 ⟨hv, hS⟩; have hv := hk42 z31 z32 hv; refine Jc 5 <| Jh rfl (fun c36 => ?_) (fun c36 => ?_)
 .have hv := hv.1 (oT c36); refine Jj <| Jr <| W.block <| Jc 2 <| Jd (off := 0) JJ rfl rfl <| Jp 0 0 XU3 hS rfl rfl rfl ⟨rfl, rfl⟩ ?_; obtain ⟨o37, hv⟩ := hv; refine WL.mul (r := (z31 * r12)) rfl rfl (wr o37) rfl <| Jb 2 <| Jw ?_; obtain ⟨o38, hv⟩ := hv; refine WL.add (r := (z32 + 1)) rfl rfl (wr o38) rfl <| Jb 2 ?_; exact ⟨((z31 * r12), (z32 + 1)), sp rfl, hv.2, rfl, hv.1, hS⟩
 have hv := hv.2 (oF c36); refine Js <| Jc 5 <| SL.call hS (ok_Pow (GFR.ext (GFR.norm hgg) hS.ext) hv) XF55 rfl XN55 rfl rfl ?_; rintro _ _ w39 ⟨r40, r41, rfl, rfl, hv⟩ hGw39 hS; have hS := hS.n0; refine Jb 6 <| Jc 5 <| W.ret <| ⟨_, rfl, Fin.nil ?_⟩
 exact (hS.pick [] rfl).fin rfl ⟨r40, rfl, rfl, hv⟩
def ZC (Fg : GFv) (x : Int) (d : Int) (Q : LI -> Prop) : Prop :=
  Q2 Fg (fun (r12, r13, x14) => (d ≠ 0 /\ I64 (r13.tdiv d)) /\ ((0 <= (r13.tdiv d) /\ (r13.tdiv d) * 8 <= 281474976710656 /\ (r13.tdiv d) <= 281474976710656) /\ (∃ (I29 : LI -> Int -> Prop) (μ30 : LI -> Int -> Nat), I29 (List.replicate (r13.tdiv d).toNat (0 : Int)) (0 : Int) /\ ∀ (x27 : LI) (z28 : Int), (I29 x27 z28 -> (((z28 < (((r13.tdiv d).toNat : Nat) : Int)) -> ((I64 (d * z28)) /\ (Z3 Fg x (d * z28) (fun r35 => (0 <= z28 /\ z28 < ((r13.tdiv d).toNat : Nat)) /\ ((I64 (z28 + 1)) /\ (I29 (si x27 z28 r35) (z28 + 1) /\ μ30 (si x27 z28 r35) (z28 + 1) < μ30 x27 z28)))))) /\ (¬ (z28 < (((r13.tdiv d).toNat : Nat) : Int)) -> Q x27))))))
theorem Jfd {w : World} {Q : LI -> Prop} {Fg : GFv} {x : Int} {d : Int} {ag : Addr} {Bg : Nat} (hgg : GFR Bg w ag Fg) (hv : ZC Fg x d Q) :
  Calls Try.prog 31 #[.pointer (some ag), .int .i64 x, .int .i64 d] w <| Rt w fun v Qr => ∃ (r0 : LI) (Ar0 : Option Addr) (cr0 : Nat), v = .slice Ar0 r0.length cr0 /\ Qr = [.row 3 1 Ar0 r0.length cr0 (is r0)] /\ Q r0 := by
 have hgg_ := hgg; obtain ⟨Ag_mod, kg_mod, Ag_exp, kg_exp, Ag_log, kg_log, Ag_above, kg_above, hg_c, hg_mod, hg_exp, hg_log, hg_above⟩ := hgg_; refine Jg <| Jf (vs := [.pointer (some ag), nI x, nI d]) [6] XF31 rfl rfl rfl rfl ?_; have hS := Jl w; unfold ZC at hv; refine Jc 7 <| SL.call hS (Jbs (GFR.ext (GFR.norm hgg) hS.ext) hv) XF53 rfl XN53 rfl rfl ?_; rintro _ _ w11 ⟨r12, r13, x14, A15, k16, rfl, rfl, hv⟩ hGw11 hS; have hS := hS.n1; refine Jgc (off := 1) Jnk rfl rfl rfl <| Jn rfl rfl ?_; obtain ⟨o18, hv⟩ := hv; refine Jek (r := (r13.tdiv d)) rfl rfl o18.1 (wr o18.2) rfl ?_; obtain ⟨o19, hv⟩ := hv; refine J8 (J := (r13.tdiv d)) hS Jk XE3 rfl rfl o19 (J7 _) rfl ?_; intro A20 w21 hS; refine Jb 2 <| Jc 4 <| WL.len Jk rfl rfl <| Jb 2 <| W.block ?_; obtain ⟨I29, μ30, hv, hk39⟩ := hv; refine Jv (σ := LI × Int) (fun q w1 => match q with | (x27, z28) => I29 x27 z28 /\ St TT w none w1 [.row 3 1 A20 ((r13.tdiv d).toNat) ((r13.tdiv d).toNat) (is x27), nR 3 A15 x14 k16]) (fun (x27, z28) => [(0, .pointer (some ag)), (1, nI x), (2, nI d), (6, .slice none 0 0), (7, .slice A20 ((r13.tdiv d).toNat) ((r13.tdiv d).toNat)), (16, nI (((r13.tdiv d).toNat : Nat) : Int)), (17, nI z28)]) (fun (x27, z28) => μ30 x27 z28) (List.replicate (r13.tdiv d).toNat (0 : Int), (0 : Int)) ⟨hv, hS⟩ ⟨rfl, rfl, rfl, rfl, rfl, rfl, rfl, trivial⟩ ?_; rintro ⟨x27, z28⟩ w31 ⟨hv, hS⟩; have hv := hk39 x27 z28 hv; refine Jc 5 <| Jh rfl (fun c32 => ?_) (fun c32 => ?_)
 .have hv := hv.1 (oT c32); refine Jj <| Jr <| W.block <| Jc 12 ?_; obtain ⟨o33, hv⟩ := hv; refine WL.mul (r := (d * z28)) rfl rfl (wr o33) rfl <| SL.call hS (Ji1 (GFR.ext (GFR.norm hgg) hS.ext) hv) XF29 rfl XN29 rfl rfl ?_; rintro _ _ w34 ⟨r35, rfl, rfl, hv⟩ hGw34 hS; have hS := hS.n0; obtain ⟨o36, hv⟩ := hv; refine Ji Jk XE3 (hS.rd (i := 0) rfl) rfl rfl o36 rfl <| Jz (cs' := is (si x27 z28 r35)) 0 z28.toNat hS rfl XE3 rfl rfl rfl (Qe (hS.rd (i := 0) rfl) o36) (JT _ _ _) ?_; intro w37 hS; refine Ja <| Jw ?_; obtain ⟨o38, hv⟩ := hv; refine WL.add (r := (z28 + 1)) rfl rfl (wr o38) rfl <| Jb 2 ?_; exact ⟨(si x27 z28 r35, (z28 + 1)), sp rfl, hv.2, rfl, hv.1, hS⟩
 have hv := hv.2 (oF c32); refine Js <| Jc 5 <| W.ret ?_; have hm0 := (hS.rd (i := 0) rfl).ilen; have hS := hS.relen (i := 0) rfl hm0.symm; refine ⟨_, rfl, Fin.nil ?_⟩; exact ⟨_, hS.ext, (hS.pick [0] rfl).rows, QK (hS.pick [0] rfl).rows rfl, ⟨x27, A20, (r13.tdiv d).toNat, (by (try unfold nS); first | (rw [hm0]; done) | (rw [hm0]; rfl)), rfl, hv⟩⟩
def Jch (Fg : GFv) (x : Int) (d : Int) (Q : LI × Int -> Prop) : Prop :=
  QA Fg d (fun r12 => (((!r12) = true) -> (Q (([] : LI), (6 : Int)))) /\ ((!r12) = false -> (ZC Fg x d (fun x15 => ∃ J20 : Int -> Prop, (∃ (I24 : Int -> Prop) (μ25 : Int -> Nat), I24 1 /\ ∀ (z23 : Int), (I24 z23 -> (((z23 < (x15.length : Int)) -> ((0 <= z23 /\ z23 < (x15.length : Nat)) /\ ((0 <= (0 : Int) /\ (0 : Int) < (x15.length : Nat)) /\ ((((gi x15 z23) ≠ (gi x15 0)) -> ((I64 (z23 + 1)) /\ (I24 (z23 + 1) /\ μ25 (z23 + 1) < μ25 z23))) /\ (¬ ((gi x15 z23) ≠ (gi x15 0)) -> J20 z23))))) /\ (¬ (z23 < (x15.length : Int)) -> J20 z23)))) /\ ∀ (z19 : Int), (J20 z19 -> ((0 <= z19 /\ z19 <= (x15.length : Nat)) /\ (Q (x15.take z19.toNat, (0 : Int)))))))))
theorem Ji2 {w : World} {Q : LI × Int -> Prop} {Fg : GFv} {x : Int} {d : Int} {ag : Addr} {Bg : Nat} (hgg : GFR Bg w ag Fg) (hv : Jch Fg x d Q) :
   Calls Try.prog 18 #[.pointer (some ag), .int .i64 x, .int .i64 d] w <| Rt w fun v Qr => ∃ (r0 : LI) (r1 : Int) (Ar0 : Option Addr) (cr0 : Nat), v = .tuple #[.slice Ar0 r0.length cr0, .int .i64 r1] /\ Qr = [.row 3 1 Ar0 r0.length cr0 (is r0)] /\ Q (r0, r1) := by
 have hgg_ := hgg; obtain ⟨Ag_mod, kg_mod, Ag_exp, kg_exp, Ag_log, kg_log, Ag_above, kg_above, hg_c, hg_mod, hg_exp, hg_log, hg_above⟩ := hgg_; refine Jg <| Jf (vs := [.pointer (some ag), nI x, nI d]) [6, 7] XF18 rfl rfl rfl rfl ?_; have hS := Jl w; unfold Jch at hv; refine Jc 10 <| SL.call hS (Yy (GFR.ext (GFR.norm hgg) hS.ext) hv) XF27 rfl XN27 rfl rfl ?_; rintro _ _ w11 ⟨r12, rfl, rfl, hv⟩ hGw11 hS; have hS := hS.n0; refine Jb 2 <| Jh rfl (fun c13 => ?_) (fun c13 => ?_)
 .have hv := hv.1 (c13); refine Jc 5 <| W.ret ?_; have hS := hS.nil (e := 3) (z := 1); refine ⟨_, rfl, Fin.nil ?_⟩; exact (hS.pick [0] rfl).fin rfl ⟨([] : LI), (6 : Int), none, 0, rfl, rfl, hv⟩
 have hv := hv.2 (c13); refine Jj <| Jc 5 <| SL.call hS (Jfd (GFR.ext (GFR.norm hgg) hS.ext) hv) XF31 rfl XN31 rfl rfl ?_; rintro _ _ w14 ⟨x15, A16, k17, rfl, rfl, hv⟩ hGw14 hS; have hS := hS.n1; refine Jb 2 <| Jc 5 ?_; obtain ⟨J20, hv, hk65⟩ := hv; refine YG (σ := Int) (fun z19 w1 => J20 z19 /\ St TT w none w1 [nR 3 A16 x15 k17]) (fun z19 => [(6, .slice none 0 0), (7, nI 0), (8, nS A16 x15 k17), (9, nI z19)]) ?_ ?_
 .refine W.block ?_; obtain ⟨I24, μ25, hv, hk62⟩ := hv; refine Jv (σ := Int) (fun z23 w1 => I24 z23 /\ St TT w none w1 [nR 3 A16 x15 k17]) (fun z23 => [(6, .slice none 0 0), (7, nI 0), (8, nS A16 x15 k17), (9, nI z23)]) (fun z23 => μ25 z23) (1 : Int) ⟨hv, hS⟩ ⟨rfl, rfl, rfl, rfl, trivial⟩ ?_; rintro z23 w26 ⟨hv, hS⟩; have hv := hk62 z23 hv; refine Jr <| Jr ?_; by_cases g27 : z23 < (x15.length : Int)
  .have hv := hv.1 g27; obtain ⟨o36, hv⟩ := hv; obtain ⟨o40, hv⟩ := hv; refine JC 14 [⟨[], [9], true⟩, ⟨[], [8], true⟩, ⟨[1], [], true⟩, ⟨[0, 2], [], true⟩, ⟨[3], [], true⟩, ⟨[4], [8], true⟩, ⟨[4], [9], true⟩, ⟨[4, 5, 6], [], true⟩, ⟨[4, 7], [], false⟩, ⟨[4], [8], true⟩, ⟨[4, 9], [], true⟩, ⟨[4, 10], [], false⟩, ⟨[4, 8, 11], [], true⟩, ⟨[4, 12], [], true⟩] [(18, nI z23), (19, nS A16 x15 k17), (20, nI (x15.length : Int)), (21, .bool true), (22, .bool true), (23, nS A16 x15 k17), (24, nI z23), (25, .pointer (some ((JK A16).add z23.toNat))), (26, nI (gi x15 z23)), (27, nS A16 x15 k17), (28, .pointer (some ((JK A16).add ((0 : Int).toNat)))), (29, nI (gi x15 0)), (30, .bool (decide ((gi x15 z23) ≠ (gi x15 0)))), (31, .bool (decide ((gi x15 z23) ≠ (gi x15 0))))] Try.mixed (by kernel_rfl) rfl rfl ?_ ?_
   .refine ⟨oD, oD, fun _ _ _ => WL.len Jk rfl rfl <| Ja ⟨rfl, rfl⟩, ?_, oD, oD, oD, fun _ _ _ => WL.take rfl <| Ji Jk XE3 (hS.rd (i := 0) rfl) rfl rfl o36 rfl <| Ja ⟨rfl, rfl⟩, og hS fun _ _ hS => WL.take rfl <| Jm XU3 rfl rfl (JB (hS.rd (i := 0) rfl) o36) rfl <| Ja ⟨rfl, Je _⟩, oD, fun _ _ _ => WL.take rfl <| Ji Jk XE3 (hS.rd (i := 0) rfl) rfl rfl o40 rfl <| Ja ⟨rfl, rfl⟩, og hS fun _ _ hS => WL.take rfl <| Jm XU3 rfl rfl (JB (hS.rd (i := 0) rfl) o40) rfl <| Ja ⟨rfl, Je _⟩, oD, oD, trivial⟩; intro w31 hE RR; refine QY rfl rfl rfl ?_; rw [decide_eq_true g27]; exact Ja ⟨rfl, rfl⟩
   intro w44 hT; have hS := hS.grow hT; refine JW <| Jh rfl (fun c45 => ?_) (fun c45 => ?_)
   .have hv := hv.1 (oT c45); refine Jj <| W.block <| Jc 2 ?_; obtain ⟨o46, hv⟩ := hv; refine WL.add (r := (z23 + 1)) rfl rfl (wr o46) rfl <| Jb 2 ?_; exact ⟨(z23 + 1), sp rfl, hv.2, rfl, hv.1, hS⟩
   have hv := hv.2 (oF c45); refine Js ?_; exact ⟨z23, sp rfl, rfl, hv, hS⟩
  have hv := hv.2 g27; refine JC 14 [⟨[], [9], true⟩, ⟨[], [8], true⟩, ⟨[1], [], true⟩, ⟨[0, 2], [], true⟩, ⟨[3], [], true⟩, ⟨[4], [8], true⟩, ⟨[4], [9], true⟩, ⟨[4, 5, 6], [], true⟩, ⟨[4, 7], [], false⟩, ⟨[4], [8], true⟩, ⟨[4, 9], [], true⟩, ⟨[4, 10], [], false⟩, ⟨[4, 8, 11], [], true⟩, ⟨[4, 12], [], true⟩] [(18, nI z23), (19, nS A16 x15 k17), (20, nI (x15.length : Int)), (21, .bool false), (22, .bool false), (23, undef), (24, undef), (25, undef), (26, undef), (27, undef), (28, undef), (29, undef), (30, undef), (31, .bool false)] Try.mixed (by kernel_rfl) rfl rfl ?_ ?_
  .refine ⟨oD, oD, fun _ _ _ => WL.len Jk rfl rfl <| Ja ⟨rfl, rfl⟩, ?_, oD, oD, oD, oD, oD, oD, oD, oD, oD, oD, trivial⟩; intro w50 hE RR; refine QY rfl rfl rfl ?_; rw [decide_eq_false g27]; exact Ja ⟨rfl, rfl⟩
  intro w61 hT; have hS := hS.grow hT; refine JW <| QZ rfl <| Js ?_; exact ⟨z23, sp rfl, rfl, hv, hS⟩
 rintro z19 w63 ⟨hv, hS⟩; have hv := hk65 z19 hv; refine Jc 4 ?_; obtain ⟨o64, hv⟩ := hv; refine Jep Jk XE3 (hS.rd (i := 0) rfl) rfl rfl o64 rfl (x15.take z19.toNat).length (Jar (hS.rd (i := 0) rfl) o64) <| Jb 3 <| W.ret ?_; have hq0 := (hS.rd (i := 0) rfl).ilen; have hS := hS.shrink (i := 0) (k := z19.toNat) rfl (by omega); have hl0 : (x15.take z19.toNat).length = z19.toNat := by rw [List.length_take]; omega
 refine ⟨_, rfl, Fin.nil ?_⟩; exact ⟨_, hS.ext, (hS.pick [0] rfl).rows, QK (hS.pick [0] rfl).rows rfl, ⟨x15.take z19.toNat, (0 : Int), A16, k17, (by (try unfold nS); first | (rw [hl0]; done) | (rw [hl0]; rfl)), rfl, hv⟩⟩
def YT (Fg : GFv) (x : Int) (Q : Int -> Prop) : Prop :=
  Jch Fg x (1 : Int) (fun (x12, r16) => Q (x12.length : Int))
theorem Jg5 {w : World} {Q : Int -> Prop} {Fg : GFv} {x : Int} {ag : Addr} {Bg : Nat} (hgg : GFR Bg w ag Fg) (hv : YT Fg x Q) :
  Calls Try.prog 15 #[.pointer (some ag), .int .i64 x] w <| Rt w fun v Qr => ∃ (r0 : Int), v = .int .i64 r0 /\ Qr = [] /\ Q r0 := by
 have hgg_ := hgg; obtain ⟨Ag_mod, kg_mod, Ag_exp, kg_exp, Ag_log, kg_log, Ag_above, kg_above, hg_c, hg_mod, hg_exp, hg_log, hg_above⟩ := hgg_; refine Jg <| Jf (vs := [.pointer (some ag), nI x]) [4] XF15 rfl rfl rfl rfl ?_; have hS := Jl w; unfold YT at hv; refine Jc 8 <| SL.call hS (Ji2 (GFR.ext (GFR.norm hgg) hS.ext) hv) XF18 rfl XN18 rfl rfl ?_; rintro _ _ w11 ⟨x12, r16, A13, k14, rfl, rfl, hv⟩ hGw11 hS; have hS := hS.n1; refine Jb 6 <| Jc 3 <| WL.len Jk rfl rfl <| Jb 2 <| W.ret <| ⟨_, rfl, Fin.nil ?_⟩
 exact (hS.pick [] rfl).fin rfl ⟨(x12.length : Int), rfl, rfl, hv⟩
def Yp (Fg : GFv) (d : Int) (Q : LI × Int -> Prop) : Prop :=
  QA Fg d (fun r16 => (((!r16) = true) -> (Q (([] : LI), (6 : Int)))) /\ ((!r16) = false -> (Ys Fg (fun _ => I64 Fg.q /\ ∃ (I35 : Nat -> LI -> Prop), I35 0 ([] : LI) /\ (∀ i22 : Nat, i22 < Fg.q.toNat -> ∀ (x31 : LI), I35 i22 x31 -> (Z3 Fg (i22 : Int) d (fun r38 => ((r38 = (i22 : Int)) -> ((((x31.length : Nat) + (1 : Nat) : Int) * 8 <= 140737488355328) /\ (I35 (i22 + 1) (x31 ++ ([(i22 : Int)] : LI))))) /\ (¬ (r38 = (i22 : Int)) -> (I35 (i22 + 1) x31))))) /\ (∀ (x31 : LI), I35 Fg.q.toNat x31 -> (Q (x31, (0 : Int))))))))
theorem Je8 {w : World} {Q : LI × Int -> Prop} {Fg : GFv} {d : Int} {ag : Addr} {Bg : Nat} (hgg : GFR Bg w ag Fg) (hv : Yp Fg d Q) :
   Calls Try.prog 13 #[.pointer (some ag), .int .i64 d] w <| Rt w fun v Qr => ∃ (r0 : LI) (r1 : Int) (Ar0 : Option Addr) (cr0 : Nat), v = .tuple #[.slice Ar0 r0.length cr0, .int .i64 r1] /\ Qr = [.row 3 1 Ar0 r0.length cr0 (is r0)] /\ Q (r0, r1) := by
 have hgg_ := hgg; obtain ⟨Ag_mod, kg_mod, Ag_exp, kg_exp, Ag_log, kg_log, Ag_above, kg_above, hg_c, hg_mod, hg_exp, hg_log, hg_above⟩ := hgg_; refine Jg <| Jf (vs := [.pointer (some ag), nI d]) [4, 5] XF13 rfl rfl rfl rfl ?_; have hS := Jl w; unfold Yp at hv; refine Jc 2 <| JA (z := 1) (cs := [.pointer (some ag)]) hS rfl rfl rfl rfl ?_; intro g11 w12 hS; refine JA (z := 1) (cs := [nI d]) hS rfl rfl rfl rfl ?_; intro g13 w14 hS; refine Jb 3 <| Jc 3 <| Jp 1 0 Jcb hS rfl rfl rfl ⟨rfl, rfl⟩ <| Jp 0 0 XU3 hS rfl rfl rfl ⟨rfl, rfl⟩ <| SL.call hS (Yy (GFR.ext (GFR.norm hgg) hS.ext) hv) XF27 rfl XN27 rfl rfl ?_; rintro _ _ w15 ⟨r16, rfl, rfl, hv⟩ hGw15 hS; have hS := hS.n0; refine Jb 2 <| Jh rfl (fun c17 => ?_) (fun c17 => ?_)
 .have hv := hv.1 (c17); refine Jc 5 <| W.ret ?_; have hS := hS.nil (e := 3) (z := 1); refine ⟨_, rfl, Fin.nil ?_⟩; exact (hS.pick [0] rfl).fin rfl ⟨([] : LI), (6 : Int), none, 0, rfl, rfl, hv⟩
 have hv := hv.2 (c17); refine Jj <| Jc 2 <| SL.alloc (cs := [.slice none 0 0]) hS Jf9 rfl rfl ?_; intro g18 w19 hS; refine Ja <| Jc 3 <| Jp 2 0 Jcb hS rfl rfl rfl ⟨rfl, rfl⟩ <| SL.call hS (Z9 (GFR.ext (GFR.norm hgg) hS.ext) hv) XF28 rfl XN28 rfl rfl ?_; rintro _ _ w20 ⟨g21, rfl, rfl, hv⟩ hGw20 hS; have hS := hS.n1; refine Ja <| W.block ?_; obtain ⟨o52, hv⟩ := hv; obtain ⟨I35, hv, hk50, hd51⟩ := hv; have hS := hS.nil (e := 3) (z := 1); have hm0 : 0 = ([] : LI).length := (hS.rd (i := 0) rfl).ilen.symm; have hS := hS.relen (i := 0) rfl hm0
 change St _ _ _ _ [_, _, _, _, _] at hS
 refine Jcj (σ := LI × Option Addr × Nat) (fun i q => match q with | (x31, A32, k33) => I35 i x31) (fun (x31, A32, k33) => [.row 3 1 A32 x31.length k33 (is x31), .row 27 1 (some ⟨g21, 0, none⟩) 1 1 [.pointer (some ag)], .row 22 1 (some ⟨g18, 0, none⟩) 1 1 [.slice A32 x31.length k33], .row 3 1 (some ⟨g13, 0, none⟩) 1 1 [.int .i64 d], .row 27 1 (some ⟨g11, 0, none⟩) 1 1 [.pointer (some ag)]]) (fun _ _ => False) (fun vs => [(2, .pointer (some ⟨g11, 0, none⟩)), (3, .pointer (some ⟨g13, 0, none⟩)), (4, .slice none 0 0), (5, .int .i64 0), (6, .pointer (some ⟨g18, 0, none⟩)), (7, vs.getD 0 undef)]) (([] : LI), none, 0) hS hv (fun q => by obtain ⟨x31, A32, k33⟩ := q; exact trivial) rfl XF54 rfl XN54 (Zp o52 (Qm (hS.own (i := 1) rfl) 0 _ rfl) (Rd.at_ (hS.ro hg_c) (j := 3) rfl)) (Below.refl _ _) (fun _ _ _ h => by rw [h]; rfl) (fun _ _ _ _ _ h _ _ => h) (by decide) (fun _ _ _ _ _ => trivial) ?_ ?_ ?_ ?_
 .intro lq vsq W1q hlq
  match vsq, hlq with
  | [a0], _ =>
    refine Jc 3 ?_; exact ⟨rfl, rfl, sp rfl⟩
 .rintro lq i22 _ ⟨x31, A32, k33⟩ w36 hi rfl hI hS; have hv := hk50 i22 hi x31 hI; refine W.block <| Jc 2 <| Jp 4 0 Jcb hS rfl rfl rfl ⟨rfl, rfl⟩ <| Jn rfl rfl <| Jp 3 0 XU3 hS rfl rfl rfl ⟨rfl, rfl⟩ <| SL.call hS (Ji1 (GFR.ext (GFR.norm hgg) hS.ext) hv) XF29 rfl XN29 rfl rfl ?_; rintro _ _ w37 ⟨r38, rfl, rfl, hv⟩ hGw37 hS; have hS := hS.n0; refine Jb 3 <| Jh rfl (fun c39 => ?_) (fun c39 => ?_)
  .have hv := hv.1 (oT c39); refine Jw <| Jp 2 0 Jk hS rfl rfl rfl ⟨rfl, rfl⟩ <| Jn rfl rfl <| J9 (vs := is ([(i22 : Int)] : LI)) hS Jk XE3 rfl rfl rfl rfl (JS _) rfl ?_; intro A40 w41 hS; obtain ⟨o43, hv⟩ := hv; refine SL.append (cs := is x31) (cs' := is ([(i22 : Int)] : LI)) 1 ((x31 ++ ([(i22 : Int)] : LI)).length) (is (x31 ++ ([(i22 : Int)] : LI))) hS rfl Jk XE3 (hS.rd (i := 0) rfl) (JS _) rfl rfl (apk o43).1 (apk o43).2 (Zn (hS.rd (i := 1) rfl) (hS.rd (i := 0) rfl)) (J2 _ _) rfl ?_; intro A44 k45 w46 hS; refine Jz (cs' := [.slice A44 ((x31 ++ ([(i22 : Int)] : LI)).length) k45]) 3 0 hS rfl Jf9 rfl rfl rfl (Yk rfl) rfl ?_; intro w47 hS; refine Ja ?_; have hS := hS.pick [1, 2, 3, 4, 5] rfl; exact ⟨(x31 ++ ([(i22 : Int)] : LI), A44, k45), hv, hS⟩
  have hv := hv.2 (oF c39); refine Jj ?_; exact ⟨(x31, A32, k33), hv, hS⟩
 .rintro D48 ⟨x31, A32, k33⟩ w49 hv hD hS; have hv := hd51 x31 hv; refine Jc 2 <| Jp 3 0 Jk hS rfl rfl rfl ⟨rfl, rfl⟩ <| Jb 3 <| W.ret ?_; have hS := hS.pick [0, 1] rfl; obtain ⟨hDD48, hS⟩ := hS.taken trivial; refine ⟨_, rfl, Fin.cons hDD48 (Fin.nil ?_)⟩; exact (hS.pick [0] rfl).fin rfl ⟨x31, (0 : Int), A32, k33, rfl, rfl, hv⟩
 rintro _ e _ _ _ hv; exact hv.elim
def Jax (Fg : GFv) (x : Int) (d : Int) (Q : Int × Int -> Prop) : Prop :=
  QA Fg d (fun r12 => (((!r12) = true) -> (Q ((0 : Int), (6 : Int)))) /\ ((!r12) = false -> (ZC Fg x d (fun x15 => Jju Fg x15 (fun r20 => Q (r20, (0 : Int)))))))
theorem Jmf {w : World} {Q : Int × Int -> Prop} {Fg : GFv} {x : Int} {d : Int} {ag : Addr} {Bg : Nat} (hgg : GFR Bg w ag Fg) (hv : Jax Fg x d Q) :
   Calls Try.prog 14 #[.pointer (some ag), .int .i64 x, .int .i64 d] w <| Rt w fun v Qr => ∃ (r0 : Int) (r1 : Int), v = .tuple #[.int .i64 r0, .int .i64 r1] /\ Qr = [] /\ Q (r0, r1) := by
 have hgg_ := hgg; obtain ⟨Ag_mod, kg_mod, Ag_exp, kg_exp, Ag_log, kg_log, Ag_above, kg_above, hg_c, hg_mod, hg_exp, hg_log, hg_above⟩ := hgg_; refine Jg <| Jf (vs := [.pointer (some ag), nI x, nI d]) [6, 7] XF14 rfl rfl rfl rfl ?_; have hS := Jl w; unfold Jax at hv; refine Jc 10 <| SL.call hS (Yy (GFR.ext (GFR.norm hgg) hS.ext) hv) XF27 rfl XN27 rfl rfl ?_; rintro _ _ w11 ⟨r12, rfl, rfl, hv⟩ hGw11 hS; have hS := hS.n0; refine Jb 2 <| Jh rfl (fun c13 => ?_) (fun c13 => ?_)
 .have hv := hv.1 (c13); refine Jc 5 <| W.ret <| ⟨_, rfl, Fin.nil ?_⟩
  exact (hS.pick [] rfl).fin rfl ⟨(0 : Int), (6 : Int), rfl, rfl, hv⟩
 have hv := hv.2 (c13); refine Jj <| Jc 6 <| SL.call hS (Jfd (GFR.ext (GFR.norm hgg) hS.ext) hv) XF31 rfl XN31 rfl rfl ?_; rintro _ _ w14 ⟨x15, A16, k17, rfl, rfl, hv⟩ hGw14 hS; have hS := hS.n1; refine SL.call hS (ok_Sum (GFR.ext (GFR.norm hgg) hS.ext) (hS.rd (i := 0) rfl) hv) XF30 rfl XN30 rfl rfl ?_; rintro _ _ w19 ⟨r20, rfl, rfl, hv⟩ hGw19 hS; have hS := hS.n0; refine Jb 3 <| W.ret <| ⟨_, rfl, Fin.nil ?_⟩
 exact (hS.pick [] rfl).fin rfl ⟨r20, (0 : Int), rfl, rfl, hv⟩
def YX (Fg : GFv) (x : Int) (d : Int) (Q : LI × Int -> Prop) : Prop :=
  Jch Fg x d (fun (x12, r16) => ((r16 ≠ 0) -> (Q (([] : LI), r16))) /\ (¬ (r16 ≠ 0) -> (Q1 Fg x12 (fun x19 => Q (x19, (0 : Int))))))
theorem Jg8 {w : World} {Q : LI × Int -> Prop} {Fg : GFv} {x : Int} {d : Int} {ag : Addr} {Bg : Nat} (hgg : GFR Bg w ag Fg) (hv : YX Fg x d Q) :
  Calls Try.prog 6 #[.pointer (some ag), .int .i64 x, .int .i64 d] w <| Rt w fun v Qr => ∃ (r0 : LI) (r1 : Int) (Ar0 : Option Addr) (cr0 : Nat), v = .tuple #[.slice Ar0 r0.length cr0, .int .i64 r1] /\ Qr = [.row 3 1 Ar0 r0.length cr0 (is r0)] /\ Q (r0, r1) := by
 have hgg_ := hgg; obtain ⟨Ag_mod, kg_mod, Ag_exp, kg_exp, Ag_log, kg_log, Ag_above, kg_above, hg_c, hg_mod, hg_exp, hg_log, hg_above⟩ := hgg_; refine Jg <| Jf (vs := [.pointer (some ag), nI x, nI d]) [6, 7] XF6 rfl rfl rfl rfl ?_; have hS := Jl w; unfold YX at hv; refine Jc 10 <| SL.call hS (Ji2 (GFR.ext (GFR.norm hgg) hS.ext) hv) XF18 rfl XN18 rfl rfl ?_; rintro _ _ w11 ⟨x12, r16, A13, k14, rfl, rfl, hv⟩ hGw11 hS; have hS := hS.n1; refine Jb 6 <| Jc 6 <| Jh rfl (fun c17 => ?_) (fun c17 => ?_)
 .have hv := hv.1 (oT c17); refine Jc 6 <| W.ret ?_; have hS := hS.nil (e := 3) (z := 1); refine ⟨_, rfl, Fin.nil ?_⟩; exact (hS.pick [0] rfl).fin rfl ⟨([] : LI), r16, none, 0, rfl, rfl, hv⟩
 have hv := hv.2 (oF c17); refine Jj <| Jc 4 <| SL.call hS (Jd5 (GFR.ext (GFR.norm hgg) hS.ext) (hS.rd (i := 0) rfl) hv) XF19 rfl XN19 rfl rfl ?_; rintro _ _ w18 ⟨x19, A20, k21, rfl, rfl, hv⟩ hGw18 hS; have hS := hS.n1; refine Jb 3 <| W.ret <| ⟨_, rfl, Fin.nil ?_⟩
 exact (hS.pick [0] rfl).fin rfl ⟨x19, (0 : Int), A20, k21, rfl, rfl, hv⟩
end Go.Proofs.Ytopemhgpdlbkjaa
namespace Go.Proofs.Ytopemhgpdlbkjaa
open Go.RowKit
def Yo (Pf : Int) (Mf : Int) (mf : LI) (d : Int) (Q : Bool -> Prop) : Prop :=
  (((1 : Int) <= d) -> (((d <= Mf) -> ((d ≠ 0) /\ (Q (decide ((Mf.tmod d) = (0 : Int)))))) /\ (¬ (d <= Mf) -> Q false))) /\ (¬ ((1 : Int) <= d) -> Q false)
theorem Je7 {w : World} {Q : Bool -> Prop} {Pf : Int} {Mf : Int} {mf : LI} {d : Int} {Bf : Nat} {Af : Option Addr} {nf kf : Nat} (hf : Rd Bf w 1 Af nf kf (is mf)) (hv : Yo Pf Mf mf d Q) :
   Calls Try.prog 7 #[.agg #[.int .i64 Pf, .int .i64 Mf, .slice Af nf kf], .int .i64 d] w <| Rt w fun v Qr => ∃ (r0 : Bool), v = .bool r0 /\ Qr = [] /\ Q r0 := by
 have hnf := hf.ilen; subst hnf; refine Jg <| Jf (vs := [.agg #[nI Pf, nI Mf, nS Af mf kf], nI d]) [4] XF7 rfl rfl rfl rfl ?_; have hS := Jl w; unfold Yo at hv; refine Jc 2 <| JA (z := 3) (cs := [nI Pf, nI Mf, nS Af mf kf]) hS rfl rfl rfl rfl ?_; intro g11 w12 hS; refine Jb 2 <| Jc 4 <| Jn rfl rfl ?_; by_cases g13 : (1 : Int) <= d
 .have hv := hv.1 g13; rw [decide_eq_true g13]; refine Jb 3 <| Jd (off := 1) JN rfl rfl <| WL.take rfl <| Jp 0 1 XU3 hS rfl rfl rfl ⟨rfl, rfl⟩ <| Jb 3 <| Jn rfl rfl ?_; by_cases g14 : d <= Mf
  .have hv := hv.1 g14; rw [decide_eq_true g14]; refine WL.take rfl <| Jd (off := 1) JN rfl rfl <| WL.take rfl <| Jp 0 1 XU3 hS rfl rfl rfl ⟨rfl, rfl⟩ <| Jb 3 ?_; obtain ⟨o15, hv⟩ := hv; refine J3 (r := (Mf.tmod d)) rfl rfl o15 rfl rfl <| Jb 5 <| W.ret <| ⟨_, rfl, Fin.nil ?_⟩
   exact (hS.pick [] rfl).fin rfl ⟨(decide ((Mf.tmod d) = (0 : Int))), rfl, rfl, hv⟩
  have hv := hv.2 g14; rw [decide_eq_false g14]; refine Jb 8 <| W.ret <| ⟨_, rfl, Fin.nil ?_⟩
  exact (hS.pick [] rfl).fin rfl ⟨false, rfl, rfl, hv⟩
 have hv := hv.2 g13; rw [decide_eq_false g13]; refine Jb 14 <| W.ret <| ⟨_, rfl, Fin.nil ?_⟩
 exact (hS.pick [] rfl).fin rfl ⟨false, rfl, rfl, hv⟩
def YU (Pf : Int) (Mf : Int) (mf : LI) (x : Int) (k : Int) (Q : Int -> Prop) : Prop :=
  Yu Pf Mf mf x (fun r14 => ∃ (I21 : Int -> Int -> Prop) (μ22 : Int -> Int -> Nat), I21 r14 (0 : Int) /\ ∀ (z19 : Int) (z20 : Int), (I21 z19 z20 -> (((z20 < k) -> (Jcf Pf Mf mf z19 Pf (fun (r26, r27) => (I64 (z20 + 1)) /\ (I21 r26 (z20 + 1) /\ μ22 r26 (z20 + 1) < μ22 z19 z20)))) /\ (¬ (z20 < k) -> Q z19))))
theorem Jbq {w : World} {Q : Int -> Prop} {Pf : Int} {Mf : Int} {mf : LI} {x : Int} {k : Int} {Bf : Nat} {Af : Option Addr} {nf kf : Nat} (hf : Rd Bf w 1 Af nf kf (is mf)) (hv : YU Pf Mf mf x k Q) :
  Calls Try.prog 24 #[.agg #[.int .i64 Pf, .int .i64 Mf, .slice Af nf kf], .int .i64 x, .int .i64 k] w <| Rt w fun v Qr => ∃ (r0 : Int), v = .int .i64 r0 /\ Qr = [] /\ Q r0 := by
 have hnf := hf.ilen; subst hnf; refine Jg <| Jf (vs := [.agg #[nI Pf, nI Mf, nS Af mf kf], nI x, nI k]) [6] XF24 rfl rfl rfl rfl ?_; have hS := Jl w; unfold YU at hv; refine Jc 2 <| JA (z := 3) (cs := [nI Pf, nI Mf, nS Af mf kf]) hS rfl rfl rfl rfl ?_; intro g11 w12 hS; refine Jb 2 <| Jc 2 <| Jt 0 JD JF hS rfl ⟨rfl, rfl⟩ rfl <| Jn rfl rfl <| SL.call hS (Yw (hS.ro hf) hv) Jeh rfl Jf7 rfl rfl ?_; rintro _ _ w13 ⟨r14, rfl, rfl, hv⟩ hGw13 hS; have hS := hS.n0; refine Jb 2 <| Jc 5 <| W.block ?_; obtain ⟨I21, μ22, hv, hk29⟩ := hv; refine Jv (σ := Int × Int) (fun q w1 => match q with | (z19, z20) => I21 z19 z20 /\ St TT w none w1 [.row 24 3 (nA g11) 1 1 [nI Pf, nI Mf, nS Af mf kf]]) (fun (z19, z20) => [(1, nI z19), (2, nI k), (3, nP g11), (6, nI 0), (7, nI z20)]) (fun (z19, z20) => μ22 z19 z20) (r14, (0 : Int)) ⟨hv, hS⟩ ⟨rfl, rfl, rfl, rfl, rfl, trivial⟩ ?_; rintro ⟨z19, z20⟩ w23 ⟨hv, hS⟩; have hv := hk29 z19 z20 hv; refine Jc 7 <| Jh rfl (fun c24 => ?_) (fun c24 => ?_)
 .have hv := hv.1 (oT c24); refine Jj <| Jr <| W.block <| Jw <| Jt 0 JD JF hS rfl ⟨rfl, rfl⟩ rfl <| Jn rfl rfl <| Jd (off := 0) JJ rfl rfl <| Jp 0 0 XU3 hS rfl rfl rfl ⟨rfl, rfl⟩ <| SL.call hS (Jov (hS.ro hf) hv) XF46 rfl XN46 rfl rfl ?_; rintro _ _ w25 ⟨r26, r27, rfl, rfl, hv⟩ hGw25 hS; have hS := hS.n0; refine Jb 5 <| Jc 2 ?_; obtain ⟨o28, hv⟩ := hv; refine WL.add (r := (z20 + 1)) rfl rfl (wr o28) rfl <| Jb 2 ?_; exact ⟨(r26, (z20 + 1)), sp rfl, hv.2, rfl, hv.1, hS⟩
 have hv := hv.2 (oF c24); refine Js <| Jc 5 <| W.ret <| ⟨_, rfl, Fin.nil ?_⟩
 exact (hS.pick [] rfl).fin rfl ⟨z19, rfl, rfl, hv⟩
def Jgf (Pf : Int) (Mf : Int) (mf : LI) (x : Int) (d : Int) (Q : Bool -> Prop) : Prop :=
  ∃ (r17 : Int), YU Pf Mf mf x d (fun q => q = r17) /\ (∃ (r23 : Int), Yu Pf Mf mf x (fun q => q = r23) /\ (Q (decide (r17 = r23))))
theorem Jmj {w : World} {Q : Bool -> Prop} {Pf : Int} {Mf : Int} {mf : LI} {x : Int} {d : Int} {Bf : Nat} {Af : Option Addr} {nf kf : Nat} (hf : Rd Bf w 1 Af nf kf (is mf)) (hv : Jgf Pf Mf mf x d Q) :
  Calls Try.prog 11 #[.agg #[.int .i64 Pf, .int .i64 Mf, .slice Af nf kf], .int .i64 x, .int .i64 d] w <| Rt w fun v Qr => ∃ (r0 : Bool), v = .bool r0 /\ Qr = [] /\ Q r0 := by
 have hnf := hf.ilen; subst hnf; refine Jg <| Jf (vs := [.agg #[nI Pf, nI Mf, nS Af mf kf], nI x, nI d]) [6] XF11 rfl rfl rfl rfl ?_; have hS := Jl w; unfold Jgf at hv; refine Jc 2 <| JA (z := 3) (cs := [nI Pf, nI Mf, nS Af mf kf]) hS rfl rfl rfl rfl ?_; intro g11 w12 hS; refine Jb 2 <| Jr ?_; obtain ⟨r17, o19, hv⟩ := hv; obtain ⟨r23, o25, hv⟩ := hv; refine JC 9 [⟨[], [3], false⟩, ⟨[], [1], true⟩, ⟨[], [2], true⟩, ⟨[0, 1, 2], [], false⟩, ⟨[], [3], false⟩, ⟨[], [1], true⟩, ⟨[4, 5], [], false⟩, ⟨[3, 6], [], true⟩, ⟨[7], [], true⟩] [(7, .agg #[nI Pf, nI Mf, nS Af mf kf]), (8, nI x), (9, nI d), (10, nI r17), (11, .agg #[nI Pf, nI Mf, nS Af mf kf]), (12, nI x), (13, nI r23), (14, .bool (decide (r17 = r23))), (6, .bool (decide (r17 = r23)))] Try.mixed (by kernel_rfl) rfl rfl ?_ ?_
 .refine ⟨og hS fun _ _ hS => Jt 0 JD JF hS rfl ⟨rfl, rfl⟩ rfl <| Ja ⟨rfl, Je _⟩, oD, oD, ?_, og hS fun _ _ hS => Jt 0 JD JF hS rfl ⟨rfl, rfl⟩ rfl <| Ja ⟨rfl, Je _⟩, oD, ?_, oD, oD, trivial⟩
  .intro w16 hE RR; have hS := hS.grow (hE rfl); refine WL.call XF24 rfl XN24 rfl rfl (Ju (Jbq (hS.ro hf) o19)) ?_; rintro _ w18 ⟨_, hGw18, hRww18, hNww18, r17q, rfl, rfl, he⟩; subst he; exact Ja ⟨rfl, hGw18⟩
  intro w22 hE RR; have hS := hS.grow (hE rfl); refine WL.call Jeh rfl Jf7 rfl rfl (Ju (Yw (hS.ro hf) o25)) ?_; rintro _ w24 ⟨_, hGw24, hRww24, hNww24, r23q, rfl, rfl, he⟩; subst he; exact Ja ⟨rfl, hGw24⟩
 intro w28 hT; have hS := hS.grow hT; refine JW <| W.ret <| ⟨_, rfl, Fin.nil ?_⟩
 exact (hS.pick [] rfl).fin rfl ⟨(decide (r17 = r23)), rfl, rfl, hv⟩
def Ja0 (Pf : Int) (Mf : Int) (mf : LI) (x : Int) (d : Int) (Q : LI -> Prop) : Prop :=
  Yu Pf Mf mf x (fun r14 => YU Pf Mf mf r14 d (fun r19 => ∃ (I32 : LI -> Int -> Prop) (μ33 : LI -> Int -> Nat), I32 ([r14] : LI) r19 /\ ∀ (x28 : LI) (z31 : Int), (I32 x28 z31 -> (((z31 ≠ r14) -> ((((x28.length : Nat) + (1 : Nat) : Int) * 8 <= 140737488355328) /\ (YU Pf Mf mf z31 d (fun r44 => I32 (x28 ++ ([z31] : LI)) r44 /\ μ33 (x28 ++ ([z31] : LI)) r44 < μ33 x28 z31)))) /\ (¬ (z31 ≠ r14) -> Q x28)))))
theorem Jmk {w : World} {Q : LI -> Prop} {Pf : Int} {Mf : Int} {mf : LI} {x : Int} {d : Int} {Bf : Nat} {Af : Option Addr} {nf kf : Nat} (hf : Rd Bf w 1 Af nf kf (is mf)) (hv : Ja0 Pf Mf mf x d Q) :
  Calls Try.prog 21 #[.agg #[.int .i64 Pf, .int .i64 Mf, .slice Af nf kf], .int .i64 x, .int .i64 d] w <| Rt w fun v Qr => ∃ (r0 : LI) (Ar0 : Option Addr) (cr0 : Nat), v = .slice Ar0 r0.length cr0 /\ Qr = [.row 3 1 Ar0 r0.length cr0 (is r0)] /\ Q r0 := by
 have hnf := hf.ilen; subst hnf; refine Jg <| Jf (vs := [.agg #[nI Pf, nI Mf, nS Af mf kf], nI x, nI d]) [6] XF21 rfl rfl rfl rfl ?_; have hS := Jl w; unfold Ja0 at hv; refine Jc 2 <| JA (z := 3) (cs := [nI Pf, nI Mf, nS Af mf kf]) hS rfl rfl rfl rfl ?_; intro g11 w12 hS; refine Jb 2 <| Jc 2 <| Jt 0 JD JF hS rfl ⟨rfl, rfl⟩ rfl <| Jn rfl rfl <| SL.call hS (Yw (hS.ro hf) hv) Jeh rfl Jf7 rfl rfl ?_; rintro _ _ w13 ⟨r14, rfl, rfl, hv⟩ hGw13 hS; have hS := hS.n0; refine Jb 2 <| Jc 3 <| J9 (vs := is ([r14] : LI)) hS Jk XE3 rfl rfl rfl rfl (JS _) rfl ?_; intro A15 w16 hS; refine Jb 2 <| Jc 3 <| Jt 1 JD JF hS rfl ⟨rfl, rfl⟩ rfl <| Jb 2 <| SL.call hS (Jbq (hS.ro hf) hv) XF24 rfl XN24 rfl rfl ?_; rintro _ _ w18 ⟨r19, rfl, rfl, hv⟩ hGw18 hS; have hS := hS.n0; refine Jb 2 <| W.block ?_; obtain ⟨I32, μ33, hv, hk45⟩ := hv; have hm0 : 1 = ([r14] : LI).length := (hS.rd (i := 0) rfl).ilen.symm; have hS := hS.relen (i := 0) rfl hm0
 change St _ _ _ _ [_, _] at hS
 refine Jv (σ := LI × Int × Option Addr × Nat) (fun q w1 => match q with | (x28, z31, A29, k30) => I32 x28 z31 /\ St TT w none w1 [nR 3 A29 x28 k30, .row 24 3 (nA g11) 1 1 [nI Pf, nI Mf, nS Af mf kf]]) (fun (x28, z31, A29, k30) => [(1, nI r14), (2, nI d), (3, nP g11), (6, .slice none 0 0), (7, nS A29 x28 k30), (8, nI z31)]) (fun (x28, z31, A29, k30) => μ33 x28 z31) (([r14] : LI), r19, A15, 1) ⟨hv, hS⟩ ⟨rfl, rfl, rfl, rfl, (sm (by first | rfl | assumption | omega)), rfl, trivial⟩ ?_; rintro ⟨x28, z31, A29, k30⟩ w34 ⟨hv, hS⟩; have hv := hk45 x28 z31 hv; refine Jc 7 <| Jh rfl (fun c35 => ?_) (fun c35 => ?_)
 .have hv := hv.1 (oT c35); refine Jj <| Jr <| W.block <| Jc 3 <| J9 (vs := is ([z31] : LI)) hS Jk XE3 rfl rfl rfl rfl (JS _) rfl ?_; intro A36 w37 hS; obtain ⟨o39, hv⟩ := hv; refine SL.append (cs := is x28) (cs' := is ([z31] : LI)) 1 ((x28 ++ ([z31] : LI)).length) (is (x28 ++ ([z31] : LI))) hS rfl Jk XE3 (hS.rd (i := 0) rfl) (JS _) rfl rfl (apk o39).1 (apk o39).2 (Zn (hS.rd (i := 1) rfl) (hS.rd (i := 0) rfl)) (J2 _ _) rfl ?_; intro A40 k41 w42 hS; refine Jb 2 <| Jw <| Jt 2 JD JF hS rfl ⟨rfl, rfl⟩ rfl <| Jb 2 <| SL.call hS (Jbq (hS.ro hf) hv) XF24 rfl XN24 rfl rfl ?_; rintro _ _ w43 ⟨r44, rfl, rfl, hv⟩ hGw43 hS; have hS := hS.n0; refine Jb 2 ?_; have hS := hS.pick [1, 2] rfl; exact ⟨(x28 ++ ([z31] : LI), r44, A40, k41), sp rfl, hv.2, rfl, hv.1, hS⟩
 have hv := hv.2 (oF c35); refine Js <| Jc 5 <| W.ret <| ⟨_, rfl, Fin.nil ?_⟩
 exact (hS.pick [0] rfl).fin rfl ⟨x28, A29, k30, rfl, rfl, hv⟩
def Yq (Pf : Int) (Mf : Int) (mf : LI) (x : Int) (d : Int) (Q : LI -> Prop) : Prop :=
  ∃ (x18 : LI), Ja0 Pf Mf mf x d (fun q => q = x18) /\ (∃ (x27 : LI), QI Pf Mf mf x18 (fun q => q = x27) /\ Q x27)
theorem Jfa {w : World} {Q : LI -> Prop} {Pf : Int} {Mf : Int} {mf : LI} {x : Int} {d : Int} {Bf : Nat} {Af : Option Addr} {nf kf : Nat} (hf : Rd Bf w 1 Af nf kf (is mf)) (hv : Yq Pf Mf mf x d Q) :
  Calls Try.prog 9 #[.agg #[.int .i64 Pf, .int .i64 Mf, .slice Af nf kf], .int .i64 x, .int .i64 d] w <| Rt w fun v Qr => ∃ (r0 : LI) (Ar0 : Option Addr) (cr0 : Nat), v = .slice Ar0 r0.length cr0 /\ Qr = [.row 3 1 Ar0 r0.length cr0 (is r0)] /\ Q r0 := by
 have hnf := hf.ilen; subst hnf; refine Jg <| Jf (vs := [.agg #[nI Pf, nI Mf, nS Af mf kf], nI x, nI d]) [6] XF9 rfl rfl rfl rfl ?_; have hS := Jl w; unfold Yq at hv; refine Jc 2 <| JA (z := 3) (cs := [nI Pf, nI Mf, nS Af mf kf]) hS rfl rfl rfl rfl ?_; intro g11 w12 hS; refine Jb 2 <| Jr ?_; obtain ⟨x18, o25, hv⟩ := hv; obtain ⟨x27, o34, hv⟩ := hv; have hS0 := hS; refine QP 7 (fun iA => [false, false, false, false, true, true, false].getD iA false) (fun iC => match iC with | 6 => some 5 | _ => none) (fun _ v u => u = v) [⟨[], [3], false⟩, ⟨[], [3], false⟩, ⟨[], [1], true⟩, ⟨[], [2], true⟩, ⟨[1, 2, 3], [], false⟩, ⟨[0, 4], [], false⟩, ⟨[5], [], true⟩] [.k 7 (.agg #[nI Pf, nI Mf, nS Af mf kf]), .k 8 (.agg #[nI Pf, nI Mf, nS Af mf kf]), .k 9 (nI x), .k 10 (nI d), eS w12 11 3 x18.length (is x18), eS w12 12 3 x27.length (is x27), eS w12 6 3 x27.length (is x27)] (fun _ => vbD) Try.mixed (by kernel_rfl) rfl rfl (fun _ _ _ _ _ _ _ h => h) ?_ ?_
 .refine ⟨og hS fun _ _ hS => Jt 0 JD JF hS rfl ⟨rfl, rfl⟩ rfl <| Ja ⟨rfl, Je _⟩, og hS fun _ _ hS => Jt 0 JD JF hS rfl ⟨rfl, rfl⟩ rfl <| Ja ⟨rfl, Je _⟩, oC, oC, ?_, ?_, ?_, trivial⟩
  .intro w17 hE; have hE := hE rfl; have hS := hS.grow hE; intro RR; refine WL.call XF21 rfl XN21 rfl rfl (Ju (Jmk (hS.ro hf) o25)) ?_; rintro _ w22 ⟨_, hGw22, hRww22, hNww22, x18q, A19, k20, rfl, rfl, he⟩; subst he; have hO23 := (hRww22.get (i := 0) rfl).1; have hN24 : ∀ g, bl A19 = some g -> _ <= g := fun g hg => Nat.le_trans hE.size (hNww22.1 g hg); exact Ja ⟨_, rfl, hGw22, ⟨A19, k20, rfl, hO23, hN24⟩, (fun _ => fun g hg => ⟨hNww22.1 g hg, (hO23.bl_ge g hg).2⟩), (fun j h => by cases h)⟩
  .intro w26 hE; have hE := hE rfl; have hS := hS.grow hE; rintro _ ⟨A19_4, k20_4, rfl, hO23_4, hN24_4⟩; intro RR; refine WL.call XF20 rfl XN20 rfl rfl (Ju (Jco (hS.ro hf) hO23_4.rd o34)) ?_; rintro _ w31 ⟨_, hGw31, hRww31, hNww31, x27q, A28, k29, rfl, rfl, he⟩; subst he; have hO32 := (hRww31.get (i := 0) rfl).1; have hN33 : ∀ g, bl A28 = some g -> _ <= g := fun g hg => Nat.le_trans hE.size (hNww31.1 g hg); exact Ja ⟨_, rfl, hGw31, ⟨A28, k29, rfl, hO32, hN33⟩, (fun _ => fun g hg => ⟨hNww31.1 g hg, (hO32.bl_ge g hg).2⟩), (fun j h => by cases h)⟩
  intro w35 hE; rintro _ ⟨A28_5, k29_5, rfl, hO32_5, hN33_5⟩; intro RR; refine JY rfl rfl ?_; exact Ja ⟨_, rfl, rfl, ⟨A28_5, k29_5, rfl, hO32_5, hN33_5⟩, (fun h => absurd h (by decide)), (fun j h => by cases h; exact ⟨_, rfl, rfl⟩)⟩
 intro vals w36 hT hVs hAp hCp; have hS := hS.grow hT; obtain ⟨A19_4, k20_4, hv4, hO23_4, hN24_4⟩ := hVs 4 (by decide); obtain ⟨A28_5, k29_5, hv5, hO32_5, hN33_5⟩ := hVs 5 (by decide); have hv6 : vals 6 = nS A28_5 x27 k29_5 := (hCp 6 5 (by decide) rfl).trans hv5; have hS := Qq [] hS0 hS hO32_5 hN33_5 (fun s hs => by cases hs); refine Jcd [(4, nS A19_4 x18 k20_4), (5, nS A28_5 x27 k29_5), (6, nS A28_5 x27 k29_5)] ⟨hv4, hv5, hv6, trivial⟩ <| JW <| W.ret <| ⟨_, rfl, Fin.nil ?_⟩
 exact (hS.pick [0] rfl).fin rfl ⟨x27, A28_5, k29_5, rfl, rfl, hv⟩
end Go.Proofs.Ytopemhgpdlbkjaa
namespace Go.Proofs.Ytopemhgpdlbkjaa
open Go.RowKit
def YY (l : LI) (o : LI) (Q : Bool -> Prop) : Prop :=
  (((l.length : Int) ≠ (o.length : Int)) -> Q false) /\ (¬ ((l.length : Int) ≠ (o.length : Int)) -> (∃ (I15 : Int -> Prop) (μ16 : Int -> Nat), I15 0 /\ ∀ (z14 : Int), (I15 z14 -> (((z14 < (l.length : Int)) -> ((0 <= z14 /\ z14 < (l.length : Nat)) /\ ((0 <= z14 /\ z14 < (o.length : Nat)) /\ ((((gi l z14) ≠ (gi o z14)) -> Q false) /\ (¬ ((gi l z14) ≠ (gi o z14)) -> ((I64 (z14 + 1)) /\ (I15 (z14 + 1) /\ μ16 (z14 + 1) < μ16 z14))))))) /\ (¬ (z14 < (l.length : Int)) -> Q true)))))
theorem Jfe {w : World} {Q : Bool -> Prop} {l : LI} {o : LI} {Bl : Nat} {Al : Option Addr} {nl kl : Nat} (hl : Rd Bl w 1 Al nl kl (is l)) {Bo : Nat} {Ao : Option Addr} {no ko : Nat} (ho : Rd Bo w 1 Ao no ko (is o)) (hv : YY l o Q) :
   Calls Try.prog 8 #[.slice Al nl kl, .slice Ao no ko] w <| Rt w fun v Qr => ∃ (r0 : Bool), v = .bool r0 /\ Qr = [] /\ Q r0 := by
 have hnl := hl.ilen; subst hnl; have hno := ho.ilen; subst hno; refine Jg <| Jf (vs := [nS Al l kl, nS Ao o ko]) [4] XF8 rfl rfl rfl rfl ?_; have hS := Jl w; unfold YY at hv; refine Jc 8 <| WL.len Jk rfl rfl <| Jn rfl rfl <| WL.len Jk rfl rfl <| Jb 2 <| Jh rfl (fun c11 => ?_) (fun c11 => ?_)
 .have hv := hv.1 (oT c11); refine Jc 4 <| W.ret <| ⟨_, rfl, Fin.nil ?_⟩
  exact (hS.pick [] rfl).fin rfl ⟨false, rfl, rfl, hv⟩
 have hv := hv.2 (oF c11); refine Jj <| Jc 4 <| WL.len Jk rfl rfl <| Jb 2 <| W.block ?_; obtain ⟨I15, μ16, hv, hk33⟩ := hv; refine Jv (σ := Int) (fun z14 w1 => I15 z14 /\ St TT w none w1 []) (fun z14 => [(0, nS Al l kl), (1, nS Ao o ko), (4, .bool false), (12, nI (l.length : Int)), (13, nI z14)]) (fun z14 => μ16 z14) (0 : Int) ⟨hv, hS⟩ ⟨rfl, rfl, rfl, rfl, rfl, trivial⟩ ?_; rintro z14 w17 ⟨hv, hS⟩; have hv := hk33 z14 hv; refine Jc 5 <| Jh rfl (fun c18 => ?_) (fun c18 => ?_)
 .have hv := hv.1 (oT c18); refine Jj <| Jr <| W.block <| Jc 6 ?_; obtain ⟨o22, hv⟩ := hv; obtain ⟨o27, hv⟩ := hv; refine JC 9 [⟨[], [0], true⟩, ⟨[], [5], true⟩, ⟨[0, 1], [], true⟩, ⟨[2], [], false⟩, ⟨[], [1], true⟩, ⟨[], [5], true⟩, ⟨[4, 5], [], true⟩, ⟨[6], [], false⟩, ⟨[3, 7], [], true⟩] [(16, nS Al l kl), (17, nI z14), (18, .pointer (some ((JK Al).add z14.toNat))), (19, nI (gi l z14)), (20, nS Ao o ko), (21, nI z14), (22, .pointer (some ((JK Ao).add z14.toNat))), (23, nI (gi o z14)), (24, .bool (decide ((gi l z14) ≠ (gi o z14))))] Try.mixed (by kernel_rfl) rfl rfl ?_ ?_
  .refine ⟨oD, oD, fun _ _ _ => Ji Jk XE3 (hS.ro hl) rfl rfl o22 rfl <| Ja ⟨rfl, rfl⟩, og hS fun _ _ hS => Jm XU3 rfl rfl (JB (hS.ro hl) o22) rfl <| Ja ⟨rfl, Je _⟩, oD, oD, fun _ _ _ => Ji Jk XE3 (hS.ro ho) rfl rfl o27 rfl <| Ja ⟨rfl, rfl⟩, og hS fun _ _ hS => Jm XU3 rfl rfl (JB (hS.ro ho) o27) rfl <| Ja ⟨rfl, Je _⟩, oD, trivial⟩
  intro w30 hT; have hS := hS.grow hT; refine JW <| Jh rfl (fun c31 => ?_) (fun c31 => ?_)
  .have hv := hv.1 (oT c31); refine Jc 4 <| W.ret <| ⟨_, rfl, Fin.nil ?_⟩
   exact (hS.pick [] rfl).fin rfl ⟨false, rfl, rfl, hv⟩
  have hv := hv.2 (oF c31); refine Jj <| Jw ?_; obtain ⟨o32, hv⟩ := hv; refine WL.add (r := (z14 + 1)) rfl rfl (wr o32) rfl <| Jb 2 ?_; exact ⟨(z14 + 1), sp rfl, hv.2, rfl, hv.1, hS⟩
 have hv := hv.2 (oF c18); refine Js <| Jc 4 <| W.ret <| ⟨_, rfl, Fin.nil ?_⟩
 exact (hS.pick [] rfl).fin rfl ⟨true, rfl, rfl, hv⟩
def Z2 (Pf : Int) (Mf : Int) (mf : LI) (Q : Option GFv -> Prop) : Prop :=
  ZA Pf Mf mf (fun r14 => ((r14 ≠ 0) -> Q none) /\ (¬ (r14 ≠ 0) -> (Jjv Pf Mf mf (fun q => match q with | (none, r18) => ((r18 ≠ 0) -> Q none) /\ (¬ (r18 ≠ 0) -> Q none) | (some F19, r18) => ((r18 ≠ 0) -> Q none) /\ (¬ (r18 ≠ 0) -> (Q (some F19)))))))
theorem Ji0 {w : World} {Q : Option GFv -> Prop} {Pf : Int} {Mf : Int} {mf : LI} {Bf : Nat} {Af : Option Addr} {nf kf : Nat} (hf : Rd Bf w 1 Af nf kf (is mf)) (hv : Z2 Pf Mf mf Q) :
   Calls Try.prog 5 #[.agg #[.int .i64 Pf, .int .i64 Mf, .slice Af nf kf]] w <| Rt w fun v Qr => ∃ (o : Option GFv), Q o /\ match o with | none => v = .pointer none /\ Qr = [] | some F => ∃ (ad : Addr) (lo hi : Nat), v = .pointer (some ad) /\ Qr = [.ch lo hi (fun wz => GFX lo hi wz ad F)] := by
 have hnf := hf.ilen; subst hnf; refine Jg <| Jf (vs := [.agg #[nI Pf, nI Mf, nS Af mf kf]]) [2] XF5 rfl rfl rfl rfl ?_; have hS := Jl w; unfold Z2 at hv; refine Jc 2 <| JA (z := 3) (cs := [nI Pf, nI Mf, nS Af mf kf]) hS rfl rfl rfl rfl ?_; intro g11 w12 hS; refine Jb 2 <| Jc 3 <| Jt 0 JD JF hS rfl ⟨rfl, rfl⟩ rfl <| SL.call hS (Jka (hS.ro hf) hv) XF16 rfl XN16 rfl rfl ?_; rintro _ _ w13 ⟨r14, rfl, rfl, hv⟩ hGw13 hS; have hS := hS.n0; refine Jb 2 <| Jh rfl (fun c15 => ?_) (fun c15 => ?_)
 .have hv := hv.1 (oT c15); refine Jc 4 <| W.ret <| ⟨_, rfl, Fin.nil ?_⟩
  exact (hS.pick [] rfl).fin rfl ⟨none, hv, rfl, rfl⟩
 have hv := hv.2 (oF c15); refine Jj <| Jc 2 <| Jt 0 JD JF hS rfl ⟨rfl, rfl⟩ rfl <| SL.call hS (ok_New (hS.ro hf) hv) XF17 rfl XN17 rfl rfl ?_; rintro _ _ w17 ⟨o, r18, hv, hK⟩ hGw17 hS; cases o with
 | none =>
   obtain ⟨rfl, rfl⟩ := hK
   change St _ _ _ _ [_] at hS
   refine Jb 6 <| Jc 6 <| Jh rfl (fun c25 => ?_) (fun c25 => ?_)
   .have hv := hv.1 (oT c25); refine Jc 4 <| W.ret <| ⟨_, rfl, Fin.nil ?_⟩
    exact (hS.pick [] rfl).fin rfl ⟨none, hv, rfl, rfl⟩
   have hv := hv.2 (oF c25); refine Jj <| Jc 5 <| W.ret <| ⟨_, rfl, Fin.nil ?_⟩
   exact (hS.pick [] rfl).fin rfl ⟨none, hv, rfl, rfl⟩
 | some F19 =>
   obtain ⟨ad20, lo21, hi22, rfl, rfl⟩ := hK
   change St _ _ _ _ [_, _] at hS
   refine Jb 6 <| Jc 6 <| Jh rfl (fun c26 => ?_) (fun c26 => ?_)
   .have hv := hv.1 (oT c26); refine Jc 4 <| W.ret <| ⟨_, rfl, Fin.nil ?_⟩
    exact (hS.pick [] rfl).fin rfl ⟨none, hv, rfl, rfl⟩
   have hv := hv.2 (oF c26); refine Jj <| Jc 5 <| W.ret <| ⟨_, rfl, Fin.nil ?_⟩
   exact (hS.pick [0] rfl).fin rfl ⟨some F19, hv, _, _, _, rfl, rfl⟩
def Ja2  (Q : Bool -> Prop) : Prop :=
  Z2 (2 : Int) (4 : Int) ([(1 : Int), (1 : Int), (0 : Int), (0 : Int)] : LI) (fun q => match q with | none => Q false | some F17 => Yp F17 (2 : Int) (fun (x24, r28) => Jax F17 (8 : Int) (1 : Int) (fun (r30, r31) => ((r28 = 0) -> (YY x24 ([(0 : Int), (1 : Int), (6 : Int), (7 : Int)] : LI) (fun r37 => ((r37 = true) -> (((r31 = 0) -> (((r30 = 1) -> (YT F17 (2 : Int) (fun r42 => Q (decide (r42 = 4))))) /\ (¬ (r30 = 1) -> Q false))) /\ (¬ (r31 = 0) -> Q false))) /\ (r37 = false -> Q false)))) /\ (¬ (r28 = 0) -> Q false))))
theorem Jmo {w : World} {Q : Bool -> Prop}   (hv : Ja2  Q) :
  Calls Try.prog 4 #[] w <| Rt w fun v Qr => ∃ (r0 : Bool), v = .bool r0 /\ Qr = [] /\ Q r0 := by
 refine Jg <| Jf (vs := []) [0] XF4 rfl rfl rfl rfl ?_; have hS := Jl w; unfold Ja2 at hv; refine Jc 6 <| J9 (vs := is ([(1 : Int), (1 : Int), (0 : Int), (0 : Int)] : LI)) hS Jk XE3 rfl rfl rfl rfl (JS _) rfl ?_; intro A11 w12 hS; refine Zu (cells := #[nI 2, nI 4, .slice A11 4 4]) XB24 rfl rfl rfl <| SL.call hS (Ji0 (hS.rd (i := 0) rfl) hv) XF5 rfl XN5 rfl rfl ?_; rintro _ _ w15 ⟨o, hv, hK⟩ hGw15 hS; cases o with
 | none =>
  obtain ⟨rfl, rfl⟩ := hK
  change St _ _ _ _ [_] at hS
  refine Jb 2 <| Jc 4 <| Zt Jcb rfl rfl rfl rfl <| Ja <| JX rfl <| Jc 4 <| W.ret <| ⟨_, rfl, Fin.nil ?_⟩
  exact (hS.pick [] rfl).fin rfl ⟨false, rfl, rfl, hv⟩
 | some F17 =>
  obtain ⟨ad18, lo19, hi20, rfl, rfl⟩ := hK
  change St _ _ _ _ [_, _] at hS
  refine Jb 2 <| Jc 4 <| Zt Jcb rfl rfl rfl rfl <| Ja <| QZ rfl <| Jj <| Jc 3 <| SL.call hS (Je8 (Ja3 (hS.chunk (i := 0) rfl)) hv) XF13 rfl XN13 rfl rfl ?_; rintro _ _ w23 ⟨x24, r28, A25, k26, rfl, rfl, hv⟩ hGw23 hS; have hS := hS.n1; refine Jb 6 <| Jc 3 <| SL.call hS (Jmf (Ja3 (hS.chunk (i := 1) rfl)) hv) XF14 rfl XN14 rfl rfl ?_; rintro _ _ w29 ⟨r30, r31, rfl, rfl, hv⟩ hGw29 hS; have hS := hS.n0; refine Jb 6 <| Jc 4 <| Jn rfl rfl ?_; by_cases g32 : r28 = 0
  .have hv := hv.1 g32; rw [decide_eq_true g32]; refine Jb 3 <| J9 (vs := is ([(0 : Int), (1 : Int), (6 : Int), (7 : Int)] : LI)) hS Jk XE3 rfl rfl rfl rfl (JS _) rfl ?_; intro A33 w34 hS; refine WL.take rfl <| SL.call hS (Jfe (hS.rd (i := 1) rfl) (hS.rd (i := 0) rfl) hv) XF8 rfl XN8 rfl rfl ?_; rintro _ _ w36 ⟨r37, rfl, rfl, hv⟩ hGw36 hS; have hS := hS.n0; refine WL.pick rfl rfl rfl <| Jn rfl rfl ?_; cases g38 : r37
   .have hv := hv.2 g38; refine Jb 14 <| W.ret <| ⟨_, rfl, Fin.nil ?_⟩
    exact (hS.pick [] rfl).fin rfl ⟨false, rfl, rfl, hv⟩
   have hv := hv.1 g38; refine Jb 5 <| Jn rfl rfl ?_; by_cases g39 : r31 = 0
   .have hv := hv.1 g39; rw [decide_eq_true g39]; refine Jb 5 <| Jn rfl rfl ?_; by_cases g40 : r30 = 1
    .have hv := hv.1 g40; rw [decide_eq_true g40]; refine Jb 3 <| SL.call hS (Jg5 (Ja3 (hS.chunk (i := 2) rfl)) hv) XF15 rfl XN15 rfl rfl ?_; rintro _ _ w41 ⟨r42, rfl, rfl, hv⟩ hGw41 hS; have hS := hS.n0; refine Jb 5 <| W.ret <| ⟨_, rfl, Fin.nil ?_⟩
     exact (hS.pick [] rfl).fin rfl ⟨(decide (r42 = 4)), rfl, rfl, hv⟩
    have hv := hv.2 g40; rw [decide_eq_false g40]; refine Jb 6 <| W.ret <| ⟨_, rfl, Fin.nil ?_⟩
    exact (hS.pick [] rfl).fin rfl ⟨false, rfl, rfl, hv⟩
   have hv := hv.2 g39; rw [decide_eq_false g39]; refine Jb 10 <| W.ret <| ⟨_, rfl, Fin.nil ?_⟩
   exact (hS.pick [] rfl).fin rfl ⟨false, rfl, rfl, hv⟩
  have hv := hv.2 g32; rw [decide_eq_false g32]; refine Jb 19 <| W.ret <| ⟨_, rfl, Fin.nil ?_⟩
  exact (hS.pick [] rfl).fin rfl ⟨false, rfl, rfl, hv⟩
end Go.Proofs.Ytopemhgpdlbkjaa
namespace Go.Proofs.Ytopemhgpdlbkjaa
open Go.RowKit
def QV (Pf : Int) (Mf : Int) (mf : LI) (v0 : Int) (v1 : Int) (p : LI) (Q : Bool -> Prop) : Prop :=
  Ja2  (fun r16 => (((!r16) = true) -> Q false) /\ ((!r16) = false -> (Z2 Pf Mf mf (fun q => match q with | none => Q true | some F21 => (((12 : Int) < (p.length : Int)) -> Q true) /\ (¬ ((12 : Int) < (p.length : Int)) -> (YX F21 v0 v1 (fun (x43, r47) => Yo Pf Mf mf v1 (fun r49 => (((!r49) = true) -> (((r47 = 6) -> (Q (decide ((x43.length : Int) = (0 : Int))))) /\ (¬ (r47 = 6) -> Q false))) /\ ((!r49) = false -> (((r47 ≠ 0) -> Q false) /\ (¬ (r47 ≠ 0) -> (Yq Pf Mf mf v0 v1 (fun x54 => YY x43 x54 (fun r59 => (((!r59) = true) -> Q false) /\ ((!r59) = false -> (Zz Pf Mf mf x43 v0 (fun r62 => ((r62 ≠ 0) -> Q false) /\ (¬ (r62 ≠ 0) -> (∃ (I67 : Int -> Prop) (μ68 : Int -> Nat), I67 0 /\ ∀ (z66 : Int), (I67 z66 -> (((z66 < (x43.length : Int)) -> ((0 <= z66 /\ z66 < (x43.length : Nat)) /\ (Jgf Pf Mf mf (gi x43 z66) v1 (fun r73 => (((!r73) = true) -> Q false) /\ ((!r73) = false -> ((I64 (z66 + 1)) /\ (I67 (z66 + 1) /\ μ68 (z66 + 1) < μ68 z66))))))) /\ (¬ (z66 < (x43.length : Int)) -> (∃ (I79 : Int -> Prop) (μ80 : Int -> Nat), I79 0 /\ ∀ (z78 : Int), (I79 z78 -> (((z78 < (p.length : Int)) -> ((0 <= z78 /\ z78 < (p.length : Nat)) /\ (Jgf Pf Mf mf (gi p z78) v1 (fun r85 => (((!r85) = true) -> Q true) /\ ((!r85) = false -> ((I64 (z78 + 1)) /\ (I79 (z78 + 1) /\ μ80 (z78 + 1) < μ80 z78))))))) /\ (¬ (z78 < (p.length : Int)) -> (Zz Pf Mf mf p v0 (fun r89 => ((r89 ≠ 0) -> Q true) /\ (¬ (r89 ≠ 0) -> (Jem Pf Mf mf p x43 (fun x92 => Q (decide ((x92.length : Int) = (0 : Int))))))))))))))))))))))))))))))))))
theorem Jah {w : World} {Q : Bool -> Prop} {Pf : Int} {Mf : Int} {mf : LI} {v0 : Int} {v1 : Int} {p : LI} {Bf : Nat} {Af : Option Addr} {nf kf : Nat} (hf : Rd Bf w 1 Af nf kf (is mf)) {Bp : Nat} {Ap : Option Addr} {np kp : Nat} (hp : Rd Bp w 1 Ap np kp (is p)) (hv : QV Pf Mf mf v0 v1 p Q) :
   Calls Try.prog 3 #[.agg #[.int .i64 Pf, .int .i64 Mf, .slice Af nf kf], .agg #[.int .i64 v0, .int .i64 v1], .slice Ap np kp] w <| Rt w fun v Qr => ∃ (r0 : Bool), v = .bool r0 /\ Qr = [] /\ Q r0 := by
 have hnf := hf.ilen; subst hnf; have hnp := hp.ilen; subst hnp; refine Jg <| Jf (vs := [.agg #[nI Pf, nI Mf, nS Af mf kf], .agg #[nI v0, nI v1], nS Ap p kp]) [6] XF3 rfl rfl rfl rfl ?_; have hS := Jl w; unfold QV at hv; refine Jc 2 <| JA (z := 3) (cs := [nI Pf, nI Mf, nS Af mf kf]) hS rfl rfl rfl rfl ?_; intro g11 w12 hS; refine JA (z := 2) (cs := [nI v0, nI v1]) hS rfl rfl rfl rfl ?_; intro g13 w14 hS; refine Jb 2 <| Jc 3 <| SL.call hS (Jmo  hv) XF4 rfl XN4 rfl rfl ?_; rintro _ _ w15 ⟨r16, rfl, rfl, hv⟩ hGw15 hS; have hS := hS.n0; refine Jb 2 <| Jh rfl (fun c17 => ?_) (fun c17 => ?_)
 .have hv := hv.1 (c17); refine Jc 4 <| W.ret <| ⟨_, rfl, Fin.nil ?_⟩
  exact (hS.pick [] rfl).fin rfl ⟨false, rfl, rfl, hv⟩
 have hv := hv.2 (c17); refine Jj <| Jc 2 <| Jt 1 JD JF hS rfl ⟨rfl, rfl⟩ rfl <| SL.call hS (Ji0 (hS.ro hf) hv) XF5 rfl XN5 rfl rfl ?_; rintro _ _ w19 ⟨o, hv, hK⟩ hGw19 hS; cases o with
 | none =>
   obtain ⟨rfl, rfl⟩ := hK
   change St _ _ _ _ [_, _] at hS
   refine Jb 2 <| Jr <| JC 6 [⟨[], [4], true⟩, ⟨[0], [], false⟩, ⟨[], [4], true⟩, ⟨[2], [], false⟩, ⟨[1], [], true⟩, ⟨[3], [], true⟩] [(20, nP g13), (21, nI v0), (22, .pointer (some ((⟨g13, 0, none⟩ : Addr).add 1))), (23, nI v1), (8, nI v0), (9, nI v1)] Try.mixed (by kernel_rfl) rfl rfl ?_ ?_
   . refine ⟨fun _ _ _ => YR 0 Try.arr25 rfl rfl rfl (by decide) rfl rfl <| Ja ⟨rfl, rfl⟩, og hS fun _ _ hS => Jp 0 0 XU3 hS rfl rfl rfl ⟨rfl, rfl⟩ <| Ja ⟨rfl, Je _⟩, fun _ _ _ => YR 1 Try.arr25 rfl rfl rfl (by decide) rfl rfl <| Ja ⟨rfl, rfl⟩, og hS fun _ _ hS => Jp 0 1 XU3 hS rfl rfl rfl ⟨rfl, rfl⟩ <| Ja ⟨rfl, Je _⟩, oD, oD, trivial⟩
   intro w33 hT; have hS := hS.grow hT; refine JW <| Jc 4 <| Zt Jcb rfl rfl rfl rfl <| Jb 6 <| JX rfl <| Jc 4 <| W.ret <| ⟨_, rfl, Fin.nil ?_⟩
   exact (hS.pick [] rfl).fin rfl ⟨true, rfl, rfl, hv⟩
 | some F21 =>
   obtain ⟨ad22, lo23, hi24, rfl, rfl⟩ := hK
   change St _ _ _ _ [_, _, _] at hS
   refine Jb 2 <| Jr <| JC 6 [⟨[], [4], true⟩, ⟨[0], [], false⟩, ⟨[], [4], true⟩, ⟨[2], [], false⟩, ⟨[1], [], true⟩, ⟨[3], [], true⟩] [(20, nP g13), (21, nI v0), (22, .pointer (some ((⟨g13, 0, none⟩ : Addr).add 1))), (23, nI v1), (8, nI v0), (9, nI v1)] Try.mixed (by kernel_rfl) rfl rfl ?_ ?_
   . refine ⟨fun _ _ _ => YR 0 Try.arr25 rfl rfl rfl (by decide) rfl rfl <| Ja ⟨rfl, rfl⟩, og hS fun _ _ hS => Jp 1 0 XU3 hS rfl rfl rfl ⟨rfl, rfl⟩ <| Ja ⟨rfl, Je _⟩, fun _ _ _ => YR 1 Try.arr25 rfl rfl rfl (by decide) rfl rfl <| Ja ⟨rfl, rfl⟩, og hS fun _ _ hS => Jp 1 1 XU3 hS rfl rfl rfl ⟨rfl, rfl⟩ <| Ja ⟨rfl, Je _⟩, oD, oD, trivial⟩
   intro w40 hT; have hS := hS.grow hT; refine JW <| Jc 4 <| Zt Jcb rfl rfl rfl rfl <| Jb 4 <| WL.len Jk rfl rfl <| Jb 4 <| Jh rfl (fun c41 => ?_) (fun c41 => ?_)
   .have hv := hv.1 (oT c41); refine Jc 4 <| W.ret <| ⟨_, rfl, Fin.nil ?_⟩
    exact (hS.pick [] rfl).fin rfl ⟨true, rfl, rfl, hv⟩
   have hv := hv.2 (oF c41); refine Jj <| Jc 5 <| SL.call hS (Jg8 (Ja3 (hS.chunk (i := 0) rfl)) hv) XF6 rfl XN6 rfl rfl ?_; rintro _ _ w42 ⟨x43, r47, A44, k45, rfl, rfl, hv⟩ hGw42 hS; have hS := hS.n1; refine Jb 6 <| Jc 3 <| Jt 3 JD JF hS rfl ⟨rfl, rfl⟩ rfl <| Jn rfl rfl <| SL.call hS (Je7 (hS.ro hf) hv) XF7 rfl XN7 rfl rfl ?_; rintro _ _ w48 ⟨r49, rfl, rfl, hv⟩ hGw48 hS; have hS := hS.n0; refine Jb 2 <| Jh rfl (fun c50 => ?_) (fun c50 => ?_)
   .have hv := hv.1 (c50); refine Jc 4 <| Jn rfl rfl ?_; by_cases g51 : r47 = 6
    .have hv := hv.1 g51; rw [decide_eq_true g51]; refine Jb 3 <| WL.len Jk rfl rfl <| Jb 5 <| W.ret <| ⟨_, rfl, Fin.nil ?_⟩
     exact (hS.pick [] rfl).fin rfl ⟨(decide ((x43.length : Int) = (0 : Int))), rfl, rfl, hv⟩
    have hv := hv.2 g51; rw [decide_eq_false g51]; refine Jb 6 <| W.ret <| ⟨_, rfl, Fin.nil ?_⟩
    exact (hS.pick [] rfl).fin rfl ⟨false, rfl, rfl, hv⟩
   have hv := hv.2 (c50); refine Jj <| Jc 5 <| Jn rfl rfl ?_; by_cases g52 : r47 ≠ 0
   .have hv := hv.1 g52; rw [decide_eq_true g52]; refine Jb 16 <| JX rfl <| Jc 4 <| W.ret <| ⟨_, rfl, Fin.nil ?_⟩
    exact (hS.pick [] rfl).fin rfl ⟨false, rfl, rfl, hv⟩
   have hv := hv.2 g52; rw [decide_eq_false g52]; refine Jb 3 <| Jt 3 JD JF hS rfl ⟨rfl, rfl⟩ rfl <| Jb 5 <| SL.call hS (Jfa (hS.ro hf) hv) XF9 rfl XN9 rfl rfl ?_; rintro _ _ w53 ⟨x54, A55, k56, rfl, rfl, hv⟩ hGw53 hS; have hS := hS.n1; refine WL.take rfl <| SL.call hS (Jfe (hS.rd (i := 1) rfl) (hS.rd (i := 0) rfl) hv) XF8 rfl XN8 rfl rfl ?_; rintro _ _ w58 ⟨r59, rfl, rfl, hv⟩ hGw58 hS; have hS := hS.n0; refine Jb 3 <| Jn rfl rfl ?_; rcases g60 : (!r59) with _ | _
   .have hv := hv.2 g60; refine WL.take rfl <| Jt 4 JD JF hS rfl ⟨rfl, rfl⟩ rfl <| Jb 5 <| SL.call hS (Jfb (hS.ro hf) (hS.rd (i := 1) rfl) hv) XF10 rfl XN10 rfl rfl ?_; rintro _ _ w61 ⟨r62, rfl, rfl, hv⟩ hGw61 hS; have hS := hS.n0; refine Jb 4 <| Jh rfl (fun c63 => ?_) (fun c63 => ?_)
    .have hv := hv.1 (oT c63); refine Jc 4 <| W.ret <| ⟨_, rfl, Fin.nil ?_⟩
     exact (hS.pick [] rfl).fin rfl ⟨false, rfl, rfl, hv⟩
    have hv := hv.2 (oF c63); refine Jj <| Jc 4 <| WL.len Jk rfl rfl <| Jb 2 <| W.block ?_; obtain ⟨I67, μ68, hv, hk97⟩ := hv; refine Jv (σ := Int) (fun z66 w1 => I67 z66 /\ St TT w none w1 [nR 3 A55 x54 k56, nR 3 A44 x43 k45, .ch lo23 hi24 (fun wz => GFX lo23 hi24 wz ad22 F21), .row 25 2 (nA g13) 1 1 [nI v0, nI v1], .row 24 3 (nA g11) 1 1 [nI Pf, nI Mf, nS Af mf kf]]) (fun z66 => [(2, nS Ap p kp), (3, nP g11), (6, .bool false), (8, nI v0), (9, nI v1), (10, nS A44 x43 k45), (67, nS A44 x43 k45), (68, nI (x43.length : Int)), (69, nI z66)]) (fun z66 => μ68 z66) (0 : Int) ⟨hv, hS⟩ ⟨rfl, rfl, rfl, rfl, rfl, rfl, rfl, rfl, rfl, trivial⟩ ?_; rintro z66 w69 ⟨hv, hS⟩; have hv := hk97 z66 hv; refine Jc 5 <| Jh rfl (fun c70 => ?_) (fun c70 => ?_)
    .have hv := hv.1 (oT c70); refine Jj <| Jr <| W.block <| Jc 2 ?_; obtain ⟨o71, hv⟩ := hv; refine Ji Jk XE3 (hS.rd (i := 1) rfl) rfl rfl o71 rfl <| Jm XU3 rfl rfl (JB (hS.rd (i := 1) rfl) o71) rfl <| Jb 2 <| Jc 2 <| Jt 4 JD JF hS rfl ⟨rfl, rfl⟩ rfl <| Jb 2 <| SL.call hS (Jmj (hS.ro hf) hv) XF11 rfl XN11 rfl rfl ?_; rintro _ _ w72 ⟨r73, rfl, rfl, hv⟩ hGw72 hS; have hS := hS.n0; refine Jb 2 <| Jh rfl (fun c74 => ?_) (fun c74 => ?_)
     .have hv := hv.1 (c74); refine Jc 4 <| W.ret <| ⟨_, rfl, Fin.nil ?_⟩
      exact (hS.pick [] rfl).fin rfl ⟨false, rfl, rfl, hv⟩
     have hv := hv.2 (c74); refine Jj <| Jw ?_; obtain ⟨o75, hv⟩ := hv; refine WL.add (r := (z66 + 1)) rfl rfl (wr o75) rfl <| Jb 2 ?_; exact ⟨(z66 + 1), sp rfl, hv.2, rfl, hv.1, hS⟩
    have hv := hv.2 (oF c70); refine Js <| Jc 4 <| WL.len Jk rfl rfl <| Jb 2 <| W.block ?_; obtain ⟨I79, μ80, hv, hk96⟩ := hv; refine Jv (σ := Int) (fun z78 w1 => I79 z78 /\ St TT w none w1 [nR 3 A55 x54 k56, nR 3 A44 x43 k45, .ch lo23 hi24 (fun wz => GFX lo23 hi24 wz ad22 F21), .row 25 2 (nA g13) 1 1 [nI v0, nI v1], .row 24 3 (nA g11) 1 1 [nI Pf, nI Mf, nS Af mf kf]]) (fun z78 => [(2, nS Ap p kp), (3, nP g11), (6, .bool false), (8, nI v0), (9, nI v1), (10, nS A44 x43 k45), (79, nS Ap p kp), (80, nI (p.length : Int)), (81, nI z78)]) (fun z78 => μ80 z78) (0 : Int) ⟨hv, hS⟩ ⟨rfl, rfl, rfl, rfl, rfl, rfl, rfl, rfl, rfl, trivial⟩ ?_; rintro z78 w81 ⟨hv, hS⟩; have hv := hk96 z78 hv; refine Jc 5 <| Jh rfl (fun c82 => ?_) (fun c82 => ?_)
    .have hv := hv.1 (oT c82); refine Jj <| Jr <| W.block <| Jc 2 ?_; obtain ⟨o83, hv⟩ := hv; refine Ji Jk XE3 (hS.ro hp) rfl rfl o83 rfl <| Jm XU3 rfl rfl (JB (hS.ro hp) o83) rfl <| Jb 2 <| Jc 2 <| Jt 4 JD JF hS rfl ⟨rfl, rfl⟩ rfl <| Jb 2 <| SL.call hS (Jmj (hS.ro hf) hv) XF11 rfl XN11 rfl rfl ?_; rintro _ _ w84 ⟨r85, rfl, rfl, hv⟩ hGw84 hS; have hS := hS.n0; refine Jb 2 <| Jh rfl (fun c86 => ?_) (fun c86 => ?_)
     .have hv := hv.1 (c86); refine Jc 4 <| W.ret <| ⟨_, rfl, Fin.nil ?_⟩
      exact (hS.pick [] rfl).fin rfl ⟨true, rfl, rfl, hv⟩
     have hv := hv.2 (c86); refine Jj <| Jw ?_; obtain ⟨o87, hv⟩ := hv; refine WL.add (r := (z78 + 1)) rfl rfl (wr o87) rfl <| Jb 2 ?_; exact ⟨(z78 + 1), sp rfl, hv.2, rfl, hv.1, hS⟩
    have hv := hv.2 (oF c82); refine Js <| Jc 2 <| Jt 4 JD JF hS rfl ⟨rfl, rfl⟩ rfl <| Jb 2 <| SL.call hS (Jfb (hS.ro hf) (hS.ro hp) hv) XF10 rfl XN10 rfl rfl ?_; rintro _ _ w88 ⟨r89, rfl, rfl, hv⟩ hGw88 hS; have hS := hS.n0; refine Jel rfl rfl rfl <| Jn rfl rfl ?_; by_cases g90 : r89 ≠ 0
    .have hv := hv.1 g90; rw [decide_eq_true g90]; refine Jb 9 <| W.ret <| ⟨_, rfl, Fin.nil ?_⟩
     exact (hS.pick [] rfl).fin rfl ⟨true, rfl, rfl, hv⟩
    have hv := hv.2 g90; rw [decide_eq_false g90]; refine WL.take rfl <| Jt 4 JD JF hS rfl ⟨rfl, rfl⟩ rfl <| Jb 5 <| SL.call hS (Jot (hS.ro hf) (hS.ro hp) (hS.rd (i := 1) rfl) hv) XF12 rfl XN12 rfl rfl ?_; rintro _ _ w91 ⟨x92, A93, k94, rfl, rfl, hv⟩ hGw91 hS; have hS := hS.n1; refine WL.take rfl <| WL.len Jk rfl rfl <| Jb 5 <| W.ret <| ⟨_, rfl, Fin.nil ?_⟩
    exact (hS.pick [] rfl).fin rfl ⟨(decide ((x92.length : Int) = (0 : Int))), rfl, rfl, hv⟩
   have hv := hv.1 g60; refine Jb 7 <| JX rfl <| Jc 4 <| W.ret <| ⟨_, rfl, Fin.nil ?_⟩
   exact (hS.pick [] rfl).fin rfl ⟨false, rfl, rfl, hv⟩
end Go.Proofs.Ytopemhgpdlbkjaa
namespace Go.Proofs.Ytopemhgpdlbkjaa
end Go.Proofs.Ytopemhgpdlbkjaa
namespace Go.Proofs.Ytopemhgpdlbkjaa
abbrev Vec := Nat -> Int
def tX (m : Nat) (c : Vec) (v : Vec) : Vec := fun i => if i < m then (if i = 0 then 0 else v (i - 1)) - c i * v (m - 1) else 0
def JH (u v : Vec) : Vec := fun i => u i + v i
def vsm (a : Int) (v : Vec) : Vec := fun i => a * v i
def vz : Vec := fun _ => 0
def e0 : Vec := fun i => if i = 0 then 1 else 0
def tXn (m : Nat) (c : Vec) : Nat -> Vec -> Vec
  | 0, v => v
  | n + 1, v => tX m c (tXn m c n v)
def opr (m : Nat) (c b : Vec) : Nat -> Vec -> Vec
  | 0, _ => vz
  | n + 1, v => JH (opr m c b n v) (vsm (b n) (tXn m c n v))
def Qy (m : Nat) (c a b : Vec) : Vec := opr m c b m a
section
variable (m : Nat) (c : Vec)
theorem tX_add (u v : Vec) : tX m c (JH u v) = JH (tX m c u) (tX m c v) := by
 funext i; simp only [tX, JH]; split
 .split <;> grind
 .rfl
theorem tX_sm (a : Int) (v : Vec) : tX m c (vsm a v) = vsm a (tX m c v) := by
 funext i; simp only [tX, vsm]; split
 .split <;> grind
 .grind
theorem tX_z : tX m c vz = vz := by funext i; simp [tX, vz]
theorem Y8 (u : Vec) : JH u vz = u := by funext i; simp [JH, vz]
theorem z_vadd (u : Vec) : JH vz u = u := by funext i; simp [JH, vz]
theorem Jcv (u v : Vec) : JH u v = JH v u := by funext i; simp only [JH]; omega
theorem Yh (u v w : Vec) : JH (JH u v) w = JH u (JH v w) := by funext i; simp only [JH]; omega
theorem Jai (a : Int) (u v : Vec) : vsm a (JH u v) = JH (vsm a u) (vsm a v) := by funext i; simp only [JH, vsm]; grind
theorem Jdn (a b : Int) (u : Vec) : vsm a (vsm b u) = vsm (a * b) u := by funext i; simp only [vsm]; grind
theorem Jie (a : Int) : vsm a vz = vz := by funext i; simp [vsm, vz]
theorem Zl (n : Nat) (u v : Vec) : tXn m c n (JH u v) = JH (tXn m c n u) (tXn m c n v) := by
 induction n with
 | zero => rfl
 | succ n ih => simp only [tXn, ih, tX_add]
theorem ZG (n : Nat) (a : Int) (v : Vec) : tXn m c n (vsm a v) = vsm a (tXn m c n v) := by
 induction n with
 | zero => rfl
 | succ n ih => simp only [tXn, ih, tX_sm]
theorem Jev (n : Nat) : tXn m c n vz = vz := by
 induction n with
 | zero => rfl
 | succ n ih => simp only [tXn, ih, tX_z]
theorem Jlw (n : Nat) (v : Vec) : tXn m c n (tX m c v) = tX m c (tXn m c n v) := by
 induction n with
 | zero => rfl
 | succ n ih => simp only [tXn, ih]
theorem Jan (n k : Nat) (v : Vec) : tXn m c n (tXn m c k v) = tXn m c (n + k) v := by
 induction n with
 | zero => simp [tXn]
 | succ n ih => rw [Nat.succ_add]; simp only [tXn, ih]
variable (b : Vec)
theorem Jix (n : Nat) (u v : Vec) : opr m c b n (JH u v) = JH (opr m c b n u) (opr m c b n v) := by
 induction n with
 | zero => simp [opr, Y8]
 | succ n ih => simp only [opr, ih, Zl, Jai]; funext i; simp only [JH]; omega
theorem Jg4 (n : Nat) (a : Int) (v : Vec) : opr m c b n (vsm a v) = vsm a (opr m c b n v) := by
 induction n with
 | zero => simp [opr, Jie]
 | succ n ih => simp only [opr, ih, ZG, Jai, Jdn]; rw [Int.mul_comm (b n) a]
theorem opr_z (n : Nat) : opr m c b n vz = vz := by
 induction n with
 | zero => rfl
 | succ n ih => simp only [opr, ih, Jev, Jie, Y8]
theorem Jiw (n k : Nat) (v : Vec) : opr m c b n (tXn m c k v) = tXn m c k (opr m c b n v) := by
 induction n with
 | zero => simp [opr, Jev]
 | succ n ih => simp only [opr, ih, Zl, ZG, Jan]; rw [Nat.add_comm n k]
theorem Je6 (d : Vec) (n k : Nat) (v : Vec) : opr m c b n (opr m c d k v) = opr m c d k (opr m c b n v) := by
 induction n with
 | zero => simp only [opr, opr_z]
 | succ n ih => simp only [opr, ih, Jix, Jg4, Jiw]
theorem Jmd (d : Vec) (n : Nat) (v : Vec) : opr m c (JH b d) n v = JH (opr m c b n v) (opr m c d n v) := by
 induction n with
 | zero => simp [opr, Y8]
 | succ n ih => simp only [opr, ih]; funext i; simp only [JH, vsm]; grind
end
def vei (k : Nat) : Vec := fun i => if i = k then 1 else 0
theorem Jgu {m : Nat} {c : Vec} : ∀ {k : Nat}, k < m -> tXn m c k e0 = vei k
 | 0, _ => rfl
 | k + 1, h => by
  have ih : tXn m c k e0 = vei k := Jgu (by omega); simp only [tXn, ih]; funext i; simp only [tX, vei]; split
  .rw [if_neg (show ¬ m - 1 = k by omega)]; by_cases h0 : i = 0
   .subst h0; simp
   .simp only [h0, if_false]; by_cases h1 : i = k + 1
    .subst h1; simp
    .rw [if_neg (by omega), if_neg h1]; simp
  .rw [if_neg (by omega)]
theorem Jd2 {m : Nat} {c a : Vec} : ∀ {n : Nat}, n <= m -> ∀ i, opr m c a n e0 i = if i < n then a i else 0
  | 0, _, i => by simp [opr, vz]
  | n + 1, h, i => by
    simp only [opr, JH, vsm]
    rw [Jd2 (n := n) (by omega) i, Jgu (by omega)]
    simp only [vei]
    by_cases h1 : i = n
    . subst h1; simp
    . by_cases h2 : i < n
      . simp [h2, h1, show i < n + 1 by omega]
      . simp [h2, h1, show ¬ i < n + 1 by omega]
def Sup (m : Nat) (v : Vec) : Prop := ∀ i, m <= i -> v i = 0
theorem Q8 {m : Nat} {c a : Vec} (h : Sup m a) : opr m c a m e0 = a := by
 funext i; rw [Jd2 (Nat.le_refl m)]; split
 .rfl
 .exact (h i (by omega)).symm
theorem Sup.z {m : Nat} : Sup m vz := fun _ _ => rfl
theorem Sup.tX {m : Nat} {c v : Vec} : Sup m (tX m c v) := fun i h => by simp [Go.Proofs.Ytopemhgpdlbkjaa.tX, show ¬ i < m by omega]
theorem Sup.add {m : Nat} {u v : Vec} (hu : Sup m u) (hv : Sup m v) : Sup m (JH u v) := fun i h => by simp [JH, hu i h, hv i h]
theorem Sup.sm {m : Nat} {a : Int} {v : Vec} (hv : Sup m v) : Sup m (vsm a v) := fun i h => by simp [vsm, hv i h]
theorem Sup.tXn {m : Nat} {c v : Vec} (hv : Sup m v) : ∀ n, Sup m (tXn m c n v)
 | 0 => hv
 | _ + 1 => Sup.tX
theorem Sup.opr {m : Nat} {c b v : Vec} (hv : Sup m v) : ∀ n, Sup m (opr m c b n v)
 | 0 => Sup.z
 | n + 1 => (Sup.opr hv n).add (hv.tXn n).sm
theorem YH {m : Nat} {c a b : Vec} (ha : Sup m a) (hb : Sup m b) : Qy m c a b = Qy m c b a := by
 unfold Qy
 calc opr m c b m a = opr m c b m (opr m c a m e0) := by rw [Q8 ha]
  _ = opr m c a m (opr m c b m e0) := Je6 ..
  _ = opr m c a m b := by rw [Q8 hb]
theorem Jgp {m : Nat} {c a b d : Vec} (ha : Sup m a) (hb : Sup m b) (hd : Sup m d) : Qy m c (Qy m c a b) d = Qy m c a (Qy m c b d) := by
 rw [YH (a := a) (b := Qy m c b d) ha (Sup.opr hb m)]; show opr m c d m (opr m c b m a) = opr m c a m (opr m c d m b); rw [<- Je6 m c d a m m b]; show opr m c d m (Qy m c a b) = opr m c d m (Qy m c b a); rw [YH ha hb]
theorem Jlk {m : Nat} {c a b d : Vec} : Qy m c a (JH b d) = JH (Qy m c a b) (Qy m c a d) := Jmd ..
theorem Jlj {m : Nat} {c a : Vec} (hm : 0 < m) : Qy m c a e0 = a := by
 have key : ∀ n, 0 < n -> opr m c e0 n a = a := by
  intro n
  induction n with
  | zero => intro h; omega
  | succ n ih =>
   intro _; rcases Nat.eq_zero_or_pos n with h | h
   .subst h; funext i; simp [opr, e0, JH, vsm, vz, tXn]
   .simp only [opr, ih h]; funext i; simp [e0, JH, vsm, show n ≠ 0 by omega]
 exact key m hm
def vcg (p : Int) (u v : Vec) : Prop := ∀ i, u i % p = v i % p
section
variable {p : Int} {m : Nat} {c c' u u' v v' b b' : Vec}
theorem vcg.refl (u : Vec) : vcg p u u := fun _ => rfl
theorem vcg.symm (h : vcg p u v) : vcg p v u := fun i => (h i).symm
theorem vcg.trans {w : Vec} (h : vcg p u v) (k : vcg p v w) : vcg p u w := fun i => (h i).trans (k i)
theorem ZO {a a' d d' : Int} (h : a % p = a' % p) (k : d % p = d' % p) : (a * d) % p = (a' * d') % p := by
 rw [Int.mul_emod, h, k, <- Int.mul_emod]
theorem ZX {a a' d d' : Int} (h : a % p = a' % p) (k : d % p = d' % p) : (a + d) % p = (a' + d') % p := by
 rw [Int.add_emod, h, k, <- Int.add_emod]
theorem Jgv {a a' d d' : Int} (h : a % p = a' % p) (k : d % p = d' % p) : (a - d) % p = (a' - d') % p := by
 rw [Int.sub_emod, h, k, <- Int.sub_emod]
theorem vcg.add (h : vcg p u u') (k : vcg p v v') : vcg p (JH u v) (JH u' v') := fun i => ZX (h i) (k i)
theorem vcg.sm {a a' : Int} (ha : a % p = a' % p) (h : vcg p u u') : vcg p (vsm a u) (vsm a' u') := fun i => ZO ha (h i)
theorem vcg.tX (hc : vcg p c c') (h : vcg p u u') : vcg p (tX m c u) (tX m c' u') := fun i => by
 simp only [Go.Proofs.Ytopemhgpdlbkjaa.tX]; split
 .split
  .exact Jgv rfl (ZO (hc i) (h _))
  .exact Jgv (h _) (ZO (hc i) (h _))
 .rfl
theorem vcg.tXn (hc : vcg p c c') (h : vcg p u u') : ∀ n, vcg p (tXn m c n u) (tXn m c' n u')
 | 0 => h
 | n + 1 => vcg.tX hc (vcg.tXn hc h n)
theorem vcg.opr (hc : vcg p c c') (hb : vcg p b b') (h : vcg p u u') : ∀ n, vcg p (opr m c b n u) (opr m c' b' n u')
 | 0 => .refl _
 | n + 1 => (vcg.opr hc hb h n).add (vcg.sm (hb n) (vcg.tXn hc h n))
theorem vcg.mul (hc : vcg p c c') (h : vcg p u u') (hb : vcg p b b') : vcg p (Qy m c u b) (Qy m c' u' b') := vcg.opr hc hb h m
end
end Go.Proofs.Ytopemhgpdlbkjaa
namespace Go.Proofs.Ytopemhgpdlbkjaa
def dv (p x : Nat) : Vec := fun i => ((x / p ^ i % p : Nat) : Int)
def vl (p : Nat) : Nat -> Vec -> Int
  | 0, _ => 0
  | n + 1, v => v 0 + (p : Int) * vl p n (fun i => v (i + 1))
def Cn (p n : Nat) (v : Vec) : Prop := ∀ i, i < n -> 0 <= v i /\ v i < p
def nm (p m : Nat) (v : Vec) : Nat := (vl p m (fun i => v i % (p : Int))).toNat
theorem Yn (p x i : Nat) : dv p x (i + 1) = dv p (x / p) i := by
 simp only [dv]; rw [Nat.pow_succ', <- Nat.div_div_eq_div_mul]
theorem QW (p x : Nat) : dv p x 0 = ((x % p : Nat) : Int) := by simp [dv]
theorem Cn.tl {p n : Nat} {v : Vec} (h : Cn p (n + 1) v) : Cn p n (fun i => v (i + 1)) := fun i hi => h (i + 1) (by omega)
theorem Jif {p : Nat} (hp : 0 < p) : ∀ {n : Nat} {v : Vec}, Cn p n v -> 0 <= vl p n v /\ vl p n v < ((p ^ n : Nat) : Int)
 | 0, v, _ => by simp [vl]
 | n + 1, v, h => by
  have ih := Jif hp h.tl; have h0 := h 0 (by omega); simp only [vl]; have h1 : (p : Int) * vl p n (fun i => v (i + 1)) <= p * (((p ^ n : Nat) : Int) - 1) := Int.mul_le_mul_of_nonneg_left (by omega) (by omega); have h2 : 0 <= (p : Int) * vl p n (fun i => v (i + 1)) := Int.mul_nonneg (by omega) ih.1; have h3 : ((p ^ (n + 1) : Nat) : Int) = p * ((p ^ n : Nat) : Int) := by rw [Nat.pow_succ']; push_cast; rfl
  have h4 : (p : Int) * (((p ^ n : Nat) : Int) - 1) = p * ((p ^ n : Nat) : Int) - p := by rw [Int.mul_sub, Int.mul_one]
  omega
theorem Ja7 {p : Nat} : ∀ {n : Nat} {u v : Vec}, (∀ i, i < n -> u i = v i) -> vl p n u = vl p n v
 | 0, _, _, _ => rfl
 | n + 1, u, v, h => by simp only [vl]; rw [h 0 (by omega), Ja7 (n := n) fun i hi => h (i + 1) (by omega)]
theorem Jlm {p : Nat} (hp : 0 < p) : ∀ {n x : Nat}, x < p ^ n -> vl p n (dv p x) = x
 | 0, x, h => by simp at h; subst h; rfl
 | n + 1, x, h => by
  simp only [vl]; have : (fun i => dv p x (i + 1)) = dv p (x / p) := by funext i; exact Yn p x i
  rw [this, Jlm hp (n := n) (by rw [Nat.div_lt_iff_lt_mul hp, <- Nat.pow_succ]; exact h), QW]; have := Nat.mod_add_div x p; have h2 : ((x % p + p * (x / p) : Nat) : Int) = (x : Int) := by rw [this]
  push_cast at h2 ⊢; exact h2
theorem dv_vl {p : Nat} (hp : 0 < p) : ∀ {n : Nat} {v : Vec}, Cn p n v -> ∀ i, i < n -> dv p (vl p n v).toNat i = v i
 | 0, _, _, i, hi => by omega
 | n + 1, v, h, i, hi => by
  have ih := Jif hp h.tl; have h0 := h 0 (by omega); obtain ⟨t, ht⟩ := Int.eq_ofNat_of_zero_le ih.1; obtain ⟨a, ha⟩ := Int.eq_ofNat_of_zero_le h0.1; have hv : (vl p (n + 1) v).toNat = a + p * t := by
   simp only [vl]; rw [ht, ha]; have : (a : Int) + (p : Int) * (t : Int) = ((a + p * t : Nat) : Int) := by push_cast; rfl
   rw [this]; rfl
  have hap : a < p := by have := h0.2; rw [ha] at this; omega
  rw [hv]; cases i with
  | zero => rw [QW, Nat.add_mul_mod_self_left, Nat.mod_eq_of_lt hap, ha]
  | succ i =>
   rw [Yn]; have h2 : (a + p * t) / p = t := by rw [Nat.add_mul_div_left _ _ hp, Nat.div_eq_of_lt hap, Nat.zero_add]
   have ih2 := dv_vl hp h.tl i (by omega); rw [ht] at ih2; rw [h2]; exact ih2
section
variable {p m : Nat}
theorem md_cn (hp : 0 < p) (v : Vec) (n : Nat) : Cn p n (fun i => v i % (p : Int)) := fun i _ => ⟨Int.emod_nonneg _ (by omega), Int.emod_lt_of_pos _ (by omega)⟩
theorem Y6 (hp : 0 < p) (v : Vec) : nm p m v < p ^ m := by
 have := Jif hp (md_cn hp v m); unfold nm; omega
theorem Jjj (hp : 0 < p) (v : Vec) {i : Nat} (hi : i < m) : dv p (nm p m v) i = v i % (p : Int) := dv_vl hp (md_cn hp v m) i hi
theorem Jdb (hp : 0 < p) (x n : Nat) : Cn p n (dv p x) := fun i _ => by
 have := Nat.mod_lt (x / p ^ i) hp; simp only [dv]; omega
theorem Jm8 {x i : Nat} (hx : x < p ^ m) (hi : m <= i) : dv p x i = 0 := by
 rcases Nat.eq_zero_or_pos p with rfl | hp
 .simp only [dv]; cases m with
  | zero =>
   have : x = 0 := by simpa using hx
   subst this; simp
  | succ m => simp at hx
 .have : x / p ^ i = 0 := Nat.div_eq_of_lt (Nat.lt_of_lt_of_le hx (Nat.pow_le_pow_right hp hi)); simp [dv, this]
theorem Qk {x : Nat} (hx : x < p ^ m) : Sup m (dv p x) := fun i hi => Jm8 hx hi
theorem Zc (x i : Nat) : dv p x i % (p : Int) = dv p x i := by
 simp only [dv]; rw [<- Int.natCast_emod, Nat.mod_mod]
theorem Yt (hp : 0 < p) {x : Nat} (hx : x < p ^ m) : nm p m (dv p x) = x := by
 unfold nm; rw [Ja7 (v := dv p x) fun i _ => Zc x i, Jlm hp hx]; rfl
theorem Ji7 {u v : Vec} (h : ∀ i, i < m -> u i % (p : Int) = v i % (p : Int)) : nm p m u = nm p m v := by
 unfold nm; rw [Ja7 h]
theorem QN {u v : Vec} (h : vcg p u v) : nm p m u = nm p m v := Ji7 fun i _ => h i
theorem Jdc (hp : 0 < p) {v : Vec} (hv : Sup m v) : vcg p (dv p (nm p m v)) v := fun i => by
 rcases Nat.lt_or_ge i m with h | h
 .rw [Jjj hp v h, Int.emod_emod]
 .rw [Jm8 (Y6 hp v) h, hv i h]
theorem nm_eq (hp : 0 < p) {x : Nat} {v : Vec} (hx : x < p ^ m) (h : ∀ i, i < m -> dv p x i = v i % (p : Int)) : nm p m v = x := by
 rw [<- Yt hp hx]; exact Ji7 fun i hi => by rw [h i hi, Int.emod_emod]
end
def JZ (p m x y : Nat) : Nat := nm p m (JH (dv p x) (dv p y))
def Jcq (p m x : Nat) : Nat := nm p m (vsm (-1) (dv p x))
def Jq (p m : Nat) (c : Vec) (x y : Nat) : Nat := nm p m (Qy m c (dv p x) (dv p y))
section
variable {p m : Nat} {c : Vec}
theorem Jjh (hp : 0 < p) (x y : Nat) : JZ p m x y < p ^ m := Y6 hp _
theorem Jjf (hp : 0 < p) (x : Nat) : Jcq p m x < p ^ m := Y6 hp _
theorem Jjg (hp : 0 < p) (x y : Nat) : Jq p m c x y < p ^ m := Y6 hp _
theorem Jec (hp : 0 < p) {x y : Nat} (hx : x < p ^ m) (hy : y < p ^ m) : vcg p (dv p (JZ p m x y)) (JH (dv p x) (dv p y)) := Jdc hp ((Qk hx).add (Qk hy))
theorem Jpi (hp : 0 < p) {x : Nat} (hx : x < p ^ m) : vcg p (dv p (Jcq p m x)) (vsm (-1) (dv p x)) := Jdc hp (Qk hx).sm
theorem Jli {a b : Vec} (ha : Sup m a) : Sup m (Qy m c a b) := Sup.opr ha m
theorem Zq (hp : 0 < p) {x y : Nat} (hx : x < p ^ m) : vcg p (dv p (Jq p m c x y)) (Qy m c (dv p x) (dv p y)) := Jdc hp (Jli (Qk hx))
theorem Jko (x y : Nat) : JZ p m x y = JZ p m y x := by unfold JZ; rw [Jcv]
theorem Jhl (hp : 0 < p) {x y z : Nat} (hx : x < p ^ m) (hy : y < p ^ m) (hz : z < p ^ m) : JZ p m (JZ p m x y) z = JZ p m x (JZ p m y z) := by
 show nm p m (JH (dv p (JZ p m x y)) (dv p z)) = nm p m (JH (dv p x) (dv p (JZ p m y z))); rw [QN ((Jec hp hx hy).add (vcg.refl _)), QN ((vcg.refl (p := p) (dv p x)).add (Jec hp hy hz)), Yh]
theorem ZU (p : Nat) : dv p 0 = vz := by funext i; simp [dv, vz]
theorem Jkn (hp : 0 < p) {x : Nat} (hx : x < p ^ m) : JZ p m x 0 = x := by unfold JZ; rw [ZU, Y8, Yt hp hx]
theorem Jfp (hp : 0 < p) {x : Nat} (hx : x < p ^ m) : JZ p m x (Jcq p m x) = 0 := by
 show nm p m (JH (dv p x) (dv p (Jcq p m x))) = 0; rw [QN ((vcg.refl (p := p) (dv p x)).add (Jpi hp hx))]; have : JH (dv p x) (vsm (-1) (dv p x)) = vz := by funext i; simp only [JH, vsm, vz]; omega
 rw [this, <- ZU p, Yt hp (by exact Nat.pow_pos hp)]
theorem ZR {x y : Nat} (hx : x < p ^ m) (hy : y < p ^ m) : Jq p m c x y = Jq p m c y x := by
 unfold Jq; rw [YH (Qk hx) (Qk hy)]
theorem Jhj (hp : 0 < p) {x y z : Nat} (hx : x < p ^ m) (hy : y < p ^ m) (hz : z < p ^ m) : Jq p m c (Jq p m c x y) z = Jq p m c x (Jq p m c y z) := by
 show nm p m (Qy m c (dv p (Jq p m c x y)) (dv p z)) = nm p m (Qy m c (dv p x) (dv p (Jq p m c y z))); rw [QN (vcg.mul (vcg.refl c) (Zq hp hx) (vcg.refl _)), QN (vcg.mul (vcg.refl c) (vcg.refl (dv p x)) (Zq hp hy)), Jgp (Qk hx) (Qk hy) (Qk hz)]
theorem Jeb (hp : 2 <= p) : dv p 1 = e0 := by
 funext i; cases i with
 | zero => rw [QW, Nat.mod_eq_of_lt (by omega)]; rfl
 | succ i =>
  have : (1 : Nat) / p ^ (i + 1) = 0 := Nat.div_eq_of_lt (Nat.one_lt_pow (by omega) (by omega)); simp [dv, this, e0]
theorem Jb5 (hp : 2 <= p) (hm : 0 < m) {x : Nat} (hx : x < p ^ m) : Jq p m c x 1 = x := by
 unfold Jq; rw [Jeb hp, Jlj hm, Yt (by omega) hx]
theorem Jkl (hp : 0 < p) {x : Nat} (hx : x < p ^ m) : Jq p m c x 0 = 0 := by
 rw [ZR hx (Nat.pow_pos hp)]; unfold Jq; rw [ZU]; have : Qy m c vz (dv p x) = vz := opr_z ..; rw [this, <- ZU p, Yt hp (Nat.pow_pos hp)]
theorem Jm3 (hp : 0 < p) {x y z : Nat} (hx : x < p ^ m) (hy : y < p ^ m) (hz : z < p ^ m) : Jq p m c x (JZ p m y z) = JZ p m (Jq p m c x y) (Jq p m c x z) := by
 show nm p m (Qy m c (dv p x) (dv p (JZ p m y z))) = nm p m (JH (dv p (Jq p m c x y)) (dv p (Jq p m c x z))); rw [QN (vcg.mul (vcg.refl c) (vcg.refl (dv p x)) (Jec hp hy hz)), QN ((Zq (c := c) hp hx).add (Zq hp hx)), Jlk]
end
structure CR (q : Nat) (A M : Nat -> Nat -> Nat) : Prop where
  q2 : 2 <= q
  Al : ∀ x y, A x y < q
  Ml : ∀ x y, M x y < q
  Ac : ∀ x y, A x y = A y x
  Aa : ∀ {x y z}, x < q -> y < q -> z < q -> A (A x y) z = A x (A y z)
  Az : ∀ {x}, x < q -> A x 0 = x
  An : ∀ {x}, x < q -> ∃ y, y < q /\ A x y = 0
  Mc : ∀ {x y}, x < q -> y < q -> M x y = M y x
  Ma : ∀ {x y z}, x < q -> y < q -> z < q -> M (M x y) z = M x (M y z)
  M1 : ∀ {x}, x < q -> M x 1 = x
  M0 : ∀ {x}, x < q -> M x 0 = 0
  Md : ∀ {x y z}, x < q -> y < q -> z < q -> M x (A y z) = A (M x y) (M x z)
theorem Jh9 {p m : Nat} (c : Vec) (hp : 2 <= p) (hm : 0 < m) : CR (p ^ m) (JZ p m) (Jq p m c) where
 q2 := Nat.le_trans hp (by have := Nat.pow_le_pow_right (n := p) (by omega) hm; simpa using this)
 Al := Jjh (by omega)
 Ml := Jjg (by omega)
 Ac := Jko
 Aa := Jhl (by omega)
 Az := Jkn (by omega)
 An := fun {x} hx => ⟨Jcq p m x, Jjf (by omega) x, Jfp (by omega) hx⟩
 Mc := ZR
 Ma := Jhj (by omega)
 M1 := Jb5 hp hm
 M0 := Jkl (by omega)
 Md := Jm3 (by omega)
end Go.Proofs.Ytopemhgpdlbkjaa
namespace Go.Proofs.Ytopemhgpdlbkjaa
def pw (M : Nat -> Nat -> Nat) (g : Nat) : Nat -> Nat
  | 0 => 1
  | k + 1 => M (pw M g k) g
theorem php : ∀ (n : Nat) (f : Nat -> Nat), (∀ i, i < n + 1 -> f i < n) -> ∃ i j, i < j /\ j < n + 1 /\ f i = f j
 | 0, f, h => absurd (h 0 (by omega)) (by omega)
 | n + 1, f, h => by
  by_cases hc : ∃ i, i < n + 1 /\ f i = f (n + 1)
  .obtain ⟨i, hi, he⟩ := hc; exact ⟨i, n + 1, hi, by omega, he⟩
  .have hv := h (n + 1) (by omega); obtain ⟨i, j, hij, hj, he⟩ := php n (fun i => if f i = n then f (n + 1) else f i) (fun i hi => by
    have hne : f i ≠ f (n + 1) := fun e => hc ⟨i, hi, e⟩; have := h i (by omega); show (if f i = n then f (n + 1) else f i) < n; split
    .omega
    .omega)
   refine ⟨i, j, hij, by omega, ?_⟩; have hi1 : f i ≠ f (n + 1) := fun e => hc ⟨i, by omega, e⟩; have hj1 : f j ≠ f (n + 1) := fun e => hc ⟨j, by omega, e⟩; split at he <;> split at he <;> omega
theorem Jew {n : Nat} {f : Nat -> Nat} (hb : ∀ i, i < n -> f i < n) (hi : ∀ i j, i < j -> j < n -> f i ≠ f j) {y : Nat} (hy : y < n) : ∃ i, i < n /\ f i = y := by
 obtain ⟨i, j, hij, hj, he⟩ := php n (fun i => if i < n then f i else y) (fun i _ => by
  show (if i < n then f i else y) < n; split
  .rename_i h; exact hb i h
  .exact hy)
 rcases Nat.lt_or_ge j n with h | h
 .rw [if_pos h, if_pos (show i < n by omega)] at he; exact absurd he (hi i j hij h)
 .rw [if_neg (show ¬ j < n by omega), if_pos (show i < n by omega)] at he; exact ⟨i, by omega, he⟩
section
variable {q : Nat} {A M : Nat -> Nat -> Nat} (R : CR q A M)
include R
namespace CR
theorem one_lt : 1 < q := R.q2
theorem pos : 0 < q := by have := R.q2; omega
theorem I1 {x : Nat} (hx : x < q) : M 1 x = x := by rw [R.Mc R.one_lt hx, R.M1 hx]
theorem Z0 {x : Nat} (hx : x < q) : M 0 x = 0 := by rw [R.Mc R.pos hx, R.M0 hx]
theorem zA {x : Nat} (hx : x < q) : A 0 x = x := by rw [R.Ac, R.Az hx]
theorem pw_lt (g : Nat) : ∀ k, pw M g k < q
 | 0 => R.one_lt
 | k + 1 => R.Ml _ _
theorem pw_one {g : Nat} (hg : g < q) : pw M g 1 = g := R.I1 hg
theorem pw_add {g : Nat} (hg : g < q) (i : Nat) : ∀ j, pw M g (i + j) = M (pw M g i) (pw M g j)
 | 0 => (R.M1 (R.pw_lt g i)).symm
 | j + 1 => by
  show M (pw M g (i + j)) g = M (pw M g i) (M (pw M g j) g); rw [pw_add hg i j, R.Ma (R.pw_lt g i) (R.pw_lt g j) hg]
theorem pw_pw {g : Nat} (hg : g < q) (i : Nat) : ∀ j, pw M (pw M g i) j = pw M g (i * j)
 | 0 => rfl
 | j + 1 => by
  show M (pw M (pw M g i) j) (pw M g i) = _; rw [pw_pw hg i j, <- R.pw_add hg]; rfl
theorem one_pw : ∀ j, pw M 1 j = 1
 | 0 => rfl
 | j + 1 => by show M (pw M 1 j) 1 = 1; rw [one_pw j, R.M1 R.one_lt]
theorem mul_pw {x y : Nat} (hx : x < q) (hy : y < q) : ∀ n, pw M (M x y) n = M (pw M x n) (pw M y n)
 | 0 => (R.M1 R.one_lt).symm
 | n + 1 => by
  show M (pw M (M x y) n) (M x y) = M (M (pw M x n) x) (M (pw M y n) y); have h1 := R.pw_lt x n; have h2 := R.pw_lt y n; rw [mul_pw hx hy n, R.Ma h1 h2 (R.Ml x y), <- R.Ma h2 hx hy, R.Mc h2 hx, R.Ma hx h2 hy, <- R.Ma h1 hx (R.Ml _ _)]
theorem zero_pw {n : Nat} (h : 0 < n) : pw M 0 n = 0 := by
 cases n with
 | zero => omega
 | succ n => exact R.M0 (R.pw_lt 0 n)
end CR
end
structure Gn (q : Nat) (M : Nat -> Nat -> Nat) (g : Nat) : Prop where
  lt : g < q
  one : pw M g (q - 1) = 1
  no : ∀ k, 0 < k -> k < q - 1 -> pw M g k ≠ 1
namespace Gn
variable {q g : Nat} {A M : Nat -> Nat -> Nat}
theorem per (G : Gn q M g) (R : CR q A M) (i k : Nat) : pw M g (i + (q - 1) * k) = pw M g i := by
 rw [R.pw_add G.lt, <- R.pw_pw G.lt, G.one, R.one_pw, R.M1 (R.pw_lt g i)]
theorem modp (G : Gn q M g) (R : CR q A M) (i : Nat) : pw M g (i % (q - 1)) = pw M g i := by
 have := G.per R (i % (q - 1)) (i / (q - 1)); rw [Nat.mod_add_div] at this; exact this.symm
theorem ne0 (G : Gn q M g) (R : CR q A M) (k : Nat) : pw M g k ≠ 0 := fun h => by
 have h1 := G.per R 0 (k + 1); have hq := R.q2; rw [Nat.zero_add] at h1; have : (q - 1) * (k + 1) = k + ((q - 1) * (k + 1) - k) := by
  have : k + 1 <= (q - 1) * (k + 1) := Nat.le_mul_of_pos_left _ (by omega); omega
 rw [this, R.pw_add G.lt, h, R.Z0 (R.pw_lt g _)] at h1; exact absurd h1 (by show ¬ (0 : Nat) = 1; omega)
theorem inj (G : Gn q M g) (R : CR q A M) {i j : Nat} (hij : i < j) (hj : j < q - 1) : pw M g i ≠ pw M g j := fun h => by
 have e1 : M (pw M g i) (pw M g (q - 1 - i)) = 1 := by rw [<- R.pw_add G.lt, show i + (q - 1 - i) = q - 1 by omega, G.one]
 have e2 : M (pw M g j) (pw M g (q - 1 - i)) = pw M g (j - i) := by
  rw [<- R.pw_add G.lt, show j + (q - 1 - i) = (j - i) + (q - 1) * 1 by omega, G.per R]
 rw [h] at e1; exact G.no (j - i) (by omega) (by omega) (e2.symm.trans e1)
theorem surj (G : Gn q M g) (R : CR q A M) {x : Nat} (h0 : 0 < x) (hx : x < q) : ∃ k, k < q - 1 /\ pw M g k = x := by
 obtain ⟨i, hi, he⟩ := Jew (n := q - 1) (f := fun k => pw M g k - 1) (fun i hi => by
  have := R.pw_lt g i; have := G.ne0 R i; show pw M g i - 1 < q - 1; omega) (fun i j hij hj he => by
  have h1 := G.ne0 R i; have h2 := G.ne0 R j; exact G.inj R hij hj (by omega)) (y := x - 1) (by omega)
 have := G.ne0 R i; exact ⟨i, hi, by omega⟩
open Classical in
noncomputable def lg (q : Nat) (M : Nat -> Nat -> Nat) (g x : Nat) : Nat := if h : ∃ k, k < q - 1 /\ pw M g k = x then Classical.choose h else 0
theorem xone (G : Gn q M g) (R : CR q A M) {x : Nat} (h0 : 0 < x) (hx : x < q) : pw M x (q - 1) = 1 := by
  obtain ⟨k, hk, rfl⟩ := G.surj R h0 hx
  rw [R.pw_pw G.lt, Nat.mul_comm, <- R.pw_pw G.lt, G.one, R.one_pw]
theorem xq (G : Gn q M g) (R : CR q A M) {x : Nat} (hx : x < q) : pw M x q = x := by
 have hq := R.q2; rcases Nat.eq_zero_or_pos x with rfl | h0
 .exact R.zero_pw (by omega)
 .have : q = (q - 1) + 1 := by omega
  rw [this]; show M (pw M x (q - 1)) x = x; rw [G.xone R h0 hx, R.I1 hx]
end Gn
end Go.Proofs.Ytopemhgpdlbkjaa
namespace Go.Proofs.Ytopemhgpdlbkjaa
structure IsLf (n d : Nat) : Prop where
  two : 2 <= d
  dvd : n % d = 0
  min : ∀ e, 2 <= e -> n % e = 0 -> d <= e
theorem Jj5 {p k : Nat} (hp : IsLf p p) (hk : k % p ≠ 0) : Nat.gcd p k = 1 := by
 have h1 := Nat.gcd_dvd_left p k; rcases Nat.lt_or_ge (Nat.gcd p k) 2 with h | h
 .have : 0 < Nat.gcd p k := Nat.gcd_pos_of_pos_left _ (by have := hp.two; omega); omega
 .have h2 := hp.min _ h (Nat.mod_eq_zero_of_dvd h1); have h3 := Nat.le_of_dvd (by have := hp.two; omega) h1; have h4 : Nat.gcd p k = p := by omega
  have h5 := Nat.gcd_dvd_right p k; rw [h4] at h5; exact absurd (Nat.mod_eq_zero_of_dvd h5) hk
def JG : Nat -> Nat -> Nat
  | _, 0 => 1
  | 0, _ + 1 => 0
  | n + 1, k + 1 => JG n k + JG n (k + 1)
theorem QX (n : Nat) : JG n 0 = 1 := by cases n <;> rfl
theorem Qo (n k : Nat) : JG (n + 1) (k + 1) = JG n k + JG n (k + 1) := rfl
theorem Qz : ∀ {n k : Nat}, n < k -> JG n k = 0
 | 0, k + 1, _ => rfl
 | n + 1, k + 1, h => by rw [Qo, Qz (by omega : n < k), Qz (by omega : n < k + 1)]
theorem Jac : ∀ n : Nat, JG n n = 1
 | 0 => rfl
 | n + 1 => by rw [Qo, Jac n, Qz (by omega)]
theorem QC : ∀ n k : Nat, (n + 1) * JG n k = JG (n + 1) (k + 1) * (k + 1)
 | 0, 0 => rfl
 | 0, k + 1 => by rw [Qz (by omega : 0 < k + 1), Qz (by omega : 0 + 1 < k + 1 + 1)]; simp
 | n + 1, 0 => by
  have h := QC n 0; rw [QX] at h ⊢; rw [Qo (n + 1) 0, QX]; omega
 | n + 1, k + 1 => by
  have h1 := QC n k; have h2 := QC n (k + 1); rw [Qo (n + 1) (k + 1), Nat.add_mul (JG (n + 1) (k + 1)), <- h2]; rw [show JG (n + 1) (k + 1) * (k + 1 + 1) = JG (n + 1) (k + 1) * (k + 1) + JG (n + 1) (k + 1) by rw [Nat.mul_add, Nat.mul_one], <- h1]; rw [show (n + 1 + 1) * JG (n + 1) (k + 1) = (n + 1) * JG (n + 1) (k + 1) + JG (n + 1) (k + 1) by rw [Nat.add_mul (n + 1) 1, Nat.one_mul]]; rw [Qo n k, Nat.mul_add]; omega
theorem Jdy {p k : Nat} (hp : IsLf p p) (h0 : 0 < k) (hk : k < p) : p ∣ JG p k := by
 obtain ⟨n, rfl⟩ : ∃ n, p = n + 1 := ⟨p - 1, by omega⟩
 obtain ⟨j, rfl⟩ : ∃ j, k = j + 1 := ⟨k - 1, by omega⟩
 have h := QC n j; have h2 : (n + 1) ∣ JG (n + 1) (j + 1) * (j + 1) := ⟨_, h.symm⟩
 exact Nat.Coprime.dvd_of_dvd_mul_right (Jj5 hp (by rw [Nat.mod_eq_of_lt hk]; omega)) h2
def ns (A : Nat -> Nat -> Nat) (x : Nat) : Nat -> Nat
  | 0 => 0
  | k + 1 => A (ns A x k) x
def rs (A : Nat -> Nat -> Nat) (f : Nat -> Nat) : Nat -> Nat
  | 0 => 0
  | n + 1 => A (rs A f n) (f n)
theorem Jbl {A : Nat -> Nat -> Nat} {f h : Nat -> Nat} : ∀ {n : Nat}, (∀ i, i < n -> f i = h i) -> rs A f n = rs A h n
 | 0, _ => rfl
 | n + 1, hh => by
  show A (rs A f n) (f n) = A (rs A h n) (h n); rw [Jbl (n := n) fun i hi => hh i (by omega), hh n (by omega)]
section
variable {q : Nat} {A M : Nat -> Nat -> Nat} (R : CR q A M)
include R
namespace CR
theorem ns_lt (x : Nat) : ∀ k, ns A x k < q
 | 0 => R.pos
 | k + 1 => R.Al _ _
theorem rs_lt (f : Nat -> Nat) : ∀ k, rs A f k < q
 | 0 => R.pos
 | k + 1 => R.Al _ _
theorem ns_add {x : Nat} (hx : x < q) (i : Nat) : ∀ j, ns A x (i + j) = A (ns A x i) (ns A x j)
 | 0 => (R.Az (R.ns_lt x i)).symm
 | j + 1 => by
  show A (ns A x (i + j)) x = A (ns A x i) (A (ns A x j) x); rw [ns_add hx i j, R.Aa (R.ns_lt x i) (R.ns_lt x j) hx]
theorem ns_mul {x : Nat} (hx : x < q) (i : Nat) : ∀ j, ns A x (i * j) = ns A (ns A x i) j
 | 0 => rfl
 | j + 1 => by
  show _ = A (ns A (ns A x i) j) (ns A x i); rw [Nat.mul_succ, R.ns_add hx, ns_mul hx i j]
theorem ns_zero : ∀ k, ns A 0 k = 0
 | 0 => rfl
 | k + 1 => by show A (ns A 0 k) 0 = 0; rw [ns_zero k, R.Az R.pos]
theorem mul_ns {x y : Nat} (hx : x < q) (hy : y < q) : ∀ k, M y (ns A x k) = ns A (M y x) k
 | 0 => R.M0 hy
 | k + 1 => by
  show M y (A (ns A x k) x) = A (ns A (M y x) k) (M y x); rw [R.Md hy (R.ns_lt x k) hx, mul_ns hx hy k]
theorem Aac {a b c : Nat} (ha : a < q) (hb : b < q) (hc : c < q) : A (A a b) c = A (A a c) b := by
 rw [R.Aa ha hb hc, R.Ac b c, <- R.Aa ha hc hb]
theorem A4 {a b c d : Nat} (ha : a < q) (hb : b < q) (hc : c < q) (hd : d < q) : A (A a b) (A c d) = A (A a c) (A b d) := by
 rw [<- R.Aa (R.Al a b) hc hd, R.Aac ha hb hc, R.Aa (R.Al a c) hb hd]
theorem rs_add {f h : Nat -> Nat} (hf : ∀ i, f i < q) (hh : ∀ i, h i < q) : ∀ n, rs A (fun i => A (f i) (h i)) n = A (rs A f n) (rs A h n)
 | 0 => (R.Az R.pos).symm
 | n + 1 => by
  show A (rs A (fun i => A (f i) (h i)) n) (A (f n) (h n)) = A (A (rs A f n) (f n)) (A (rs A h n) (h n)); rw [rs_add hf hh n, R.A4 (R.rs_lt f n) (R.rs_lt h n) (hf n) (hh n)]
theorem rs_mul {f : Nat -> Nat} {y : Nat} (hf : ∀ i, f i < q) (hy : y < q) : ∀ n, M y (rs A f n) = rs A (fun i => M y (f i)) n
 | 0 => R.M0 hy
 | n + 1 => by
  show M y (A (rs A f n) (f n)) = A (rs A (fun i => M y (f i)) n) (M y (f n)); rw [R.Md hy (R.rs_lt f n) (hf n), rs_mul hf hy n]
theorem rs_shift {f : Nat -> Nat} (hf : ∀ i, f i < q) : ∀ n, rs A f (n + 1) = A (f 0) (rs A (fun i => f (i + 1)) n)
 | 0 => by show A 0 (f 0) = A (f 0) 0; rw [R.Ac]
 | n + 1 => by
  show A (rs A f (n + 1)) (f (n + 1)) = A (f 0) (A (rs A (fun i => f (i + 1)) n) (f (n + 1))); rw [rs_shift hf n, R.Aa (hf 0) (R.rs_lt _ n) (hf _)]
theorem rs_zero {f : Nat -> Nat} : ∀ {n : Nat}, (∀ i, i < n -> f i = 0) -> rs A f n = 0
 | 0, _ => rfl
 | n + 1, h => by
  show A (rs A f n) (f n) = 0; rw [rs_zero (n := n) fun i hi => h i (by omega), h n (by omega), R.Az R.pos]
theorem binom {x : Nat} (hx : x < q) : ∀ n, pw M (A 1 x) n = rs A (fun k => ns A (pw M x k) (JG n k)) (n + 1)
  | 0 => by
    show 1 = A 0 (A 0 1)
    rw [R.zA R.one_lt, R.zA R.one_lt]
  | n + 1 => by
    have hl : ∀ j k, ns A (pw M x k) j < q := fun j k => R.ns_lt _ j
    have h1 : rs A (fun k => ns A (pw M x k) (JG (n + 1) k)) (n + 1 + 1) = A (ns A (pw M x 0) (JG (n + 1) 0)) (rs A (fun k => ns A (pw M x (k + 1)) (JG (n + 1) (k + 1))) (n + 1)) := R.rs_shift (fun k => hl _ k) (n + 1)
    have h2 : rs A (fun k => ns A (pw M x (k + 1)) (JG (n + 1) (k + 1))) (n + 1) = A (rs A (fun k => ns A (pw M x (k + 1)) (JG n k)) (n + 1)) (rs A (fun k => ns A (pw M x (k + 1)) (JG n (k + 1))) (n + 1)) := by
      rw [<- R.rs_add (fun k => hl _ (k + 1)) (fun k => hl _ (k + 1))]
      exact Jbl fun k _ => by rw [Qo, R.ns_add (R.pw_lt x _)]
    have h3 : rs A (fun k => ns A (pw M x (k + 1)) (JG n k)) (n + 1) = M x (rs A (fun k => ns A (pw M x k) (JG n k)) (n + 1)) := by
      rw [R.rs_mul (fun k => hl _ k) hx]
      exact Jbl fun k _ => by rw [R.mul_ns (R.pw_lt x k) hx, R.Mc hx (R.pw_lt x k)]; rfl
    have h4 : A (ns A (pw M x 0) (JG (n + 1) 0)) (rs A (fun k => ns A (pw M x (k + 1)) (JG n (k + 1))) (n + 1)) = rs A (fun k => ns A (pw M x k) (JG n k)) (n + 1) := by
      have e1 : rs A (fun k => ns A (pw M x k) (JG n k)) (n + 1 + 1) = A (ns A (pw M x 0) (JG n 0)) (rs A (fun k => ns A (pw M x (k + 1)) (JG n (k + 1))) (n + 1)) := R.rs_shift (fun k => hl _ k) (n + 1)
      have e2 : rs A (fun k => ns A (pw M x k) (JG n k)) (n + 1 + 1) = rs A (fun k => ns A (pw M x k) (JG n k)) (n + 1) := by
        show A (rs A (fun k => ns A (pw M x k) (JG n k)) (n + 1)) (ns A (pw M x (n + 1)) (JG n (n + 1))) = _
        rw [Qz (by omega : n < n + 1)]
        exact R.Az (R.rs_lt _ _)
      rw [QX] at e1 ⊢
      rw [<- e1, e2]
    have hr := R.rs_lt (fun k => ns A (pw M x k) (JG n k)) (n + 1)
    show M (pw M (A 1 x) n) (A 1 x) = _
    rw [binom hx n, h1, h2, h3, R.Md hr R.one_lt hx, R.M1 hr]
    rw [R.Ac (M x _), <- R.Aa (hl _ 0) (R.rs_lt _ _) (R.Ml _ _), h4, R.Mc hr hx]
theorem frob1 {p : Nat} (hp : IsLf p p) (hch : ∀ x, x < q -> ns A x p = 0) {x : Nat} (hx : x < q) : pw M (A 1 x) p = A 1 (pw M x p) := by
 have hp2 := hp.two; rw [R.binom hx p]; obtain ⟨n, rfl⟩ : ∃ n, p = n + 1 := ⟨p - 1, by omega⟩
 show A (rs A (fun k => ns A (pw M x k) (JG (n + 1) k)) (n + 1)) (ns A (pw M x (n + 1)) (JG (n + 1) (n + 1))) = _; rw [R.rs_shift (fun k => R.ns_lt _ _) n, R.rs_zero fun i hi => by
  obtain ⟨t, ht⟩ := Jdy hp (by omega : 0 < i + 1) (by omega); rw [ht, R.ns_mul (R.pw_lt x _), hch _ (R.pw_lt x _), R.ns_zero]]
 rw [QX, Jac, R.Az (R.ns_lt _ _)]; show A (A 0 1) (A 0 (pw M x (n + 1))) = _; rw [R.zA R.one_lt, R.zA (R.pw_lt x _)]
theorem frob {p g : Nat} (G : Gn q M g) (hp : IsLf p p) (hch : ∀ x, x < q -> ns A x p = 0) {x y : Nat} (hx : x < q) (hy : y < q) : pw M (A x y) p = A (pw M x p) (pw M y p) := by
 have hp2 := hp.two; rcases Nat.eq_zero_or_pos x with rfl | h0
 .rw [R.zA hy, R.zero_pw (by omega), R.zA (R.pw_lt y p)]
 .-- y = x z
  obtain ⟨z, hz, hyz⟩ : ∃ z, z < q /\ M x z = y := by
   refine ⟨M (pw M x (q - 2)) y, R.Ml _ _, ?_⟩; rw [<- R.Ma hx (R.pw_lt x _) hy, R.Mc hx (R.pw_lt x _)]; have := G.xone R h0 hx; have hq := R.q2; rw [show q - 1 = (q - 2) + 1 by omega] at this; rw [show M (pw M x (q - 2)) x = 1 from this, R.I1 hy]
  subst hyz; have e : A x (M x z) = M x (A 1 z) := by rw [R.Md hx R.one_lt hz, R.M1 hx]
  rw [e, R.mul_pw hx (R.Al _ _), R.frob1 hp hch hz, R.mul_pw hx hz, R.Md (R.pw_lt x p) R.one_lt (R.pw_lt z p), R.M1 (R.pw_lt x p)]
end CR
end
theorem ns_nm {p m : Nat} (hp : 0 < p) {x : Nat} (hx : x < p ^ m) : ∀ k : Nat, ns (JZ p m) x k = nm p m (vsm k (dv p x))
  | 0 => by
    show 0 = _
    have : vsm ((0 : Nat) : Int) (dv p x) = vz := by funext i; simp [vsm, vz]
    rw [this, <- ZU p, Yt hp (Nat.pow_pos hp)]
  | k + 1 => by
    show nm p m (JH (dv p (ns (JZ p m) x k)) (dv p x)) = _
    rw [ns_nm hp hx k, QN ((Jdc hp (Qk hx).sm).add (vcg.refl _))]
    congr 1
    funext i; simp only [JH, vsm]; push_cast; rw [Int.add_mul, Int.one_mul]
theorem Jo0 {p m : Nat} (hp : 0 < p) {x : Nat} (hx : x < p ^ m) : ns (JZ p m) x p = 0 := by
 rw [ns_nm hp hx, Ji7 (v := dv p 0), Yt hp (Nat.pow_pos hp)]; intro i _; rw [ZU]; simp only [vsm, vz]; rw [Int.mul_emod_right]; rfl
end Go.Proofs.Ytopemhgpdlbkjaa
namespace Go.Proofs.Ytopemhgpdlbkjaa
def hz (m : Nat) (c b y : Vec) (n : Nat) : Nat -> Vec
  | 0 => vz
  | k + 1 => JH (tX m c (hz m c b y n k)) (vsm (b (n - 1 - k)) y)
theorem Jmy {m : Nat} {c b y : Vec} {n : Nat} : ∀ {k : Nat}, k <= n -> JH (tXn m c (n - k) (hz m c b y n k)) (opr m c b (n - k) y) = opr m c b n y
 | 0, _ => by simp only [hz, Nat.sub_zero]; rw [Jev, z_vadd]
 | k + 1, h => by
  have ih := Jmy (m := m) (c := c) (b := b) (y := y) (n := n) (k := k) (by omega); obtain ⟨r, hr⟩ : ∃ r, n - k = r + 1 := ⟨n - k - 1, by omega⟩
  rw [show n - (k + 1) = r by omega]; rw [hr] at ih; rw [<- ih]; show JH (tXn m c r (JH (tX m c (hz m c b y n k)) (vsm (b (n - 1 - k)) y))) (opr m c b r y) = JH (tX m c (tXn m c r (hz m c b y n k))) (JH (opr m c b r y) (vsm (b r) (tXn m c r y))); rw [Zl, ZG, Jlw, show n - 1 - k = r by omega, Yh, Jcv (vsm _ _)]
theorem hz_all (m : Nat) (c b y : Vec) (n : Nat) : hz m c b y n n = opr m c b n y := by
 have := Jmy (m := m) (c := c) (b := b) (y := y) (n := n) (k := n) (Nat.le_refl n); rw [Nat.sub_self] at this; rw [<- this]; exact (Y8 _).symm
def dgl (p : Nat) : Nat -> Nat -> List Nat
  | 0, _ => []
  | n + 1, x => (x % p) :: dgl p n (x / p)
theorem Qh (p : Nat) : ∀ n x, (dgl p n x).length = n
 | 0, _ => rfl
 | n + 1, x => by simp [dgl, Qh p n]
theorem ZV (p : Nat) : ∀ n x i, i < n -> (((dgl p n x).getD i 0 : Nat) : Int) = dv p x i
 | 0, _, i, h => by omega
 | n + 1, x, 0, _ => by rw [QW]; rfl
 | n + 1, x, i + 1, h => by
  show (((dgl p n (x / p)).getD i 0 : Nat) : Int) = _; rw [ZV p n (x / p) i (by omega), Yn]
@[reducible] noncomputable def hd0 (l : List Nat) : Nat := List.rec (motive := fun _ => Nat) 0 (fun x _ _ => x) l
@[reducible] noncomputable def tl0 (l : List Nat) : List Nat := List.rec (motive := fun _ => List Nat) [] (fun _ l _ => l) l
noncomputable def go (p a top : Nat) (cs : List Nat) : Nat -> List Nat -> List Nat -> List Nat :=
  List.rec (motive := fun _ => Nat -> List Nat -> List Nat -> List Nat) (fun _ _ _ => [])
    (fun c _ ih prev us ys => ((prev + (p - c) * top + a * hd0 ys) % p) :: ih (hd0 us) (tl0 us) (tl0 ys)) cs
noncomputable def tp (l : List Nat) : Nat -> Nat := List.rec (motive := fun _ => Nat -> Nat) (fun d => d) (fun x _ ih _ => ih x) l
noncomputable def Jhc (p : Nat) (cs ys gs : List Nat) : List Nat -> List Nat :=
  List.rec (motive := fun _ => List Nat -> List Nat) (fun acc => acc) (fun g _ ih acc => ih (go p g (tp acc 0) cs 0 acc ys)) gs
noncomputable def az (l : List Nat) : Bool := List.rec (motive := fun _ => Bool) true (fun x _ ih => bif Nat.beq x 0 then ih else false) l
noncomputable def is1 (l : List Nat) : Bool := List.rec (motive := fun _ => Bool) false (fun x t _ => bif Nat.beq x 1 then az t else false) l
noncomputable def run (p : Nat) (cs gs : List Nat) (n : Nat) : List Nat -> Bool :=
  Nat.rec (motive := fun _ => List Nat -> Bool) (fun y => is1 y) (fun _ ih y => bif is1 y then false else ih (Jhc p cs y gs y)) n
noncomputable def Jey (p c : Nat) (al : List Nat) : List Nat -> List Nat :=
  List.rec (motive := fun _ => List Nat -> List Nat) (fun bs => bs) (fun a _ ih bs => ((hd0 bs + (p - a) * c) % p) :: ih (tl0 bs)) al
noncomputable def dvg (p : Nat) (low : List Nat) (k : Nat) : List Nat -> Bool :=
  Nat.rec (motive := fun _ => List Nat -> Bool) (fun r => az r) (fun _ ih r => ih (Jey p (hd0 r) low (tl0 r))) k
noncomputable def nob (f : Nat -> Bool) (n : Nat) : Bool := Nat.rec (motive := fun _ => Bool) true (fun i ih => bif f i then false else ih) n
noncomputable def irrB (p m : Nat) (ml : List Nat) : Bool :=
  nob (fun d => !nob (fun w => dvg p (dgl p (d + 1) w).reverse (m - d) (1 :: ml.reverse)) (p ^ (d + 1))) (m / 2)
noncomputable def cand (p c : Nat) : List Nat := bif Nat.blt c p then [c] else bif Nat.blt c (p + p * p) then [(c - p) / p, (c - p) % p] else [(c - p - p * p) / (p * p), (c - p - p * p) / p % p, (c - p - p * p) % p]
noncomputable def gen1 (p m : Nat) (cs gs : List Nat) : Bool := run p cs gs (p ^ m - 2) (Jhc p cs (dgl p m 1) gs (dgl p m 1))
noncomputable def Jhi (p m : Nat) (cs : List Nat) : Bool := !nob (fun c => gen1 p m cs (cand p (p + p * p + p * p * p - 1 - c))) (p + p * p + p * p * p)
noncomputable def chk (p m lo n : Nat) : Bool := nob (fun v => bif irrB p m (dgl p m (lo + v)) then !Jhi p m (dgl p m (lo + v)) else false) n

theorem Jd8 (l : List Nat) : hd0 l = l.getD 0 0 := by cases l <;> rfl
theorem Jbg (l : List Nat) (i : Nat) : (tl0 l).getD i 0 = l.getD (i + 1) 0 := by cases l <;> rfl
theorem Joi (l : List Nat) : (tl0 l).length = l.length - 1 := by cases l <;> simp [tl0]
theorem Jd9 (p a top c : Nat) (cs : List Nat) (prev : Nat) (us ys : List Nat) : go p a top (c :: cs) prev us ys = ((prev + (p - c) * top + a * hd0 ys) % p) :: go p a top cs (hd0 us) (tl0 us) (tl0 ys) := rfl
theorem Jm0 (p a top : Nat) : ∀ (cs : List Nat) (prev : Nat) (us ys : List Nat), (go p a top cs prev us ys).length = cs.length
 | [], _, _, _ => rfl
 | c :: cs, prev, us, ys => by rw [Jd9, List.length_cons, Jm0 p a top cs, List.length_cons]
theorem go_at (p a top : Nat) : ∀ (cs : List Nat) (prev : Nat) (us ys : List Nat) (i : Nat), i < cs.length -> (go p a top cs prev us ys).getD i 0 = ((if i = 0 then prev else us.getD (i - 1) 0) + (p - cs.getD i 0) * top + a * ys.getD i 0) % p
 | [], _, _, _, i, h => by simp at h
 | c :: cs, prev, us, ys, 0, _ => by rw [Jd9, Jd8]; rfl
 | c :: cs, prev, us, ys, i + 1, h => by
  rw [Jd9]; show (go p a top cs (hd0 us) (tl0 us) (tl0 ys)).getD i 0 = _; rw [go_at p a top cs _ _ _ i (by simpa using h)]; cases i with
  | zero => rw [if_pos rfl, if_neg (by omega), Jd8, Jbg]; rfl
  | succ i => rw [if_neg (by omega), if_neg (by omega), Jbg, Jbg]; rfl
theorem tp_eq : ∀ (l : List Nat) (d : Nat), 0 < l.length -> tp l d = l.getD (l.length - 1) 0
 | [], _, h => by simp at h
 | [x], d, _ => rfl
 | x :: y :: l, d, _ => by
  show tp (y :: l) x = _; rw [tp_eq (y :: l) x (by simp)]; simp
def Rep (p m : Nat) (L : List Nat) (v : Vec) : Prop := L.length = m /\ ∀ i, i < m -> ((L.getD i 0 : Nat) : Int) = v i % (p : Int)
def hl (m : Nat) (c y : Vec) : List Nat -> Vec -> Vec
  | [], u => u
  | g :: gs, u => hl m c y gs (JH (tX m c u) (vsm g y))
theorem Rep.step {p m : Nat} {cs us ys : List Nat} {c u y : Vec} (hp : 0 < p) (hm : 0 < m) (hc : Rep p m cs c) (hu : Rep p m us u) (hy : Rep p m ys y) (g : Nat) :
  Rep p m (go p g (tp us 0) cs 0 us ys) (JH (tX m c u) (vsm g y)) := by
 refine ⟨by rw [Jm0, hc.1], fun i hi => ?_⟩; rw [go_at _ _ _ _ _ _ _ _ (by rw [hc.1]; exact hi), tp_eq _ _ (by rw [hu.1]; exact hm), hu.1]; have h1 := hu.2 (m - 1) (by omega); have h2 := hc.2 i hi; have h3 := hy.2 i hi; have hlt : cs.getD i 0 <= p := by
  have := Int.emod_lt_of_pos (c i) (show (0 : Int) < p by omega); omega
 have e : (((if i = 0 then 0 else us.getD (i - 1) 0) : Nat) : Int) % p = (if i = 0 then (0 : Int) else u (i - 1)) % p := by
  split
  .rfl
  .rw [hu.2 (i - 1) (by omega), Int.emod_emod]
 simp only [JH, vsm, tX, if_pos hi]; generalize (if i = 0 then 0 else us.getD (i - 1) 0 : Nat) = A at *
 generalize (if i = 0 then (0 : Int) else u (i - 1)) = B at *
 generalize us.getD (m - 1) 0 = T at *
 generalize cs.getD i 0 = C at *
 generalize ys.getD i 0 = Y at *
 have hT : ((T : Nat) : Int) % p = u (m - 1) % p := by rw [h1, Int.emod_emod]
 have hC : ((C : Nat) : Int) % p = c i % p := by rw [h2, Int.emod_emod]
 have hY : ((Y : Nat) : Int) % p = y i % p := by rw [h3, Int.emod_emod]
 obtain ⟨D, hD⟩ : ∃ D, p = C + D := ⟨p - C, by omega⟩
 have hsub : p - C = D := by omega
 rw [hsub]; have hcast : ((A + D * T + g * Y : Nat) : Int) = ((A : Int) - C * T + g * Y) + p * T := by
  have : (p : Int) = C + D := by omega
  rw [this]; push_cast; rw [Int.add_mul]; omega
 rw [Int.natCast_emod, hcast, Int.add_mul_emod_self_left]; exact ZX (Jgv e (ZO hC hT)) (ZO rfl hY)
theorem Jkf (p : Nat) (cs ys : List Nat) (g : Nat) (gs acc : List Nat) : Jhc p cs ys (g :: gs) acc = Jhc p cs ys gs (go p g (tp acc 0) cs 0 acc ys) := rfl
theorem Rep.mul {p m : Nat} {cs ys : List Nat} {c y : Vec} (hp : 0 < p) (hm : 0 < m) (hc : Rep p m cs c) (hy : Rep p m ys y) : ∀ {gs us : List Nat} {u : Vec}, Rep p m us u -> Rep p m (Jhc p cs ys gs us) (hl m c y gs u)
 | [], _, _, h => h
 | g :: gs, us, u, h => by rw [Jkf]; exact Rep.mul hp hm hc hy (Rep.step hp hm hc h hy g)
theorem Jhf {m : Nat} {c y : Vec} (hy : Sup m y) : ∀ {gs : List Nat} {u : Vec}, Sup m u -> Sup m (hl m c y gs u)
 | [], _, h => h
 | g :: gs, u, h => Jhf (gs := gs) (u := JH (tX m c u) (vsm g y)) hy (Sup.add Sup.tX hy.sm)
theorem Jmz {m : Nat} {c y : Vec} (hy : Sup m y) : ∀ {gs : List Nat} {U : Vec}, hl m c y gs (opr m c y m U) = opr m c y m (hl m c e0 gs U)
  | [], _ => rfl
  | g :: gs, U => by
    show hl m c y gs (JH (tX m c (opr m c y m U)) (vsm g y)) = opr m c y m (hl m c e0 gs (JH (tX m c U) (vsm g e0)))
    rw [<- Jmz hy, Jix, Jg4, Q8 hy]
    have := Jiw m c y m 1 U
    rw [show tXn m c 1 U = tX m c U from rfl, show tXn m c 1 (opr m c y m U) = tX m c (opr m c y m U) from rfl] at this
    rw [this]
theorem Jea {m : Nat} (hm : 0 < m) : Sup m e0 := fun i hi => by simp [e0, show i ≠ 0 by omega]
theorem hl_mul {m : Nat} {c y : Vec} (hm : 0 < m) (hy : Sup m y) (gs : List Nat) : hl m c y gs y = Qy m c y (hl m c e0 gs e0) := by
 rw [YH hy (Jhf (Jea hm) (Jea hm))]; show _ = opr m c y m (hl m c e0 gs e0); rw [<- Jmz hy, Q8 hy]
theorem Jnz {p m x : Nat} : Rep p m (dgl p m x) (dv p x) := ⟨Qh p m x, fun i hi => by rw [ZV p m x i hi, Zc]⟩
theorem Rep.cg {p m : Nat} {L : List Nat} {u v : Vec} (h : Rep p m L u) (hv : ∀ i, i < m -> u i % (p : Int) = v i % (p : Int)) : Rep p m L v := ⟨h.1, fun i hi => by rw [h.2 i hi, hv i hi]⟩
theorem Jpm (x : Nat) (l : List Nat) : az (x :: l) = bif Nat.beq x 0 then az l else false := rfl
theorem Jef : ∀ l : List Nat, az l = true ↔ ∀ i, i < l.length -> l.getD i 0 = 0
 | [] => ⟨fun _ i h => by simp at h, fun _ => rfl⟩
 | x :: l => by
  rw [Jpm]; cases hx : Nat.beq x 0 with
  | true =>
   have := Nat.eq_of_beq_eq_true hx; subst this; rw [show (bif true then az l else false) = az l from rfl, Jef l]; constructor
   .intro h i hi; cases i with
    | zero => rfl
    | succ i => exact h i (by simpa using hi)
   .intro h i hi; exact h (i + 1) (by simpa using hi)
  | false =>
   rw [show (bif false then az l else false) = false from rfl]; constructor
   .intro h; cases h
   .intro h; have := h 0 (by simp); simp only [List.getD_cons_zero] at this; subst this; cases hx
theorem Jjc {p m x : Nat} {L : List Nat} (hp : 2 <= p) (hm : 0 < m) (hx : x < p ^ m) (h : Rep p m L (Go.Proofs.Ytopemhgpdlbkjaa.dv p x)) : is1 L = true ↔ x = 1 := by
 obtain ⟨a, l, rfl⟩ : ∃ a l, L = a :: l := by
  cases L with
  | nil => have := h.1; simp at this; omega
  | cons a l => exact ⟨a, l, rfl⟩
 have hlen : l.length + 1 = m := h.1; have h0 := h.2 0 hm; have e : is1 (a :: l) = bif Nat.beq a 1 then az l else false := rfl; rw [e]; constructor
 .intro hb; cases ha : Nat.beq a 1 with
  | false => rw [ha] at hb; cases hb
  | true =>
   rw [ha] at hb; have hz := (Jef l).1 hb; have ha1 := Nat.eq_of_beq_eq_true ha; subst ha1; rw [<- Yt (p := p) (m := m) (by omega) hx, <- Yt (p := p) (m := m) (x := 1) (by omega) (Nat.one_lt_pow (by omega) (by omega))]; refine Ji7 fun i hi => ?_; rw [Jeb hp, Zc, <- Zc, <- h.2 i hi]; cases i with
   | zero =>
    show (1 : Int) = e0 0 % p; simp only [e0, if_pos]; exact (Int.emod_eq_of_lt (by omega) (by omega)).symm
   | succ i =>
    show ((l.getD i 0 : Nat) : Int) = e0 (i + 1) % p; rw [hz i (by omega)]; simp [e0]
 .intro hx1; subst hx1; have ha : a = 1 := by
   have : ((a : Nat) : Int) = Go.Proofs.Ytopemhgpdlbkjaa.dv p 1 0 % p := h0; rw [Zc, Jeb hp] at this; simp [e0] at this; omega
  subst ha; show az l = true; refine (Jef l).2 fun i hi => ?_; have : ((l.getD i 0 : Nat) : Int) = Go.Proofs.Ytopemhgpdlbkjaa.dv p 1 (i + 1) % p := h.2 (i + 1) (by omega); rw [Zc, Jeb hp] at this; simp only [e0] at this; rw [if_neg (by omega)] at this; exact Int.ofNat_eq_zero.1 this
def gel (p m : Nat) (c : Vec) (gs : List Nat) : Nat := nm p m (hl m c e0 gs e0)
theorem Jgj {p m x : Nat} {cs L gs : List Nat} {c : Vec} (hp : 2 <= p) (hm : 0 < m) (hx : x < p ^ m) (hc : Rep p m cs c) (h : Rep p m L (Go.Proofs.Ytopemhgpdlbkjaa.dv p x)) : Rep p m (Jhc p cs L gs L) (Go.Proofs.Ytopemhgpdlbkjaa.dv p (Jq p m c x (gel p m c gs))) := by
 have h1 := Rep.mul (gs := gs) (by omega) hm hc h h; rw [hl_mul hm (Qk hx)] at h1; refine h1.cg fun i hi => ?_; have hs := Jhf (c := c) (gs := gs) (Jea hm) (Jea hm); have e1 := Zq (p := p) (m := m) (c := c) (by omega) hx (y := gel p m c gs); have e2 := vcg.mul (m := m) (vcg.refl (p := p) c) (vcg.refl (Go.Proofs.Ytopemhgpdlbkjaa.dv p x)) (Jdc (p := p) (m := m) (by omega) hs); exact ((e1.trans e2) i).symm
theorem Jl0 (p : Nat) (cs gs : List Nat) (n : Nat) (y : List Nat) : run p cs gs (n + 1) y = bif is1 y then false else run p cs gs n (Jhc p cs y gs y) := rfl
theorem Jl1 {p m : Nat} {cs gs : List Nat} {c : Vec} (hp : 2 <= p) (hm : 0 < m) (hc : Rep p m cs c) : ∀ {n : Nat} {L : List Nat} {x : Nat}, x < p ^ m -> Rep p m L (Go.Proofs.Ytopemhgpdlbkjaa.dv p x) -> run p cs gs n L = true ->
  (∀ k, k < n -> Jq p m c x (pw (Jq p m c) (gel p m c gs) k) ≠ 1) /\ Jq p m c x (pw (Jq p m c) (gel p m c gs) n) = 1
 | 0, L, x, hx, h, hr => by
  refine ⟨fun k hk => by omega, ?_⟩; show Jq p m c x 1 = 1; rw [Jb5 hp hm hx]; exact (Jjc hp hm hx h).1 hr
 | n + 1, L, x, hx, h, hr => by
  rw [Jl0] at hr; cases h1 : is1 L with
  | true => rw [h1] at hr; cases hr
  | false =>
   rw [h1] at hr; have R := Jh9 (p := p) (m := m) c hp hm; have hg : gel p m c gs < p ^ m := Y6 (by omega) _; have ih := Jl1 hp hm hc (Jjg (by omega) x _) (Jgj (gs := gs) hp hm hx hc h) hr; have e : ∀ k, Jq p m c (Jq p m c x (gel p m c gs)) (pw (Jq p m c) (gel p m c gs) k) = Jq p m c x (pw (Jq p m c) (gel p m c gs) (k + 1)) := fun k => by
    rw [R.Ma hx hg (R.pw_lt _ k), R.Mc hg (R.pw_lt _ k)]; rfl
   refine ⟨fun k hk => ?_, by rw [<- e]; exact ih.2⟩; cases k with
   | zero =>
    show Jq p m c x 1 ≠ 1; rw [Jb5 hp hm hx]; intro hx1; rw [(Jjc hp hm hx h).2 hx1] at h1; cases h1
   | succ k => rw [<- e]; exact ih.1 k (by omega)
theorem Jpb {p m : Nat} {cs gs : List Nat} {c : Vec} (hp : 2 <= p) (hm : 0 < m) (hc : Rep p m cs c) (h : gen1 p m cs gs = true) : Gn (p ^ m) (Jq p m c) (gel p m c gs) := by
 have R := Jh9 (p := p) (m := m) c hp hm; have hg : gel p m c gs < p ^ m := Y6 (by omega) _; have h1 := Jgj (gs := gs) hp hm R.one_lt hc Jnz; rw [R.I1 hg] at h1; obtain ⟨h2, h3⟩ := Jl1 hp hm hc hg h1 h; have hq := R.q2; have e : ∀ k, Jq p m c (gel p m c gs) (pw (Jq p m c) (gel p m c gs) k) = pw (Jq p m c) (gel p m c gs) (k + 1) := fun k => R.Mc hg (R.pw_lt _ k); refine ⟨hg, ?_, fun k h0 hk => ?_⟩
 .rw [show p ^ m - 1 = (p ^ m - 2) + 1 by omega, <- e]; exact h3
 .rw [show k = (k - 1) + 1 by omega, <- e]; exact h2 (k - 1) (by omega)
theorem Jmr (f : Nat -> Bool) (n : Nat) : nob f (n + 1) = bif f n then false else nob f n := rfl
theorem YN (f : Nat -> Bool) : ∀ n, nob f n = true ↔ ∀ i, i < n -> f i = false
 | 0 => ⟨fun _ i h => by omega, fun _ => rfl⟩
 | n + 1 => by
  rw [Jmr]; cases h : f n with
  | true =>
   refine ⟨fun h' => ?_, fun h' => ?_⟩
   .cases h'
   .rw [h' n (by omega)] at h; cases h
  | false =>
   show nob f n = true ↔ _; rw [YN f n]; refine ⟨fun h' i hi => ?_, fun h' i hi => h' i (by omega)⟩; rcases Nat.lt_or_ge i n with h1 | h1
   .exact h' i h1
   .rw [show i = n by omega]; exact h
theorem Jke (f : Nat -> Bool) (n : Nat) (h : nob f n = false) : ∃ i, i < n /\ f i = true := by
 have hn : ¬ ∀ i, i < n -> f i = false := fun h' => by rw [(YN f n).2 h'] at h; cases h
 have := Classical.not_forall.1 hn; obtain ⟨i, hi⟩ := this; have h2 := Classical.not_imp.1 hi; exact ⟨i, h2.1, by cases hf : f i with | true => rfl | false => exact absurd hf h2.2⟩
theorem Jje {p m : Nat} {cs : List Nat} {c : Vec} (hp : 2 <= p) (hm : 0 < m) (hc : Rep p m cs c) (h : Jhi p m cs = true) : ∃ g, Gn (p ^ m) (Jq p m c) g := by
 unfold Jhi at h; obtain ⟨i, _, hi⟩ := Jke _ _ (by simpa using h); exact ⟨_, Jpb hp hm hc hi⟩
def rst (p d i : Nat) (l R : Vec) : Vec := fun j => if i <= j + d /\ j < i then (R j - l (j + d - i) * R i) % (p : Int) else R j
def rem (p d : Nat) (l R : Vec) (n : Nat) : Nat -> Vec
  | 0 => R
  | k + 1 => rst p d (n - 1 - k) l (rem p d l R n k)
def Dvd (p d : Nat) (l R : Vec) (n : Nat) : Prop := ∀ j, j < d -> rem p d l R n (n - d) j = 0
def Irr (p m : Nat) (c : Vec) : Prop := ∀ d, 0 < d -> 2 * d <= m -> ∀ w, w < p ^ d -> ¬ Dvd p d (dv p w) (fun i => if i = m then 1 else c i) (m + 1)
theorem ZH (p c a : Nat) (al bs : List Nat) : Jey p c (a :: al) bs = ((hd0 bs + (p - a) * c) % p) :: Jey p c al (tl0 bs) := rfl
theorem Jex (p c : Nat) : ∀ al bs : List Nat, al.length <= bs.length -> (Jey p c al bs).length = bs.length
 | [], _, _ => rfl
 | a :: al, [], h => by simp at h
 | a :: al, b :: bs, h => by
  rw [ZH, List.length_cons]; show (Jey p c al bs).length + 1 = _; rw [Jex p c al bs (by simpa using h)]; rfl
theorem Jil (p c : Nat) : ∀ (al bs : List Nat) (t : Nat), (Jey p c al bs).getD t 0 = if t < al.length then (bs.getD t 0 + (p - al.getD t 0) * c) % p else bs.getD t 0
 | [], bs, t => by simp; rfl
 | a :: al, bs, 0 => by rw [ZH, Jd8]; simp
 | a :: al, bs, t + 1 => by
  rw [ZH]; show (Jey p c al (tl0 bs)).getD t 0 = _; rw [Jil p c al (tl0 bs) t, Jbg]; simp
theorem Jm6 (p : Nat) (low : List Nat) (k : Nat) (r : List Nat) : dvg p low (k + 1) r = dvg p low k (Jey p (hd0 r) low (tl0 r)) := rfl
theorem Jm7 {p d n : Nat} {l R : Vec} {low : List Nat} (hp : 0 < p) (hl : low.length = d) (hlow : ∀ t, t < d -> ((low.getD t 0 : Nat) : Int) = l (d - 1 - t)) (hlp : ∀ t, t < d -> low.getD t 0 <= p) : ∀ (s k : Nat) (r : List Nat), s + k + d = n -> r.length = n - k ->
  (∀ t, t < n - k -> ((r.getD t 0 : Nat) : Int) = rem p d l R n k (n - 1 - k - t)) -> (dvg p low s r = true ↔ Dvd p d l R n)
 | 0, k, r, hs, hr, hv => by
  have : n - k = d := by omega
  rw [this] at hr hv; show az r = true ↔ _; rw [Jef, hr]; have hk : n - d = k := by omega
  unfold Dvd; rw [hk]; constructor
  .intro h j hj; have := hv (d - 1 - j) (by omega); rw [h (d - 1 - j) (by omega), show n - 1 - k - (d - 1 - j) = j by omega] at this; exact this.symm
  .intro h t ht; have := hv t ht; rw [h (n - 1 - k - t) (by omega)] at this; exact Int.ofNat_eq_zero.1 this
 | s + 1, k, r, hs, hr, hv => by
  rw [Jm6]; have htl : (tl0 r).length = n - (k + 1) := by rw [Joi, hr]; omega
  refine Jm7 hp hl hlow hlp s (k + 1) _ (by omega) (by rw [Jex _ _ _ _ (by rw [htl, hl]; omega), htl]) fun t ht => ?_; rw [Jil, hl, Jbg, Jd8]; have h0 := hv 0 (by omega); rw [Nat.sub_zero] at h0; have h1 := hv (t + 1) (by omega); rw [show n - 1 - k - (t + 1) = n - 1 - (k + 1) - t by omega] at h1; show _ = rst p d (n - 1 - k) l (rem p d l R n k) (n - 1 - (k + 1) - t); unfold rst; by_cases htd : t < d
  .rw [if_pos htd, if_pos (by omega)]; have h2 := hlow t htd; have h3 := hlp t htd; rw [show n - 1 - (k + 1) - t + d - (n - 1 - k) = d - 1 - t by omega, <- h0, <- h1, <- h2]; generalize r.getD (t + 1) 0 = X at *
   generalize low.getD t 0 = Y at *
   generalize r.getD 0 0 = Z at *
   obtain ⟨D, hD⟩ : ∃ D, p = Y + D := ⟨p - Y, by omega⟩
   rw [show p - Y = D by omega, Int.natCast_emod]; have hcast : ((X + D * Z : Nat) : Int) = ((X : Int) - Y * Z) + p * Z := by
    have : (p : Int) = Y + D := by omega
    rw [this]; push_cast; rw [Int.add_mul]; omega
   rw [hcast, Int.add_mul_emod_self_left]
  .rw [if_neg htd, if_neg (by omega)]; exact h1
theorem Jb4 (l : List Nat) (t : Nat) (h : t < l.length) : l.reverse.getD t 0 = l.getD (l.length - 1 - t) 0 := by
 rw [List.getD_eq_getElem?_getD, List.getD_eq_getElem?_getD, List.getElem?_reverse h]
theorem Jb7 {p : Nat} (hp : 0 < p) (x i : Nat) : 0 <= dv p x i /\ dv p x i < p := Jdb hp x (i + 1) i (by omega)
theorem Jfj {p m v : Nat} (hp : 0 < p) (hv : v < p ^ m) : irrB p m (dgl p m v) = true ↔ Irr p m (dv p v) := by
 have key : ∀ d w, 0 < d -> 2 * d <= m -> (dvg p (dgl p d w).reverse (m + 1 - d) (1 :: (dgl p m v).reverse) = true ↔ Dvd p d (dv p w) (fun i => if i = m then 1 else dv p v i) (m + 1)) := fun d w hd h2 => by
  refine Jm7 hp (by rw [List.length_reverse, Qh]) (fun t ht => ?_) (fun t ht => ?_) (m + 1 - d) 0 _ (by omega) (by simp [Qh]) fun t ht => ?_
  .rw [Jb4 _ _ (by rw [Qh]; exact ht), Qh, ZV _ _ _ _ (by omega)]
  .rw [Jb4 _ _ (by rw [Qh]; exact ht), Qh]; have := ZV p d w (d - 1 - t) (by omega); have := Jb7 hp w (d - 1 - t); omega
  .show _ = if m + 1 - 1 - 0 - t = m then (1 : Int) else dv p v (m + 1 - 1 - 0 - t)
   cases t with
   | zero => rw [if_pos (by omega)]; rfl
   | succ t =>
    rw [if_neg (by omega)]; show (((dgl p m v).reverse.getD t 0 : Nat) : Int) = _; rw [Jb4 _ _ (by rw [Qh]; omega), Qh, ZV _ _ _ _ (by omega), show m + 1 - 1 - 0 - (t + 1) = m - 1 - t by omega]
 unfold irrB; rw [YN]; constructor
 .intro h d hd h2 w hw hD; have h3 := h (d - 1) (by omega); have h4 := (YN _ _).1 (by simpa using h3) w (by rw [show d - 1 + 1 = d by omega]; exact hw); rw [show d - 1 + 1 = d by omega, show m - (d - 1) = m + 1 - d by omega, (key d w hd h2).2 hD] at h4; cases h4
 .intro h d hd; have : nob (fun w => dvg p (dgl p (d + 1) w).reverse (m - d) (1 :: (dgl p m v).reverse)) (p ^ (d + 1)) = true := (YN _ _).2 fun w hw => by
   cases hb : dvg p (dgl p (d + 1) w).reverse (m - d) (1 :: (dgl p m v).reverse) with
   | false => rfl
   | true =>
    rw [show m - d = m + 1 - (d + 1) by omega] at hb; exact absurd ((key (d + 1) w (by omega) (by omega)).1 hb) (h (d + 1) (by omega) (by omega) w hw)
  rw [this]; rfl
theorem JE {p m lo n v : Nat} (hp : 2 <= p) (hm : 0 < m) (h : chk p m lo n = true) (h1 : lo <= v) (h2 : v < lo + n) (hv : v < p ^ m) (hi : Irr p m (dv p v)) : ∃ g, Gn (p ^ m) (Jq p m (dv p v)) g := by
 have h3 := (YN _ _).1 h (v - lo) (by omega); simp only [show lo + (v - lo) = v by omega, (Jfj (by omega) hv).2 hi, cond_true] at h3; exact Jje hp hm Jnz (by simpa using h3)
end Go.Proofs.Ytopemhgpdlbkjaa
namespace Go.Proofs.Ytopemhgpdlbkjaa
theorem Jk3 : chk 2 2 0 4 = true := by decide +kernel
theorem Jk2 : chk 2 3 0 8 = true := by decide +kernel
theorem Jk1 : chk 2 4 0 16 = true := by decide +kernel
theorem Jk0 : chk 2 5 0 32 = true := by decide +kernel
theorem Jkz : chk 2 6 0 64 = true := by decide +kernel
theorem Jky : chk 2 7 0 64 = true := by decide +kernel
theorem Jhy : chk 2 7 64 64 = true := by decide +kernel
theorem Jkx : chk 2 8 0 24 = true := by decide +kernel
theorem Jhx : chk 2 8 24 24 = true := by decide +kernel
theorem Jhw : chk 2 8 48 24 = true := by decide +kernel
theorem Jhv : chk 2 8 72 24 = true := by decide +kernel
theorem Jhu : chk 2 8 96 24 = true := by decide +kernel
theorem Jf2 : chk 2 8 120 24 = true := by decide +kernel
theorem Jf1 : chk 2 8 144 24 = true := by decide +kernel
theorem Jf0 : chk 2 8 168 24 = true := by decide +kernel
theorem Jfz : chk 2 8 192 24 = true := by decide +kernel
theorem Jfy : chk 2 8 216 24 = true := by decide +kernel
theorem Jfx : chk 2 8 240 16 = true := by decide +kernel
theorem Jkw : chk 3 2 0 9 = true := by decide +kernel
theorem Jkv : chk 3 3 0 27 = true := by decide +kernel
theorem Jku : chk 3 4 0 64 = true := by decide +kernel
theorem Jht : chk 3 4 64 17 = true := by decide +kernel
theorem Jkt : chk 3 5 0 24 = true := by decide +kernel
theorem Jhs : chk 3 5 24 24 = true := by decide +kernel
theorem Jhr : chk 3 5 48 24 = true := by decide +kernel
theorem Jhq : chk 3 5 72 24 = true := by decide +kernel
theorem Jhp : chk 3 5 96 24 = true := by decide +kernel
theorem Jfw : chk 3 5 120 24 = true := by decide +kernel
theorem Jfv : chk 3 5 144 24 = true := by decide +kernel
theorem Jfu : chk 3 5 168 24 = true := by decide +kernel
theorem Jft : chk 3 5 192 24 = true := by decide +kernel
theorem Jfs : chk 3 5 216 24 = true := by decide +kernel
theorem Jfr : chk 3 5 240 3 = true := by decide +kernel
theorem Jks : chk 5 2 0 25 = true := by decide +kernel
theorem Jkr : chk 5 3 0 64 = true := by decide +kernel
theorem Jho : chk 5 3 64 61 = true := by decide +kernel
theorem Jkq : chk 7 2 0 49 = true := by decide +kernel
theorem Jh0 : chk 11 2 0 64 = true := by decide +kernel
theorem Jf4 : chk 11 2 64 57 = true := by decide +kernel
theorem Jhz : chk 13 2 0 64 = true := by decide +kernel
theorem Jf3 : chk 13 2 64 64 = true := by decide +kernel
theorem Jed : chk 13 2 128 41 = true := by decide +kernel
theorem chk1_0 : ([2, 3, 5, 7, 11, 13, 17, 19, 23, 29, 31, 37, 41, 43, 47, 53, 59, 61] : List Nat).all (fun p => Jhi p 1 [0]) = true := by decide +kernel
theorem chk1_1 : ([67, 71, 73, 79, 83, 89, 97, 101, 103, 107, 109, 113, 127, 131, 137, 139, 149, 151] : List Nat).all (fun p => Jhi p 1 [0]) = true := by decide +kernel
theorem chk1_2 : ([157, 163, 167, 173, 179, 181, 191, 193, 197, 199, 211, 223, 227, 229, 233, 239, 241, 251] : List Nat).all (fun p => Jhi p 1 [0]) = true := by decide +kernel
theorem gx_2_2 {v : Nat} (hv : v < 2 ^ 2) (hI : Irr 2 2 (dv 2 v)) : ∃ g, Gn (2 ^ 2) (Jq 2 2 (dv 2 v)) g := by
 have hv2 : v < 4 := hv; exact JE (by decide) (by decide) Jk3 (by omega) (by omega) hv hI
theorem gx_2_3 {v : Nat} (hv : v < 2 ^ 3) (hI : Irr 2 3 (dv 2 v)) : ∃ g, Gn (2 ^ 3) (Jq 2 3 (dv 2 v)) g := by
 have hv2 : v < 8 := hv; exact JE (by decide) (by decide) Jk2 (by omega) (by omega) hv hI
theorem gx_2_4 {v : Nat} (hv : v < 2 ^ 4) (hI : Irr 2 4 (dv 2 v)) : ∃ g, Gn (2 ^ 4) (Jq 2 4 (dv 2 v)) g := by
 have hv2 : v < 16 := hv; exact JE (by decide) (by decide) Jk1 (by omega) (by omega) hv hI
theorem gx_2_5 {v : Nat} (hv : v < 2 ^ 5) (hI : Irr 2 5 (dv 2 v)) : ∃ g, Gn (2 ^ 5) (Jq 2 5 (dv 2 v)) g := by
 have hv2 : v < 32 := hv; exact JE (by decide) (by decide) Jk0 (by omega) (by omega) hv hI
theorem gx_2_6 {v : Nat} (hv : v < 2 ^ 6) (hI : Irr 2 6 (dv 2 v)) : ∃ g, Gn (2 ^ 6) (Jq 2 6 (dv 2 v)) g := by
 have hv2 : v < 64 := hv; exact JE (by decide) (by decide) Jkz (by omega) (by omega) hv hI
theorem gx_2_7 {v : Nat} (hv : v < 2 ^ 7) (hI : Irr 2 7 (dv 2 v)) : ∃ g, Gn (2 ^ 7) (Jq 2 7 (dv 2 v)) g := by
 have hv2 : v < 128 := hv; rcases Nat.lt_or_ge v 64 with h | h
 .exact JE (by decide) (by decide) Jky (by omega) (by omega) hv hI
 exact JE (by decide) (by decide) Jhy (by omega) (by omega) hv hI
theorem gx_2_8 {v : Nat} (hv : v < 2 ^ 8) (hI : Irr 2 8 (dv 2 v)) : ∃ g, Gn (2 ^ 8) (Jq 2 8 (dv 2 v)) g := by
 have hv2 : v < 256 := hv; rcases Nat.lt_or_ge v 24 with h | h
 .exact JE (by decide) (by decide) Jkx (by omega) (by omega) hv hI
 rcases Nat.lt_or_ge v 48 with h | h
 .exact JE (by decide) (by decide) Jhx (by omega) (by omega) hv hI
 rcases Nat.lt_or_ge v 72 with h | h
 .exact JE (by decide) (by decide) Jhw (by omega) (by omega) hv hI
 rcases Nat.lt_or_ge v 96 with h | h
 .exact JE (by decide) (by decide) Jhv (by omega) (by omega) hv hI
 rcases Nat.lt_or_ge v 120 with h | h
 .exact JE (by decide) (by decide) Jhu (by omega) (by omega) hv hI
 rcases Nat.lt_or_ge v 144 with h | h
 .exact JE (by decide) (by decide) Jf2 (by omega) (by omega) hv hI
 rcases Nat.lt_or_ge v 168 with h | h
 .exact JE (by decide) (by decide) Jf1 (by omega) (by omega) hv hI
 rcases Nat.lt_or_ge v 192 with h | h
 .exact JE (by decide) (by decide) Jf0 (by omega) (by omega) hv hI
 rcases Nat.lt_or_ge v 216 with h | h
 .exact JE (by decide) (by decide) Jfz (by omega) (by omega) hv hI
 rcases Nat.lt_or_ge v 240 with h | h
 .exact JE (by decide) (by decide) Jfy (by omega) (by omega) hv hI
 exact JE (by decide) (by decide) Jfx (by omega) (by omega) hv hI
theorem gx_3_2 {v : Nat} (hv : v < 3 ^ 2) (hI : Irr 3 2 (dv 3 v)) : ∃ g, Gn (3 ^ 2) (Jq 3 2 (dv 3 v)) g := by
 have hv2 : v < 9 := hv; exact JE (by decide) (by decide) Jkw (by omega) (by omega) hv hI
theorem gx_3_3 {v : Nat} (hv : v < 3 ^ 3) (hI : Irr 3 3 (dv 3 v)) : ∃ g, Gn (3 ^ 3) (Jq 3 3 (dv 3 v)) g := by
 have hv2 : v < 27 := hv; exact JE (by decide) (by decide) Jkv (by omega) (by omega) hv hI
theorem gx_3_4 {v : Nat} (hv : v < 3 ^ 4) (hI : Irr 3 4 (dv 3 v)) : ∃ g, Gn (3 ^ 4) (Jq 3 4 (dv 3 v)) g := by
 have hv2 : v < 81 := hv; rcases Nat.lt_or_ge v 64 with h | h
 .exact JE (by decide) (by decide) Jku (by omega) (by omega) hv hI
 exact JE (by decide) (by decide) Jht (by omega) (by omega) hv hI
theorem gx_3_5 {v : Nat} (hv : v < 3 ^ 5) (hI : Irr 3 5 (dv 3 v)) : ∃ g, Gn (3 ^ 5) (Jq 3 5 (dv 3 v)) g := by
 have hv2 : v < 243 := hv; rcases Nat.lt_or_ge v 24 with h | h
 .exact JE (by decide) (by decide) Jkt (by omega) (by omega) hv hI
 rcases Nat.lt_or_ge v 48 with h | h
 .exact JE (by decide) (by decide) Jhs (by omega) (by omega) hv hI
 rcases Nat.lt_or_ge v 72 with h | h
 .exact JE (by decide) (by decide) Jhr (by omega) (by omega) hv hI
 rcases Nat.lt_or_ge v 96 with h | h
 .exact JE (by decide) (by decide) Jhq (by omega) (by omega) hv hI
 rcases Nat.lt_or_ge v 120 with h | h
 .exact JE (by decide) (by decide) Jhp (by omega) (by omega) hv hI
 rcases Nat.lt_or_ge v 144 with h | h
 .exact JE (by decide) (by decide) Jfw (by omega) (by omega) hv hI
 rcases Nat.lt_or_ge v 168 with h | h
 .exact JE (by decide) (by decide) Jfv (by omega) (by omega) hv hI
 rcases Nat.lt_or_ge v 192 with h | h
 .exact JE (by decide) (by decide) Jfu (by omega) (by omega) hv hI
 rcases Nat.lt_or_ge v 216 with h | h
 .exact JE (by decide) (by decide) Jft (by omega) (by omega) hv hI
 rcases Nat.lt_or_ge v 240 with h | h
 .exact JE (by decide) (by decide) Jfs (by omega) (by omega) hv hI
 exact JE (by decide) (by decide) Jfr (by omega) (by omega) hv hI
theorem gx_5_2 {v : Nat} (hv : v < 5 ^ 2) (hI : Irr 5 2 (dv 5 v)) : ∃ g, Gn (5 ^ 2) (Jq 5 2 (dv 5 v)) g := by
 have hv2 : v < 25 := hv; exact JE (by decide) (by decide) Jks (by omega) (by omega) hv hI
theorem gx_5_3 {v : Nat} (hv : v < 5 ^ 3) (hI : Irr 5 3 (dv 5 v)) : ∃ g, Gn (5 ^ 3) (Jq 5 3 (dv 5 v)) g := by
 have hv2 : v < 125 := hv; rcases Nat.lt_or_ge v 64 with h | h
 .exact JE (by decide) (by decide) Jkr (by omega) (by omega) hv hI
 exact JE (by decide) (by decide) Jho (by omega) (by omega) hv hI
theorem gx_7_2 {v : Nat} (hv : v < 7 ^ 2) (hI : Irr 7 2 (dv 7 v)) : ∃ g, Gn (7 ^ 2) (Jq 7 2 (dv 7 v)) g := by
 have hv2 : v < 49 := hv; exact JE (by decide) (by decide) Jkq (by omega) (by omega) hv hI
theorem Jpa {v : Nat} (hv : v < 11 ^ 2) (hI : Irr 11 2 (dv 11 v)) : ∃ g, Gn (11 ^ 2) (Jq 11 2 (dv 11 v)) g := by
 have hv2 : v < 121 := hv; rcases Nat.lt_or_ge v 64 with h | h
 .exact JE (by decide) (by decide) Jh0 (by omega) (by omega) hv hI
 exact JE (by decide) (by decide) Jf4 (by omega) (by omega) hv hI
theorem Jo9 {v : Nat} (hv : v < 13 ^ 2) (hI : Irr 13 2 (dv 13 v)) : ∃ g, Gn (13 ^ 2) (Jq 13 2 (dv 13 v)) g := by
 have hv2 : v < 169 := hv; rcases Nat.lt_or_ge v 64 with h | h
 .exact JE (by decide) (by decide) Jhz (by omega) (by omega) hv hI
 rcases Nat.lt_or_ge v 128 with h | h
 .exact JE (by decide) (by decide) Jf3 (by omega) (by omega) hv hI
 exact JE (by decide) (by decide) Jed (by omega) (by omega) hv hI
noncomputable def prL : List Nat := [2, 3, 5, 7, 11, 13, 17, 19, 23, 29, 31, 37, 41, 43, 47, 53, 59, 61, 67, 71, 73, 79, 83, 89, 97, 101, 103, 107, 109, 113, 127, 131, 137, 139, 149, 151, 157, 163, 167, 173, 179, 181, 191, 193, 197, 199, 211, 223, 227, 229, 233, 239, 241, 251]
theorem Joq : (List.range 257).all (fun p => prL.contains p || Nat.blt p 2 || (List.range p).any (fun e => Nat.ble 2 e && Nat.beq (p % e) 0)) = true := by decide +kernel
theorem Jop {p : Nat} (hp : IsLf p p) (h : p <= 256) : p ∈ prL := by
 have h1 := List.all_eq_true.1 Joq p (List.mem_range.2 (by omega)); simp only [Bool.or_eq_true, List.contains_iff_mem, List.any_eq_true, List.mem_range, Bool.and_eq_true] at h1; rcases h1 with (h1 | h1) | ⟨e, he, h2, h3⟩
 .exact h1
 .have := hp.two; have := Nat.le_of_ble_eq_true h1; omega
 .have := hp.min e (Nat.le_of_ble_eq_true h2) (Nat.eq_of_beq_eq_true h3); omega
theorem gx_1 {p : Nat} (hp : IsLf p p) (h : p <= 256) : ∃ g, Gn (p ^ 1) (Jq p 1 (dv p 0)) g := by
 have hm := Jop hp h; have hg : Jhi p 1 [0] = true := by
  unfold prL at hm; rw [show ([2, 3, 5, 7, 11, 13, 17, 19, 23, 29, 31, 37, 41, 43, 47, 53, 59, 61, 67, 71, 73, 79, 83, 89, 97, 101, 103, 107, 109, 113, 127, 131, 137, 139, 149, 151, 157, 163, 167, 173, 179, 181, 191, 193, 197, 199, 211, 223, 227, 229, 233, 239, 241, 251] : List Nat) = ([2, 3, 5, 7, 11, 13, 17, 19, 23, 29, 31, 37, 41, 43, 47, 53, 59, 61] : List Nat) ++ ([67, 71, 73, 79, 83, 89, 97, 101, 103, 107, 109, 113, 127, 131, 137, 139, 149, 151] : List Nat) ++ ([157, 163, 167, 173, 179, 181, 191, 193, 197, 199, 211, 223, 227, 229, 233, 239, 241, 251] : List Nat) from rfl] at hm; simp only [List.mem_append] at hm; rcases hm with (h | h) | h
  .exact List.all_eq_true.1 chk1_0 p h
  .exact List.all_eq_true.1 chk1_1 p h
  .exact List.all_eq_true.1 chk1_2 p h
 refine Jje hp.two (by decide) ⟨rfl, fun i hi => ?_⟩ hg; rw [show i = 0 by omega, ZU]; simp [vz]
theorem Jma {p m : Nat} (hp : IsLf p p) (hm : 2 <= m) (hq : p ^ m <= 256) : (p = 2 /\ m = 2) ∨ (p = 2 /\ m = 3) ∨ (p = 2 /\ m = 4) ∨ (p = 2 /\ m = 5) ∨ (p = 2 /\ m = 6) ∨ (p = 2 /\ m = 7) ∨ (p = 2 /\ m = 8) ∨ (p = 3 /\ m = 2) ∨ (p = 3 /\ m = 3) ∨ (p = 3 /\ m = 4) ∨ (p = 3 /\ m = 5) ∨ (p = 5 /\ m = 2) ∨ (p = 5 /\ m = 3) ∨ (p = 7 /\ m = 2) ∨ (p = 11 /\ m = 2) ∨ (p = 13 /\ m = 2) := by
  have h2 := hp.two
  have hpow : ∀ k, k <= m -> p ^ k <= 256 := fun k hk => Nat.le_trans (Nat.pow_le_pow_right (by omega) hk) hq
  have hp2 : p <= 16 := by
    rcases Nat.lt_or_ge 16 p with h | h
    . have h1 := hpow 2 hm
      have h3 : 17 ^ 2 <= p ^ 2 := Nat.pow_le_pow_left h 2
      omega
    . exact h
  have hnd : ∀ e, 2 <= e -> e < p -> p % e ≠ 0 := fun e he hlt h0 => by have := hp.min e he h0; omega
  have hc : p = 2 ∨ p = 3 ∨ p = 5 ∨ p = 7 ∨ p = 11 ∨ p = 13 := by
    have h3 := hnd 2 (by omega)
    have h4 := hnd 3 (by omega)
    omega
  rcases hc with rfl | rfl | rfl | rfl | rfl | rfl
  . have : m <= 8 := by
      rcases Nat.lt_or_ge 8 m with h | h
      . have := hpow 9 h; omega
      . exact h
    omega
  . have : m <= 5 := by
      rcases Nat.lt_or_ge 5 m with h | h
      . have := hpow 6 h; omega
      . exact h
    omega
  . have : m <= 3 := by
      rcases Nat.lt_or_ge 3 m with h | h
      . have := hpow 4 h; omega
      . exact h
    omega
  . have : m <= 2 := by
      rcases Nat.lt_or_ge 2 m with h | h
      . have := hpow 3 h; omega
      . exact h
    omega
  . have : m <= 2 := by
      rcases Nat.lt_or_ge 2 m with h | h
      . have := hpow 3 h; omega
      . exact h
    omega
  . have : m <= 2 := by
      rcases Nat.lt_or_ge 2 m with h | h
      . have := hpow 3 h; omega
      . exact h
    omega
theorem gen_ex {p m v : Nat} (hp : IsLf p p) (hm : 0 < m) (hq : p ^ m <= 256) (hv : v < p ^ m) (h1 : m = 1 -> v = 0) (hI : Irr p m (dv p v)) : ∃ g, Gn (p ^ m) (Jq p m (dv p v)) g := by
  rcases Nat.lt_or_ge m 2 with h | h
  . have : m = 1 := by omega
    subst this
    rw [h1 rfl]
    exact gx_1 hp (by simpa using hq)
  . rcases Jma hp h hq with ⟨rfl, rfl⟩ | ⟨rfl, rfl⟩ | ⟨rfl, rfl⟩ | ⟨rfl, rfl⟩ | ⟨rfl, rfl⟩ | ⟨rfl, rfl⟩ | ⟨rfl, rfl⟩ | ⟨rfl, rfl⟩ | ⟨rfl, rfl⟩ | ⟨rfl, rfl⟩ | ⟨rfl, rfl⟩ | ⟨rfl, rfl⟩ | ⟨rfl, rfl⟩ | ⟨rfl, rfl⟩ | ⟨rfl, rfl⟩ | ⟨rfl, rfl⟩
    . exact gx_2_2 hv hI
    . exact gx_2_3 hv hI
    . exact gx_2_4 hv hI
    . exact gx_2_5 hv hI
    . exact gx_2_6 hv hI
    . exact gx_2_7 hv hI
    . exact gx_2_8 hv hI
    . exact gx_3_2 hv hI
    . exact gx_3_3 hv hI
    . exact gx_3_4 hv hI
    . exact gx_3_5 hv hI
    . exact gx_5_2 hv hI
    . exact gx_5_3 hv hI
    . exact gx_7_2 hv hI
    . exact Jpa hv hI
    . exact Jo9 hv hI
end Go.Proofs.Ytopemhgpdlbkjaa
namespace Go.Proofs.Ytopemhgpdlbkjaa
def vo (l : LI) : Vec := fun i => l.getD i 0
theorem Jy (l : LI) (i : Nat) : gi l (i : Int) = vo l i := rfl
theorem JR (l : LI) (i : Nat) (x : Int) : si l (i : Int) x = l.set i x := rfl
theorem Y4 (a b : Nat) : (a : Int).tmod (b : Int) = ((a % b : Nat) : Int) := rfl
theorem Jij (a b : Nat) : (a : Int).tdiv (b : Int) = ((a / b : Nat) : Int) := rfl
theorem JQ (l : LI) (i j : Nat) (x : Int) : vo (l.set i x) j = if i = j /\ i < l.length then x else vo l j := by
 unfold vo; rw [List.getD_eq_getElem?_getD, List.getD_eq_getElem?_getD, List.getElem?_set]; by_cases h : i = j
 .subst h; by_cases h2 : i < l.length
  .simp [h2]
  .simp [h2]
 .simp [h]
theorem Ja6 (n : Nat) (i : Nat) : vo (List.replicate n (0 : Int)) i = 0 := by
 unfold vo; rw [List.getD_eq_getElem?_getD, List.getElem?_replicate]; split <;> rfl
theorem Jer {l : LI} {i : Nat} (h : l.length <= i) : vo l i = 0 := by
 unfold vo; rw [List.getD_eq_getElem?_getD, List.getElem?_eq_none h]; rfl
theorem Q3 {l o : LI} (h : l.length = o.length) (hv : ∀ i, i < l.length -> vo l i = vo o i) : l = o := by
 refine List.ext_getElem h fun i h1 h2 => ?_; have := hv i h1; unfold vo at this; rw [List.getD_eq_getElem?_getD, List.getD_eq_getElem?_getD, List.getElem?_eq_getElem h1, List.getElem?_eq_getElem h2] at this; exact this
theorem Jo {x : Int} (h : -1000000000000 <= x) (h2 : x <= 1000000000000) : I64 x := ⟨by omega, by omega⟩
theorem Qf {n : Nat} (h : n <= 1000000000000) : I64 (n : Int) := Jo (by omega) (by omega)
def dgi (p n x : Nat) : LI := (dgl p n x).map fun (a : Nat) => (a : Int)
theorem JI (p n x : Nat) : (dgi p n x).length = n := by simp [dgi, Qh]
theorem Ql {p n x i : Nat} (h : i < n) : vo (dgi p n x) i = dv p x i := by
 rw [<- ZV p n x i h]; unfold vo dgi; rw [List.getD_eq_getElem?_getD, List.getElem?_map, List.getD_eq_getElem?_getD]; rw [List.getElem?_eq_getElem (by rw [Qh]; exact h)]; rfl
theorem Jlt {b : Bool} {Q : Int -> Prop} (h : Q (if b = true then 0 else 1)) : Jcg b Q := by
 cases b
 .exact ⟨fun h' => absurd h' (by decide), fun _ => h⟩
 .exact ⟨fun _ => h, fun h' => absurd h' (by decide)⟩
theorem Jo5 {n k : Nat} (hn : 2 <= n) (hk : n < k * k) (h : ∀ e, e < k -> 2 <= e -> n % e ≠ 0) : IsLf n n := by
 refine ⟨hn, Nat.mod_self n, fun e he hm => ?_⟩; rcases Nat.lt_or_ge e k with hc | hc
 .exact absurd hm (h e hc he)
 .obtain ⟨t, ht⟩ := Nat.dvd_of_mod_eq_zero hm; have hq1 : t < k := by
   rcases Nat.lt_or_ge t k with h1 | h1
   .exact h1
   .have := Nat.mul_le_mul hc h1; omega
  rcases Nat.lt_or_ge t 2 with h2 | h2
  .have : t = 0 ∨ t = 1 := by omega
   rcases this with rfl | rfl
   .omega
   .omega
  .exact absurd (Nat.mod_eq_zero_of_dvd ⟨e, by rw [ht, Nat.mul_comm]⟩) (h t hq1 h2)
theorem Ja8 {x : Nat} {Q : Int -> Prop} (h2 : 2 <= x) (hx : x <= 256) (h : ∀ d : Nat, IsLf x d -> Q d) : Qw x Q := by
 refine ⟨fun z => ∃ k : Nat, z = k /\ 2 <= k /\ k <= 17 /\ ∀ e, e < k -> 2 <= e -> x % e ≠ 0, fun z => (20 - z).toNat, ⟨2, rfl, by omega, by omega, fun e _ _ => by omega⟩, ?_⟩; rintro _ ⟨k, rfl, hk2, hk, hm⟩; dsimp only; have e1 : ((k : Nat) : Int) * (k : Int) = ((k * k : Nat) : Int) := by push_cast; rfl
 have hb : k * k <= 17 * 17 := Nat.mul_le_mul hk hk; rw [e1]; refine ⟨Jo (by omega) (by omega), fun hle => ⟨by omega, ?_, ?_⟩, fun hgt => ?_⟩
 .intro h0; rw [Y4] at h0; refine h k ⟨hk2, by omega, fun e he h3 => ?_⟩; rcases Nat.lt_or_ge e k with hc | hc
  .exact absurd h3 (hm e hc he)
  .exact hc
 .intro h0; rw [Y4] at h0; have hk16 : k <= 16 := by
   rcases Nat.lt_or_ge 16 k with hc | hc
   .have := Nat.mul_le_mul hc hc; omega
   .exact hc
  refine ⟨Jo (by omega) (by omega), ⟨k + 1, by push_cast; rfl, by omega, by omega, fun e he h3 => ?_⟩, by omega⟩; rcases Nat.lt_or_ge e k with hc | hc
  .exact hm e hc h3
  .rw [show e = k by omega]; omega
 .exact h x (Jo5 h2 (by omega) hm)
theorem IsLf.uniq {n d e : Nat} (h : IsLf n d) (h' : IsLf n e) : d = e := Nat.le_antisymm (h.min e h'.two h'.dvd) (h'.min d h.two h.dvd)
theorem Jj0 {x : Int} {Q : Bool -> Prop} (hx : x <= 256) (h : ∀ b : Bool, (b = true ↔ 2 <= x /\ IsLf x.toNat x.toNat) -> Q b) : YZ x Q := by
 refine ⟨fun h2 => ?_, fun h2 => h false ⟨fun h' => by (cases h'), fun h' => absurd h'.1 h2⟩⟩; obtain ⟨n, rfl⟩ := Int.eq_ofNat_of_zero_le (show 0 <= x by omega); refine Ja8 (by omega) (by omega) fun d hd => h _ ?_; rw [decide_eq_true_iff, Int.toNat_natCast]; constructor
 .intro he; have : d = n := by omega
  subst this; exact ⟨h2, hd⟩
 .rintro ⟨_, hn⟩; rw [hd.uniq hn]
theorem Jlp {x : Nat} {Q : Bool -> Prop} (h2 : 2 <= x) (hx : x <= 256) (h : ∀ b : Bool, (b = true ↔ IsLf x x) -> Q b) : Zw x Q := by
 refine ⟨fun z => ∃ k : Nat, z = k /\ 2 <= k /\ k <= x /\ ∀ e, e < k -> 2 <= e -> x % e ≠ 0, fun z => (x - z).toNat, ⟨2, rfl, by omega, by omega, fun e _ _ => by omega⟩, ?_⟩; rintro _ ⟨k, rfl, hk2, hk, hm⟩; dsimp only; refine ⟨fun hlt => ⟨by omega, fun h0 => ?_, fun h0 => ?_⟩, fun hge => ?_⟩
 .rw [Y4] at h0; refine h false ⟨fun h' => by (cases h'), fun hp => ?_⟩; have := hp.min k hk2 (by omega); omega
 .rw [Y4] at h0; refine ⟨Jo (by omega) (by omega), ⟨k + 1, by push_cast; rfl, by omega, by omega, fun e he h3 => ?_⟩, by omega⟩; rcases Nat.lt_or_ge e k with hc | hc
  .exact hm e hc h3
  .rw [show e = k by omega]; omega
 .refine h true ⟨fun _ => ⟨h2, Nat.mod_self x, fun e he h0 => ?_⟩, fun _ => rfl⟩; rcases Nat.lt_or_ge e x with hc | hc
  .exact absurd h0 (hm e (by omega) he)
  .exact hc
theorem J1 {p a b : Nat} (hp : 0 < p) (h : a <= b) : p ^ a <= p ^ b := Nat.pow_le_pow_right hp h
theorem Jdp {p : Nat} {M : Int} {mf : LI} {Q : Int -> Prop} (hp : 2 <= p) (hp2 : p <= 256) (h : ∀ r : Int, (p ^ M.toNat <= 256 -> r = ((p ^ M.toNat : Nat) : Int)) -> (256 < p ^ M.toNat -> 256 < r) -> Q r) : Yr p M mf Q := by
 refine ⟨fun r => (p ^ M.toNat <= 256 -> r = ((p ^ M.toNat : Nat) : Int)) /\ (256 < p ^ M.toNat -> 256 < r), ⟨fun z i => ∃ k : Nat, i = k /\ k <= M.toNat /\ z = ((p ^ k : Nat) : Int) /\ p ^ k <= 65536 /\ k <= 16, fun z i => (20 - i).toNat, ⟨0, rfl, Nat.zero_le _, by simp, by simp, by omega⟩, ?_⟩, fun r hr => h r hr.1 hr.2⟩; rintro _ _ ⟨k, rfl, hk, rfl, hb, hk16⟩; dsimp only; refine ⟨fun hlt => ⟨fun hle => ?_, fun hgt => ?_⟩, fun hge => ?_⟩
 .have hk8 : p ^ k <= 256 := by omega
  have hkk : k < 16 := by
   rcases Nat.lt_or_ge k 16 with hc | hc
   .exact hc
   .have h1 := J1 (p := p) (by omega) hc; have h2 : 2 ^ 16 <= p ^ 16 := Nat.pow_le_pow_left hp 16; omega
  have e1 : ((p ^ k : Nat) : Int) * (p : Int) = ((p ^ (k + 1) : Nat) : Int) := by rw [Nat.pow_succ]; push_cast; rfl
  have hb2 : p ^ (k + 1) <= 65536 := by
   rw [Nat.pow_succ]; have := Nat.mul_le_mul hk8 hp2; omega
  rw [e1]; exact ⟨Jo (by omega) (by omega), Jo (by omega) (by omega), ⟨k + 1, by push_cast; rfl, by omega, rfl, hb2, by omega⟩, by omega⟩
 .have := J1 (p := p) (by omega) hk; exact ⟨fun h' => by omega, fun _ => by omega⟩
 .have : k = M.toNat := by omega
  subst this; exact ⟨fun _ => rfl, fun h' => by omega⟩
def Jcn (P M : Int) : Int := if 2 <= P /\ 1 <= M /\ P.toNat ^ M.toNat <= 256 then ((P.toNat ^ M.toNat : Nat) : Int) else 0
theorem Zk {P M : Int} {mf : LI} {Q : Int -> Prop} (h : Q (Jcn P M)) : QS P M mf Q := by
 refine ⟨fun h1 => ?_, fun h1 => ⟨fun h2 => ?_, fun h2 => ⟨fun h3 => ?_, fun h3 => ?_⟩⟩⟩
 .rw [Jcn, if_neg (by omega)] at h; exact h
 .rw [Jcn, if_neg (by omega)] at h; exact h
 .rw [Jcn, if_neg] at h
  .exact h
  .rintro ⟨h4, h5, h6⟩; have e1 : 2 ^ 9 <= P.toNat ^ 9 := Nat.pow_le_pow_left (by omega) 9; have e2 := J1 (p := P.toNat) (by omega) (show 9 <= M.toNat by omega); omega
 .obtain ⟨p, rfl⟩ := Int.eq_ofNat_of_zero_le (show 0 <= P by omega); obtain ⟨m, rfl⟩ := Int.eq_ofNat_of_zero_le (show 0 <= M by omega); refine ⟨fun z i => ∃ k : Nat, i = k /\ k <= m /\ z = ((p ^ k : Nat) : Int) /\ p ^ k <= 256, fun z i => (20 - i).toNat, ⟨0, rfl, Nat.zero_le _, by simp, by simp⟩, ?_⟩; rintro _ _ ⟨k, rfl, hk, rfl, hb⟩; dsimp only; rw [show (256 : Int) = ((256 : Nat) : Int) from rfl, Jij]; have hd : 256 / p <= 256 := Nat.div_le_self _ _; have hdm : ∀ a, a <= 256 / p ↔ a * p <= 256 := fun a => Nat.le_div_iff_mul_le (show 0 < p by omega); generalize 256 / p = D at *
  refine ⟨fun hlt => ⟨⟨by omega, Jo (by omega) (by omega)⟩, fun hgt => ?_, fun hle => ?_⟩, fun hge => ?_⟩
  .rw [Jcn, if_neg] at h
   .exact h
   .rintro ⟨_, _, h6⟩; simp only [Int.toNat_natCast] at h6; have h7 : p ^ (k + 1) <= 256 := Nat.le_trans (J1 (by omega) (by omega)) h6; rw [Nat.pow_succ] at h7; have := (hdm _).2 h7; omega
  .have h7 : p ^ (k + 1) <= 256 := by rw [Nat.pow_succ]; exact (hdm _).1 (by omega)
   have e1 : ((p ^ k : Nat) : Int) * (p : Int) = ((p ^ (k + 1) : Nat) : Int) := by rw [Nat.pow_succ]; push_cast; rfl
   rw [e1]; exact ⟨Jo (by omega) (by omega), Jo (by omega) (by omega), ⟨k + 1, by push_cast; rfl, by omega, rfl, h7⟩, by omega⟩
  .have : k = m := by omega
   subst this; rw [Jcn, if_pos ⟨by omega, by omega, by simpa using hb⟩] at h
   simpa using h
theorem Zr (x p i : Nat) : x / p ^ i / p = x / p ^ (i + 1) := by rw [Nat.div_div_eq_div_mul, Nat.pow_succ]
theorem Jbb {p n x : Nat} {Q : LI -> Prop} (hp : 0 < p) (hn : n <= 1000) (hx : x <= 1000) (h : Q (dgi p n x)) : Yf p n x Q := by
 refine ⟨⟨by omega, by omega, by omega⟩, fun l z i => ∃ k : Nat, i = k /\ k <= n /\ z = ((x / p ^ k : Nat) : Int) /\ l.length = n /\ ∀ j, j < k -> vo l j = dv p x j, fun l z i => (n - i).toNat, ⟨0, rfl, Nat.zero_le _, by simp, by simp, fun j hj => by omega⟩, ?_⟩; rintro l _ _ ⟨k, rfl, hk, rfl, hl, hv⟩; dsimp only; have hd : x / p ^ k <= x := Nat.div_le_self _ _; have hd2 : x / p ^ k / p <= x / p ^ k := Nat.div_le_self _ _; rw [Jij, Y4, JR]; simp only [Int.toNat_natCast]; refine ⟨fun hlt => ⟨by omega, ⟨by omega, by omega⟩, ⟨by omega, Qf (by omega)⟩, Jo (by omega) (by omega), ⟨k + 1, by push_cast; rfl, by omega, by rw [Zr], by rw [List.length_set, hl], fun j hj => ?_⟩, by omega⟩, fun hge => ?_⟩
 .rw [JQ]; by_cases hjk : k = j
  .subst hjk; rw [if_pos ⟨rfl, by omega⟩]; rfl
  .rw [if_neg (by omega)]; exact hv j (by omega)
 .have : l = dgi p n x := Q3 (by rw [hl, JI]) fun j hj => by rw [hv j (by omega), Ql (by omega)]
  rw [this]; exact h
theorem Jcw {p n x : Nat} {Q : LI -> Prop} (hp : 0 < p) (hn : n <= 1000) (hx : x <= 1000) (h : Q (dgi p n x)) : Yb x p n Q := by
 refine ⟨⟨by omega, by omega, by omega⟩, fun l z i => ∃ k : Nat, i = k /\ k <= n /\ z = ((x / p ^ k : Nat) : Int) /\ l.length = n /\ ∀ j, j < k -> vo l j = dv p x j, fun l z i => (n - i).toNat, ⟨0, rfl, Nat.zero_le _, by simp, by simp, fun j hj => by omega⟩, ?_⟩; rintro l _ _ ⟨k, rfl, hk, rfl, hl, hv⟩; dsimp only; have hd : x / p ^ k <= x := Nat.div_le_self _ _; have hd2 : x / p ^ k / p <= x / p ^ k := Nat.div_le_self _ _; rw [Jij, Y4, JR]; simp only [Int.toNat_natCast]; refine ⟨fun hlt => ⟨by omega, ⟨by omega, by omega⟩, ⟨by omega, Qf (by omega)⟩, Jo (by omega) (by omega), ⟨k + 1, by push_cast; rfl, by omega, by rw [Zr], by rw [List.length_set, hl], fun j hj => ?_⟩, by omega⟩, fun hge => ?_⟩
 .rw [JQ]; by_cases hjk : k = j
  .subst hjk; rw [if_pos ⟨rfl, by omega⟩]; rfl
  .rw [if_neg (by omega)]; exact hv j (by omega)
 .have : l = dgi p n x := Q3 (by rw [hl, JI]) fun j hj => by rw [hv j (by omega), Ql (by omega)]
  rw [this]; exact h
theorem Jes {p m x : Nat} {mf : LI} {Q : Int -> Prop} (hp : 2 <= p) (hp2 : p <= 256) (hx : x <= 256) (h : Q ((if x % p = p - 1 then x - x % p else x + 1 : Nat) : Int)) : Q0 p m mf x Q := by
 have hm := Nat.mod_lt x (show 0 < p by omega); have hm2 := Nat.mod_le x p; refine ⟨by omega, Jo (by omega) (by omega), fun h0 => ⟨by omega, ?_⟩, fun h0 => ?_⟩
 .rw [Y4] at h0 ⊢; rw [if_pos (by omega)] at h; refine ⟨Jo (by omega) (by omega), ?_⟩; rw [show (x : Int) - ((x % p : Nat) : Int) = ((x - x % p : Nat) : Int) by omega]; exact h
 .rw [Y4] at h0; rw [if_neg (by omega)] at h; exact ⟨Jo (by omega) (by omega), by push_cast at h ⊢; exact h⟩
theorem Jam {l : LI} {Q : LI -> Prop} (hl : l.length <= 1000000) (h : Q l) : Y0 l Q := by
 intro b hb; refine ⟨fun h1 => by rw [<- hb h1]; exact h, fun _ => ⟨by omega, by simpa using h⟩⟩
end Go.Proofs.Ytopemhgpdlbkjaa
