/- Contracts of functions of the program, and what they lean on: D32, D35, D34, D36, Xq, Cd, D33, D37, Dt, Fa, Fb, Fg, Fp, Fk, Fc, V1. -/
import Derived.Test.YtjgpkljepgcekaaClassicPointsG3
import Derived.Lib.AppendZeros
set_option linter.unusedSimpArgs false
set_option linter.unusedVariables false
set_option maxRecDepth 4000
set_option maxHeartbeats 4000000
namespace Go.Proofs.Ytjgpkljepgcekaa
open Go.RowKit
def Yf (Fg : GFv) (Q : Int -> Prop) : Prop :=
  Q Fg.q
theorem Zr {w : World} {Q : Int -> Prop} {Fg : GFv} {ag : Addr} {Bg : Nat} (hgg : GFR Bg w ag Fg) (hv : Yf Fg Q) :
  Calls Try.prog 44 #[.pointer (some ag)] w <| Rt w fun v Qr => ∃ (r0 : Int), v = .int .i64 r0 /\ Qr = [] /\ Q r0 := by
 have hgg_ := hgg; obtain ⟨Ag_mod, kg_mod, Ag_exp, kg_exp, Ag_log, kg_log, Ag_above, kg_above, hg_c, hg_mod, hg_exp, hg_log, hg_above⟩ := hgg_; refine Ji <| Jg (vs := [.pointer (some ag)]) [2] XF44 rfl rfl rfl rfl ?_; have hS := Jo w; unfold Yf at hv; refine Jc 8 <| Jd (off := 3) Ja4 rfl rfl <| Jn XU3 rfl rfl (Rd.at_ (hS.ro hg_c) (j := 3) rfl) rfl <| Jb 2 <| W.ret <| ⟨_, rfl, Fin.nil ?_⟩
 exact (hS.pick [] rfl).fin rfl ⟨Fg.q, rfl, rfl, hv⟩
def YM (qq : Int) (r : Int) (Q : Bool -> Prop) : Prop :=
  ∃ (I17 : Int -> Int -> Prop) (μ18 : Int -> Int -> Nat), I17 0 (0 : Int) /\ ∀ (z15 : Int) (z16 : Int), (I17 z15 z16 -> (((z16 < r) -> ((I64 (z15 * qq)) /\ ((I64 ((z15 * qq) + (1 : Int))) /\ ((((64 : Int) < ((z15 * qq) + (1 : Int))) -> Q false) /\ (¬ ((64 : Int) < ((z15 * qq) + (1 : Int))) -> ((I64 (z16 + 1)) /\ (I17 ((z15 * qq) + (1 : Int)) (z16 + 1) /\ μ18 ((z15 * qq) + (1 : Int)) (z16 + 1) < μ18 z15 z16))))))) /\ (¬ (z16 < r) -> Q true)))
theorem Jfr {w : World} {Q : Bool -> Prop} {qq : Int} {r : Int}  (hv : YM qq r Q) :
   Calls Try.prog 43 #[.int .i64 qq, .int .i64 r] w <| Rt w fun v Qr => ∃ (r0 : Bool), v = .bool r0 /\ Qr = [] /\ Q r0 := by
 refine Ji <| Jg (vs := [nI qq, nI r]) [4] XF43 rfl rfl rfl rfl ?_; have hS := Jo w; unfold YM at hv; refine Jc 14 <| W.block ?_; obtain ⟨I17, μ18, hv, hk25⟩ := hv; refine Ju (σ := Int × Int) (fun q w1 => match q with | (z15, z16) => I17 z15 z16 /\ St TT w none w1 []) (fun (z15, z16) => [(0, nI qq), (4, .bool false), (5, nI z15), (6, nI r), (7, nI z16)]) (fun (z15, z16) => μ18 z15 z16) ((0 : Int), (0 : Int)) ⟨hv, hS⟩ ⟨rfl, rfl, rfl, rfl, rfl, trivial⟩ ?_; rintro ⟨z15, z16⟩ w19 ⟨hv, hS⟩; have hv := hk25 z15 z16 hv; refine Jc 5 <| Je rfl (fun c20 => ?_) (fun c20 => ?_)
 .have hv := hv.1 (oT c20); refine Jf <| Js <| W.block <| Jc 4 ?_; obtain ⟨o21, hv⟩ := hv; refine WL.mul (r := (z15 * qq)) rfl rfl (wr o21) rfl ?_; obtain ⟨o22, hv⟩ := hv; refine WL.add (r := ((z15 * qq) + (1 : Int))) rfl rfl (wr o22) rfl <| Jb 2 <| Jc 5 <| Je rfl (fun c23 => ?_) (fun c23 => ?_)
  .have hv := hv.1 (oT c23); refine Jc 4 <| W.ret <| ⟨_, rfl, Fin.nil ?_⟩
   exact (hS.pick [] rfl).fin rfl ⟨false, rfl, rfl, hv⟩
  have hv := hv.2 (oF c23); refine Jf <| Jv ?_; obtain ⟨o24, hv⟩ := hv; refine WL.add (r := (z16 + 1)) rfl rfl (wr o24) rfl <| Jb 2 ?_; exact ⟨(((z15 * qq) + (1 : Int)), (z16 + 1)), sp rfl, hv.2, rfl, hv.1, hS⟩
 have hv := hv.2 (oF c20); refine Jq <| Jc 4 <| W.ret <| ⟨_, rfl, Fin.nil ?_⟩
 exact (hS.pick [] rfl).fin rfl ⟨true, rfl, rfl, hv⟩
def Yd (qq : Int) (n : Int) (x : Int) (Q : LI -> Prop) : Prop :=
  (0 <= n /\ n * 8 <= 281474976710656 /\ n <= 281474976710656) /\ ((I64 (n - 1)) /\ (∃ (I25 : LI -> Int -> Int -> Prop) (μ26 : LI -> Int -> Int -> Nat), I25 (List.replicate n.toNat (0 : Int)) x (n - 1) /\ ∀ (x22 : LI) (z23 : Int) (z24 : Int), (I25 x22 z23 z24 -> ((((0 : Int) <= z24) -> ((qq ≠ 0) /\ ((0 <= z24 /\ z24 < (n.toNat : Nat)) /\ ((qq ≠ 0 /\ I64 (z23.tdiv qq)) /\ ((I64 (z24 - 1)) /\ (I25 (si x22 z24 (z23.tmod qq)) (z23.tdiv qq) (z24 - 1) /\ μ26 (si x22 z24 (z23.tmod qq)) (z23.tdiv qq) (z24 - 1) < μ26 x22 z23 z24)))))) /\ (¬ ((0 : Int) <= z24) -> Q x22)))))
theorem Jdb {w : World} {Q : LI -> Prop} {qq : Int} {n : Int} {x : Int}  (hv : Yd qq n x Q) :
  Calls Try.prog 45 #[.int .i64 qq, .int .i64 n, .int .i64 x] w <| Rt w fun v Qr => ∃ (x : LI)  (A : Option Addr) (c : Nat), v = .slice A x.length c /\ Qr = [.row 3 1 A x.length c (is x)] /\ Q x := by
 refine Ji <| Jg (vs := [nI qq, nI n, nI x]) [6] XF45 rfl rfl rfl rfl ?_; have hS := Jo w; unfold Yd at hv; refine Jc 7 ?_; obtain ⟨o11, hv⟩ := hv; refine Qx (J := n) hS Jk XE3 rfl rfl o11 (Qs _) rfl ?_; intro A12 w13 hS; refine Jb 2 <| Jc 4 ?_; obtain ⟨o15, hv⟩ := hv; refine WL.sub (r := (n - 1)) rfl rfl (wr o15) rfl <| Jb 2 <| W.block ?_; obtain ⟨I25, μ26, hv, hk34⟩ := hv; refine Ju (σ := LI × Int × Int) (fun q w1 => match q with | (x22, z23, z24) => I25 x22 z23 z24 /\ St TT w none w1 [.row 3 1 A12 n.toNat n.toNat (is x22)]) (fun (x22, z23, z24) => [(0, nI qq), (2, nI z23), (6, .slice none 0 0), (7, .slice A12 n.toNat n.toNat), (8, nI z24)]) (fun (x22, z23, z24) => μ26 x22 z23 z24) (List.replicate n.toNat (0 : Int), x, (n - 1)) ⟨hv, hS⟩ ⟨rfl, rfl, rfl, rfl, rfl, trivial⟩ ?_; rintro ⟨x22, z23, z24⟩ w27 ⟨hv, hS⟩; have hv := hk34 x22 z23 z24 hv; refine Jc 6 <| Je rfl (fun c28 => ?_) (fun c28 => ?_)
 .have hv := hv.1 (oT c28); refine Jf <| Js <| W.block <| Jc 6 ?_; obtain ⟨o29, hv⟩ := hv; refine Qi (r := (z23.tmod qq)) rfl rfl o29 rfl rfl ?_; obtain ⟨o30, hv⟩ := hv; refine Jh Jk XE3 (hS.rd (i := 0) rfl) rfl rfl o30 rfl <| Jw (cs' := is (si x22 z24 (z23.tmod qq))) 0 z24.toNat hS rfl XE3 rfl rfl rfl (Qt (hS.rd (i := 0) rfl) o30) (J2 _ _ _) ?_; intro w31 hS; refine Ja <| Jc 3 ?_; obtain ⟨o32, hv⟩ := hv; refine ZH (r := (z23.tdiv qq)) rfl rfl o32.1 (wr o32.2) rfl <| Jb 2 <| Jc 2 ?_; obtain ⟨o33, hv⟩ := hv; refine WL.sub (r := (z24 - 1)) rfl rfl (wr o33) rfl <| Jb 2 ?_; exact ⟨(si x22 z24 (z23.tmod qq), (z23.tdiv qq), (z24 - 1)), sp rfl, hv.2, rfl, hv.1, hS⟩
 have hv := hv.2 (oF c28); refine Jq <| Jc 5 <| W.ret ?_; have hm := (hS.rd (i := 0) rfl).ilen; have hS := hS.relen (i := 0) rfl hm.symm; refine ⟨_, rfl, Fin.nil ?_⟩; exact ⟨_, hS.ext, (hS.pick [0] rfl).rows, JP (hS.pick [0] rfl).rows rfl, ⟨x22, A12, n.toNat, (by rw [hm]), rfl, hv⟩⟩
def YN (Pf : Int) (Mf : Int) (mf : LI) (r : Int) (Q : LL × Int -> Prop) : Prop :=
  Jfd Pf Mf mf (fun q => match q with | (none, r15) => ((r15 ≠ 0) -> (Q (([] : LL), r15))) /\ (¬ (r15 ≠ 0) -> (((r < 1) -> (Q (([] : LL), (6 : Int)))) /\ (¬ (r < 1) -> False))) | (some F16, r15) => ((r15 ≠ 0) -> (Q (([] : LL), r15))) /\ (¬ (r15 ≠ 0) -> (((r < 1) -> (Q (([] : LL), (6 : Int)))) /\ (¬ (r < 1) -> (Yf F16 (fun r31 => YM r31 r (fun r33 => (((!r33) = true) -> (Q (([] : LL), (4 : Int)))) /\ ((!r33) = false -> (∃ (I57 : LL -> Int -> Int -> Prop) (μ58 : LL -> Int -> Int -> Nat), I57 ([] : LL) (1 : Int) (0 : Int) /\ ∀ (x50 : LL) (z55 : Int) (z56 : Int), (I57 x50 z55 z56 -> (((z56 < r) -> (∃ (I76 : LL -> Int -> Prop) (μ77 : LL -> Int -> Nat), I76 x50 z55 /\ ∀ (x71 : LL) (z75 : Int), (I76 x71 z75 -> ((I64 ((2 : Int) * z55)) /\ (((z75 < ((2 : Int) * z55)) -> (Yf F16 (fun r82 => Yd r82 r z75 (fun x84 => (((x71.length : Nat) + (1 : Nat) : Int) * 24 <= 140737488355328) /\ ((I64 (z75 + 1)) /\ (I76 (x71 ++ [x84]) (z75 + 1) /\ μ77 (x71 ++ [x84]) (z75 + 1) < μ77 x71 z75)))))) /\ (¬ (z75 < ((2 : Int) * z55)) -> (Yf F16 (fun r97 => (I64 (z55 * r97)) /\ ((I64 (z56 + 1)) /\ (I57 x71 (z55 * r97) (z56 + 1) /\ μ58 x71 (z55 * r97) (z56 + 1) < μ58 x50 z55 z56)))))))))) /\ (¬ (z56 < r) -> (Q (x50, (0 : Int)))))))))))))))
theorem Jfs {w : World} {Q : LL × Int -> Prop} {Pf : Int} {Mf : Int} {mf : LI} {r : Int} {Bf : Nat} {Af : Option Addr} {nf kf : Nat} (hf : Rd Bf w 1 Af nf kf (is mf)) (hv : YN Pf Mf mf r Q) :
  Calls Try.prog 13 #[.agg #[.int .i64 Pf, .int .i64 Mf, .slice Af nf kf], .int .i64 r] w <| Rt w fun v Qr => ∃ (r0 : LL) (r1 : Int) (A0 : Option Addr) (k0 : Nat) (hs0 : Hs), v = .tuple #[.slice A0 r0.length k0, .int .i64 r1] /\ Qr = [mx 22 3 A0 r0.length k0 hs0 r0] /\ Q (r0, r1) := by
 have hnf := hf.ilen; subst hnf; refine Ji <| Jg (vs := [.agg #[nI Pf, nI Mf, nS Af mf kf], nI r]) [4, 5] XF13 rfl rfl rfl rfl ?_; have hS := Jo w; unfold YN at hv; refine Jc 2 <| JH (z := 3) (cs := [nI Pf, nI Mf, nS Af mf kf]) hS rfl rfl rfl rfl ?_; intro g11 w12 hS; refine Jb 3 <| Jc 2 <| J6 0 Qn Qy hS rfl ⟨rfl, rfl⟩ rfl <| SL.call hS (ok_New (hS.ro hf) hv) XF42 rfl XN42 rfl rfl ?_; rintro _ _ w14 ⟨o, r15, hv, hK⟩ hGw14 hS; cases o with
 | none =>
  obtain ⟨rfl, rfl⟩ := hK
  change St _ _ _ _ [_] at hS
  refine Jb 6 <| Jc 6 <| Je rfl (fun c22 => ?_) (fun c22 => ?_)
  .have hv := hv.1 (oT c22); refine Jc 6 <| W.ret ?_; have hS := hS.mxNil 22 3; have hm0 := hS.mxlen (i := 0) rfl; have hS := hS.relenMx (i := 0) rfl hm0.symm
   change St _ _ _ _ [_, _] at hS
   refine ⟨_, rfl, Fin.nil ?_⟩; exact ⟨_, hS.ext, (hS.pick [0] rfl).rows, JP (hS.pick [0] rfl).rows rfl, ⟨([] : LL), r15, none, 0, (fun _ => (none, 0)), (by (try unfold nS); first | (rw [show (Value.slice none 0 0) = Value.slice none (([] : LL)).length 0 from sm0 hm0.symm]; done) | (rw [show (Value.slice none 0 0) = Value.slice none (([] : LL)).length 0 from sm0 hm0.symm]; rfl)), rfl, hv⟩⟩
  have hv := hv.2 (oF c22); refine Jf <| Jc 6 <| Je rfl (fun c24 => ?_) (fun c24 => ?_)
  .have hv := hv.1 (oT c24); refine Jc 5 <| W.ret ?_; have hS := hS.mxNil 22 3; have hm0 := hS.mxlen (i := 0) rfl; have hS := hS.relenMx (i := 0) rfl hm0.symm
   change St _ _ _ _ [_, _] at hS
   refine ⟨_, rfl, Fin.nil ?_⟩; exact ⟨_, hS.ext, (hS.pick [0] rfl).rows, JP (hS.pick [0] rfl).rows rfl, ⟨([] : LL), (6 : Int), none, 0, (fun _ => (none, 0)), (by (try unfold nS); first | (rw [show (Value.slice none 0 0) = Value.slice none (([] : LL)).length 0 from sm0 hm0.symm]; done) | (rw [show (Value.slice none 0 0) = Value.slice none (([] : LL)).length 0 from sm0 hm0.symm]; rfl)), rfl, hv⟩⟩
  have hv := hv.2 (oF c24); refine Jf <| Jc 4 ?_; exact hv.elim
 | some F16 =>
  obtain ⟨ad17, lo18, hi19, rfl, rfl⟩ := hK
  change St _ _ _ _ [_, _] at hS
  refine Jb 6 <| Jc 6 <| Je rfl (fun c26 => ?_) (fun c26 => ?_)
  .have hv := hv.1 (oT c26); refine Jc 6 <| W.ret ?_; have hS := hS.mxNil 22 3; have hm0 := hS.mxlen (i := 0) rfl; have hS := hS.relenMx (i := 0) rfl hm0.symm
   change St _ _ _ _ [_, _, _] at hS
   refine ⟨_, rfl, Fin.nil ?_⟩; exact ⟨_, hS.ext, (hS.pick [0] rfl).rows, JP (hS.pick [0] rfl).rows rfl, ⟨([] : LL), r15, none, 0, (fun _ => (none, 0)), (by (try unfold nS); first | (rw [show (Value.slice none 0 0) = Value.slice none (([] : LL)).length 0 from sm0 hm0.symm]; done) | (rw [show (Value.slice none 0 0) = Value.slice none (([] : LL)).length 0 from sm0 hm0.symm]; rfl)), rfl, hv⟩⟩
  have hv := hv.2 (oF c26); refine Jf <| Jc 6 <| Je rfl (fun c28 => ?_) (fun c28 => ?_)
  .have hv := hv.1 (oT c28); refine Jc 5 <| W.ret ?_; have hS := hS.mxNil 22 3; have hm0 := hS.mxlen (i := 0) rfl; have hS := hS.relenMx (i := 0) rfl hm0.symm
   change St _ _ _ _ [_, _, _] at hS
   refine ⟨_, rfl, Fin.nil ?_⟩; exact ⟨_, hS.ext, (hS.pick [0] rfl).rows, JP (hS.pick [0] rfl).rows rfl, ⟨([] : LL), (6 : Int), none, 0, (fun _ => (none, 0)), (by (try unfold nS); first | (rw [show (Value.slice none 0 0) = Value.slice none (([] : LL)).length 0 from sm0 hm0.symm]; done) | (rw [show (Value.slice none 0 0) = Value.slice none (([] : LL)).length 0 from sm0 hm0.symm]; rfl)), rfl, hv⟩⟩
  have hv := hv.2 (oF c28); refine Jf <| Jc 4 <| SL.call hS (Zr (Ja7 (hS.chunk (i := 0) rfl)) hv) XF44 rfl XN44 rfl rfl ?_; rintro _ _ w30 ⟨r31, rfl, rfl, hv⟩ hGw30 hS; have hS := hS.n0; refine Jl rfl rfl <| SL.call hS (Jfr  hv) XF43 rfl XN43 rfl rfl ?_; rintro _ _ w32 ⟨r33, rfl, rfl, hv⟩ hGw32 hS; have hS := hS.n0; refine Jb 2 <| Je rfl (fun c34 => ?_) (fun c34 => ?_)
  .have hv := hv.1 (c34); refine Jc 5 <| W.ret ?_; have hS := hS.mxNil 22 3; have hm0 := hS.mxlen (i := 0) rfl; have hS := hS.relenMx (i := 0) rfl hm0.symm
   change St _ _ _ _ [_, _, _] at hS
   refine ⟨_, rfl, Fin.nil ?_⟩; exact ⟨_, hS.ext, (hS.pick [0] rfl).rows, JP (hS.pick [0] rfl).rows rfl, ⟨([] : LL), (4 : Int), none, 0, (fun _ => (none, 0)), (by (try unfold nS); first | (rw [show (Value.slice none 0 0) = Value.slice none (([] : LL)).length 0 from sm0 hm0.symm]; done) | (rw [show (Value.slice none 0 0) = Value.slice none (([] : LL)).length 0 from sm0 hm0.symm]; rfl)), rfl, hv⟩⟩
  have hv := hv.2 (c34); refine Jf <| Jc 14 <| W.block ?_; obtain ⟨I57, μ58, hv, hk101⟩ := hv; have hS := hS.mxNil 22 3; have hm0 : 0 = ([] : LL).length := (hS.mxlen (i := 0) rfl).symm; have hS := hS.relenMx (i := 0) rfl hm0
  change St _ _ _ _ [_, _, _] at hS
  refine Ju (σ := LL × Int × Int × Option Addr × Nat × Hs) (fun q w1 => match q with | (x50, z55, z56, A51, k52, hs53) => I57 x50 z55 z56 /\ St TT w none w1 [mx 22 3 A51 x50.length k52 hs53 x50, .ch lo18 hi19 (fun wz => GFX lo18 hi19 wz ad17 F16), .row 24 3 (nA g11) 1 1 [nI Pf, nI Mf, nS Af mf kf]]) (fun (x50, z55, z56, A51, k52, hs53) => [(1, nI r), (4, .slice none 0 0), (5, nI 0), (6, .pointer (some ad17)), (8, nS A51 x50 k52), (9, nI z55), (26, nI r), (27, nI z56)]) (fun (x50, z55, z56, A51, k52, hs53) => μ58 x50 z55 z56) (([] : LL), (1 : Int), (0 : Int), none, 0, (fun _ => (none, 0))) ⟨hv, hS⟩ ⟨rfl, rfl, rfl, rfl, (sm (by first | rfl | assumption | omega)), rfl, rfl, rfl, trivial⟩ ?_; rintro ⟨x50, z55, z56, A51, k52, hs53⟩ w59 ⟨hv, hS⟩; have hv := hk101 x50 z55 z56 hv; refine Jc 5 <| Je rfl (fun c60 => ?_) (fun c60 => ?_)
  .have hv := hv.1 (oT c60); refine Jf <| Js <| W.block <| Jc 6 <| W.block ?_; obtain ⟨I76, μ77, hv, hk100⟩ := hv; refine Ju (σ := LL × Int × Option Addr × Nat × Hs) (fun q w1 => match q with | (x71, z75, A72, k73, hs74) => I76 x71 z75 /\ St TT w none w1 [mx 22 3 A72 x71.length k73 hs74 x71, .ch lo18 hi19 (fun wz => GFX lo18 hi19 wz ad17 F16), .row 24 3 (nA g11) 1 1 [nI Pf, nI Mf, nS Af mf kf]]) (fun (x71, z75, A72, k73, hs74) => [(1, nI r), (4, .slice none 0 0), (5, nI 0), (6, .pointer (some ad17)), (8, nS A72 x71 k73), (9, nI z55), (10, nI z75), (26, nI r), (27, nI z56), (28, .bool (decide (z56 < r)))]) (fun (x71, z75, A72, k73, hs74) => μ77 x71 z75) (x50, z55, A51, k52, hs53) ⟨hv, hS⟩ ⟨rfl, rfl, rfl, rfl, rfl, rfl, rfl, rfl, rfl, rfl, trivial⟩ ?_; rintro ⟨x71, z75, A72, k73, hs74⟩ w78 ⟨hv, hS⟩; have hv := hk100 x71 z75 hv; refine Jc 5 ?_; obtain ⟨o79, hv⟩ := hv; refine WL.mul (r := ((2 : Int) * z55)) rfl rfl (wr o79) rfl <| Jb 2 <| Je rfl (fun c80 => ?_) (fun c80 => ?_)
   .have hv := hv.1 (oT c80); refine Jf <| Js <| W.block <| Jc 3 <| SL.call hS (Zr (Ja7 (hS.chunk (i := 1) rfl)) hv) XF44 rfl XN44 rfl rfl ?_; rintro _ _ w81 ⟨r82, rfl, rfl, hv⟩ hGw81 hS; have hS := hS.n0; refine Jb 2 <| SL.call hS (Jdb  hv) XF45 rfl XN45 rfl rfl ?_; rintro _ _ w83 ⟨x84, A85, k86, rfl, rfl, hv⟩ hGw83 hS; have hS := hS.n1; refine Qd (vs := [nS A85 x84 k86]) hS ZS YW rfl rfl rfl rfl (by simp [Value.oneCell']) rfl ?_; intro A88 w89 hS; obtain ⟨o91, hv⟩ := hv; have hS := hS.pick [2, 0, 1, 3, 4] rfl; have hS := hS.pick [1, 2, 0, 3, 4] rfl; have hS := Jco (hS.rd (i := 1) rfl).ilen.symm hS
    change St _ _ _ _ [_, _, _, _] at hS
    refine Y6 hS ZS YW rfl rfl (apk o91).1 (apk o91).2 rfl ?_; intro A92 k93 w94 hS; refine Jb 2 <| Jc 2 ?_; obtain ⟨o95, hv⟩ := hv; refine WL.add (r := (z75 + 1)) rfl rfl (wr o95) rfl <| Jb 2 ?_; exact ⟨(x71 ++ [x84], (z75 + 1), A92, k93, (Y8 x71.length hs74 (fun _ => (A85, k86)))), sp rfl, hv.2, rfl, hv.1, hS⟩
   have hv := hv.2 (oF c80); refine Jq <| Jc 3 <| SL.call hS (Zr (Ja7 (hS.chunk (i := 1) rfl)) hv) XF44 rfl XN44 rfl rfl ?_; rintro _ _ w96 ⟨r97, rfl, rfl, hv⟩ hGw96 hS; have hS := hS.n0; obtain ⟨o98, hv⟩ := hv; refine WL.mul (r := (z55 * r97)) rfl rfl (wr o98) rfl <| Jb 2 <| Jv ?_; obtain ⟨o99, hv⟩ := hv; refine WL.add (r := (z56 + 1)) rfl rfl (wr o99) rfl <| Jb 2 ?_; exact ⟨(x71, (z55 * r97), (z56 + 1), A72, k73, hs74), sp rfl, hv.2, rfl, hv.1, hS⟩
  have hv := hv.2 (oF c60); refine Jq <| Jc 6 <| W.ret <| ⟨_, rfl, Fin.nil ?_⟩
  exact (hS.pick [0] rfl).fin rfl ⟨x50, (0 : Int), A51, k52, hs53, rfl, rfl, hv⟩
def Qw (m : Int) (l : LI) (Q : LI -> Prop) : Prop :=
  ∃ (I17 : Int -> Int -> Prop) (μ18 : Int -> Int -> Nat), I17 0 (0 : Int) /\ ∀ (z15 : Int) (z16 : Int), (I17 z15 z16 -> (((z16 < (l.length : Int)) -> ((0 <= z16 /\ z16 < (l.length : Nat)) /\ ((0 <= (gi l z16) /\ I64 (JU (1 : Int) (gi l z16))) /\ ((0 <= z15 /\ z15 < 9223372036854775808 /\ 0 <= (JU (1 : Int) (gi l z16)) /\ (JU (1 : Int) (gi l z16)) < 9223372036854775808) /\ ((I64 (z16 + 1)) /\ (I17 (ior z15 (JU (1 : Int) (gi l z16))) (z16 + 1) /\ μ18 (ior z15 (JU (1 : Int) (gi l z16))) (z16 + 1) < μ18 z15 z16)))))) /\ (¬ (z16 < (l.length : Int)) -> ((0 <= m /\ I64 (JU (1 : Int) m)) /\ ((0 <= (JU (1 : Int) m) /\ (JU (1 : Int) m) * 8 <= 281474976710656 /\ (JU (1 : Int) m) <= 281474976710656) /\ (∃ (I36 : LI -> Int -> Prop) (μ37 : LI -> Int -> Nat), I36 (List.replicate (JU (1 : Int) m).toNat (0 : Int)) (0 : Int) /\ ∀ (x34 : LI) (z35 : Int), (I36 x34 z35 -> (((z35 < (((JU (1 : Int) m).toNat : Nat) : Int)) -> (∃ J41 : LI -> Prop, ((0 <= z35 /\ z35 < 9223372036854775808 /\ 0 <= z15 /\ z15 < 9223372036854775808) /\ ((((Jdj z35 z15) = z15) -> ((0 <= z35 /\ z35 < ((JU (1 : Int) m).toNat : Nat)) /\ (J41 (si x34 z35 1)))) /\ (¬ ((Jdj z35 z15) = z15) -> J41 x34))) /\ ∀ (x40 : LI), (J41 x40 -> ((I64 (z35 + 1)) /\ (I36 x40 (z35 + 1) /\ μ37 x40 (z35 + 1) < μ37 x34 z35))))) /\ (¬ (z35 < (((JU (1 : Int) m).toNat : Nat) : Int)) -> Q x34)))))))))
theorem Jao {w : World} {Q : LI -> Prop} {m : Int} {l : LI} {Bl : Nat} {Al : Option Addr} {nl kl : Nat} (hl : Rd Bl w 1 Al nl kl (is l)) (hv : Qw m l Q) :
   Calls Try.prog 58 #[.int .i64 m, .slice Al nl kl] w <| Rt w fun v Qr => ∃ (x : LI)  (A : Option Addr) (c : Nat), v = .slice A x.length c /\ Qr = [.row 3 1 A x.length c (is x)] /\ Q x := by
 have hnl := hl.ilen; subst hnl; refine Ji <| Jg (vs := [nI m, nS Al l kl]) [4] XF58 rfl rfl rfl rfl ?_; have hS := Jo w; unfold Qw at hv; refine Jc 12 <| WL.len Jk rfl rfl <| Jb 2 <| W.block ?_; obtain ⟨I17, μ18, hv, hk50⟩ := hv; refine Ju (σ := Int × Int) (fun q w1 => match q with | (z15, z16) => I17 z15 z16 /\ St TT w none w1 []) (fun (z15, z16) => [(0, nI m), (4, .slice none 0 0), (5, nI z15), (10, nS Al l kl), (11, nI (l.length : Int)), (12, nI z16)]) (fun (z15, z16) => μ18 z15 z16) ((0 : Int), (0 : Int)) ⟨hv, hS⟩ ⟨rfl, rfl, rfl, rfl, rfl, rfl, trivial⟩ ?_; rintro ⟨z15, z16⟩ w19 ⟨hv, hS⟩; have hv := hk50 z15 z16 hv; refine Jc 5 <| Je rfl (fun c20 => ?_) (fun c20 => ?_)
 .have hv := hv.1 (oT c20); refine Jf <| Js <| W.block <| Jc 2 ?_; obtain ⟨o21, hv⟩ := hv; refine Jh Jk XE3 (hS.ro hl) rfl rfl o21 rfl <| Jn XU3 rfl rfl (JD (hS.ro hl) o21) rfl <| Jb 2 <| Jc 3 ?_; obtain ⟨o22, hv⟩ := hv; refine Jik (r := (JU (1 : Int) (gi l z16))) rfl rfl o22.1 (wr o22.2) rfl ?_; obtain ⟨o23, hv⟩ := hv; refine WL.bits (r := (ior z15 (JU (1 : Int) (gi l z16)))) rfl rfl (by decide) (Ji4 o23) rfl <| Jb 2 <| Jv ?_; obtain ⟨o24, hv⟩ := hv; refine WL.add (r := (z16 + 1)) rfl rfl (wr o24) rfl <| Jb 2 ?_; exact ⟨((ior z15 (JU (1 : Int) (gi l z16))), (z16 + 1)), sp rfl, hv.2, rfl, hv.1, hS⟩
 have hv := hv.2 (oF c20); refine Jq <| Jc 3 ?_; obtain ⟨o25, hv⟩ := hv; refine Jik (r := (JU (1 : Int) m)) rfl rfl o25.1 (wr o25.2) rfl ?_; obtain ⟨o26, hv⟩ := hv; refine Qx (J := (JU (1 : Int) m)) hS Jk XE3 rfl rfl o26 (Qs _) rfl ?_; intro A27 w28 hS; refine Jb 2 <| Jc 4 <| WL.len Jk rfl rfl <| Jb 2 <| W.block ?_; obtain ⟨I36, μ37, hv, hk49⟩ := hv; refine Ju (σ := LI × Int) (fun q w1 => match q with | (x34, z35) => I36 x34 z35 /\ St TT w none w1 [.row 3 1 A27 ((JU (1 : Int) m).toNat) ((JU (1 : Int) m).toNat) (is x34)]) (fun (x34, z35) => [(4, .slice none 0 0), (5, nI z15), (8, .slice A27 ((JU (1 : Int) m).toNat) ((JU (1 : Int) m).toNat)), (25, nI (((JU (1 : Int) m).toNat : Nat) : Int)), (26, nI z35)]) (fun (x34, z35) => μ37 x34 z35) (List.replicate (JU (1 : Int) m).toNat (0 : Int), (0 : Int)) ⟨hv, hS⟩ ⟨rfl, rfl, rfl, rfl, rfl, trivial⟩ ?_; rintro ⟨x34, z35⟩ w38 ⟨hv, hS⟩; have hv := hk49 x34 z35 hv; refine Jc 5 <| Je rfl (fun c39 => ?_) (fun c39 => ?_)
 .have hv := hv.1 (oT c39); refine Jf <| Js ?_; obtain ⟨J41, hv, hk48⟩ := hv; refine Yr (σ := LI) (fun x40 w1 => J41 x40 /\ St TT w none w1 [.row 3 1 A27 ((JU (1 : Int) m).toNat) ((JU (1 : Int) m).toNat) (is x40)]) (fun x40 => [(4, .slice none 0 0), (5, nI z15), (8, .slice A27 ((JU (1 : Int) m).toNat) ((JU (1 : Int) m).toNat)), (9, nI z35), (25, nI (((JU (1 : Int) m).toNat : Nat) : Int)), (26, nI z35), (27, .bool (decide (z35 < (((JU (1 : Int) m).toNat : Nat) : Int)))), (33, .bool (decide ((Jdj z35 z15) = z15)))]) ?_ ?_
  .refine W.block ?_; refine Jc 9 ?_; obtain ⟨o42, hv⟩ := hv; refine WL.bits (r := (Jdj z35 z15)) rfl rfl (by decide) (Jhf o42) rfl <| Jb 3 <| Je rfl (fun c43 => ?_) (fun c43 => ?_)
   .have hv := hv.1 (oT c43); refine Jc 3 ?_; obtain ⟨o44, hv⟩ := hv; refine Jh Jk XE3 (hS.rd (i := 0) rfl) rfl rfl o44 rfl <| Jw (cs' := is (si x34 z35 1)) 0 z35.toNat hS rfl XE3 rfl rfl rfl (Qt (hS.rd (i := 0) rfl) o44) (J2 _ _ _) ?_; intro w45 hS; refine Ja ?_; exact ⟨si x34 z35 1, sp rfl, rfl, hv, hS⟩
   have hv := hv.2 (oF c43); refine Jf ?_; exact ⟨x34, sp rfl, rfl, hv, hS⟩
  rintro x40 w46 ⟨hv, hS⟩; have hv := hk48 x40 hv; refine Jv ?_; obtain ⟨o47, hv⟩ := hv; refine WL.add (r := (z35 + 1)) rfl rfl (wr o47) rfl <| Jb 2 ?_; exact ⟨(x40, (z35 + 1)), sp rfl, hv.2, rfl, hv.1, hS⟩
 have hv := hv.2 (oF c39); refine Jq <| Jc 5 <| W.ret ?_; have hm := (hS.rd (i := 0) rfl).ilen; have hS := hS.relen (i := 0) rfl hm.symm; refine ⟨_, rfl, Fin.nil ?_⟩; exact ⟨_, hS.ext, (hS.pick [0] rfl).rows, JP (hS.pick [0] rfl).rows rfl, ⟨x34, A27, (JU (1 : Int) m).toNat, (by rw [hm]), rfl, hv⟩⟩
def QM (m : Int) (l : LI) (Q : LI × Int -> Prop) : Prop :=
  ((m < 0) -> (Q (([] : LI), (6 : Int)))) /\ (¬ (m < 0) -> ((((6 : Int) < m) -> (Q (([] : LI), (6 : Int)))) /\ (¬ ((6 : Int) < m) -> (∃ (I19 : Int -> Int -> Prop) (μ20 : Int -> Int -> Nat), I19 (-1 : Int) (0 : Int) /\ ∀ (z17 : Int) (z18 : Int), (I19 z17 z18 -> (((z18 < (l.length : Int)) -> ((0 <= z18 /\ z18 < (l.length : Nat)) /\ ((((gi l z18) <= z17) -> (Q (([] : LI), (5 : Int)))) /\ (¬ ((gi l z18) <= z17) -> (((m <= (gi l z18)) -> (Q (([] : LI), (5 : Int)))) /\ (¬ (m <= (gi l z18)) -> ((I64 (z18 + 1)) /\ (I19 (gi l z18) (z18 + 1) /\ μ20 (gi l z18) (z18 + 1) < μ20 z17 z18)))))))) /\ (¬ (z18 < (l.length : Int)) -> (Qw m l (fun x28 => Q (x28, (0 : Int)))))))))))
theorem Jbq {w : World} {Q : LI × Int -> Prop} {m : Int} {l : LI} {Bl : Nat} {Al : Option Addr} {nl kl : Nat} (hl : Rd Bl w 1 Al nl kl (is l)) (hv : QM m l Q) :
   Calls Try.prog 26 #[.int .i64 m, .slice Al nl kl] w <| Rt w fun v Qr => ∃ (r0 : LI) (r1 : Int) (A0 : Option Addr) (k0 : Nat), v = .tuple #[.slice A0 r0.length k0, .int .i64 r1] /\ Qr = [.row 3 1 A0 r0.length k0 (is r0)] /\ Q (r0, r1) := by
 have hnl := hl.ilen; subst hnl; refine Ji <| Jg (vs := [nI m, nS Al l kl]) [4, 5] XF26 rfl rfl rfl rfl ?_; have hS := Jo w; unfold QM at hv; refine Jc 10 <| Jl rfl rfl ?_; by_cases g11 : m < 0
 .have hv := hv.1 g11; rw [decide_eq_true g11]; refine Jb 4 <| JX rfl <| Jc 5 <| W.ret ?_; have hS := hS.nil (e := 3) (z := 1)
  change St _ _ _ _ [_] at hS
  refine ⟨_, rfl, Fin.nil ?_⟩; exact (hS.pick [0] rfl).fin rfl ⟨([] : LI), (6 : Int), none, 0, rfl, rfl, hv⟩
 have hv := hv.2 g11; rw [decide_eq_false g11]; refine Jb 6 <| Je rfl (fun c12 => ?_) (fun c12 => ?_)
 .have hv := hv.1 (oT c12); refine Jc 5 <| W.ret ?_; have hS := hS.nil (e := 3) (z := 1)
  change St _ _ _ _ [_] at hS
  refine ⟨_, rfl, Fin.nil ?_⟩; exact (hS.pick [0] rfl).fin rfl ⟨([] : LI), (6 : Int), none, 0, rfl, rfl, hv⟩
 have hv := hv.2 (oF c12); refine Jf <| Jc 8 <| WL.len Jk rfl rfl <| Jb 2 <| W.block ?_; obtain ⟨I19, μ20, hv, hk32⟩ := hv; refine Ju (σ := Int × Int) (fun q w1 => match q with | (z17, z18) => I19 z17 z18 /\ St TT w none w1 []) (fun (z17, z18) => [(0, nI m), (1, nS Al l kl), (4, .slice none 0 0), (5, nI 0), (6, nI z17), (15, nS Al l kl), (16, nI (l.length : Int)), (17, nI z18)]) (fun (z17, z18) => μ20 z17 z18) ((-1 : Int), (0 : Int)) ⟨hv, hS⟩ ⟨rfl, rfl, rfl, rfl, rfl, rfl, rfl, rfl, trivial⟩ ?_; rintro ⟨z17, z18⟩ w21 ⟨hv, hS⟩; have hv := hk32 z17 z18 hv; refine Jc 5 <| Je rfl (fun c22 => ?_) (fun c22 => ?_)
 .have hv := hv.1 (oT c22); refine Jf <| Js <| W.block <| Jc 2 ?_; obtain ⟨o23, hv⟩ := hv; refine Jh Jk XE3 (hS.ro hl) rfl rfl o23 rfl <| Jn XU3 rfl rfl (JD (hS.ro hl) o23) rfl <| Jb 2 <| Jc 6 <| Jl rfl rfl ?_; by_cases g24 : (gi l z18) <= z17
  .have hv := hv.1 g24; rw [decide_eq_true g24]; refine Jb 5 <| JX rfl <| Jc 5 <| W.ret ?_; have hS := hS.nil (e := 3) (z := 1)
   change St _ _ _ _ [_] at hS
   refine ⟨_, rfl, Fin.nil ?_⟩; exact (hS.pick [0] rfl).fin rfl ⟨([] : LI), (5 : Int), none, 0, rfl, rfl, hv⟩
  have hv := hv.2 g24; rw [decide_eq_false g24]; refine Jb 8 <| Je rfl (fun c25 => ?_) (fun c25 => ?_)
  .have hv := hv.1 (oT c25); refine Jc 5 <| W.ret ?_; have hS := hS.nil (e := 3) (z := 1)
   change St _ _ _ _ [_] at hS
   refine ⟨_, rfl, Fin.nil ?_⟩; exact (hS.pick [0] rfl).fin rfl ⟨([] : LI), (5 : Int), none, 0, rfl, rfl, hv⟩
  have hv := hv.2 (oF c25); refine Jf <| Jc 4 <| Jv ?_; obtain ⟨o26, hv⟩ := hv; refine WL.add (r := (z18 + 1)) rfl rfl (wr o26) rfl <| Jb 2 ?_; exact ⟨((gi l z18), (z18 + 1)), sp rfl, hv.2, rfl, hv.1, hS⟩
 have hv := hv.2 (oF c22); refine Jq <| Jc 4 <| SL.call hS (Jao (hS.ro hl) hv) XF58 rfl XN58 rfl rfl ?_; rintro _ _ w27 ⟨x28, A29, k30, rfl, rfl, hv⟩ hGw27 hS; have hS := hS.n1; refine Jb 3 <| W.ret <| ⟨_, rfl, Fin.nil ?_⟩
 exact (hS.pick [0] rfl).fin rfl ⟨x28, (0 : Int), A29, k30, rfl, rfl, hv⟩
end Go.Proofs.Ytjgpkljepgcekaa
namespace Go.Proofs.Ytjgpkljepgcekaa
open Go.RowKit
def Ye  (Q : Bool -> Prop) : Prop :=
  QM (2 : Int) ([(0 : Int), (1 : Int)] : LI) (fun (x15, r16) => ((r16 = 0) -> ((((x15.length : Int) = (4 : Int)) -> ((0 <= (0 : Int) /\ (0 : Int) < (x15.length : Nat)) /\ ((((gi x15 0) = 0) -> ((0 <= (1 : Int) /\ (1 : Int) < (x15.length : Nat)) /\ ((((gi x15 1) = 0) -> ((0 <= (2 : Int) /\ (2 : Int) < (x15.length : Nat)) /\ ((((gi x15 2) = 0) -> ((0 <= (3 : Int) /\ (3 : Int) < (x15.length : Nat)) /\ (Q (decide ((gi x15 3) = 1))))) /\ (¬ ((gi x15 2) = 0) -> Q false)))) /\ (¬ ((gi x15 1) = 0) -> Q false)))) /\ (¬ ((gi x15 0) = 0) -> Q false)))) /\ (¬ ((x15.length : Int) = (4 : Int)) -> Q false))) /\ (¬ (r16 = 0) -> Q false))
theorem Jdc {w : World} {Q : Bool -> Prop}   (hv : Ye  Q) :
   Calls Try.prog 16 #[] w <| Rt w fun v Qr => ∃ (r0 : Bool), v = .bool r0 /\ Qr = [] /\ Q r0 := by
 refine Ji <| Jg (vs := []) [0] XF16 rfl rfl rfl rfl ?_; have hS := Jo w; unfold Ye at hv; refine Jc 6 <| Qd (vs := is ([(0 : Int), (1 : Int)] : LI)) hS Jk XE3 rfl rfl rfl rfl (JZ _) rfl ?_; intro A11 w12 hS; refine SL.call hS (Jbq (hS.rd (i := 0) rfl) hv) XF26 rfl XN26 rfl rfl ?_; rintro _ _ w14 ⟨x15, r16, A17, k18, rfl, rfl, hv⟩ hGw14 hS; have hS := hS.n1; refine Jb 6 <| Jc 4 <| Jl rfl rfl ?_; by_cases g20 : r16 = 0
 .have hv := hv.1 g20; rw [decide_eq_true g20]; refine Jb 3 <| WL.len Jk rfl rfl <| Jb 3 <| Jl rfl rfl ?_; by_cases g21 : (x15.length : Int) = (4 : Int)
  .have hv := hv.1 g21; rw [decide_eq_true g21]; refine Jb 3 ?_; obtain ⟨o22, hv⟩ := hv; refine Jh Jk XE3 (hS.rd (i := 0) rfl) rfl rfl o22 rfl <| WL.take rfl <| Jn XU3 rfl rfl (JD (hS.rd (i := 0) rfl) o22) rfl <| Jb 3 <| Jl rfl rfl ?_; by_cases g23 : (gi x15 0) = 0
   .have hv := hv.1 g23; rw [decide_eq_true g23]; refine Jb 3 ?_; obtain ⟨o24, hv⟩ := hv; refine Jh Jk XE3 (hS.rd (i := 0) rfl) rfl rfl o24 rfl <| WL.take rfl <| Jn XU3 rfl rfl (JD (hS.rd (i := 0) rfl) o24) rfl <| Jb 3 <| Jl rfl rfl ?_; by_cases g25 : (gi x15 1) = 0
    .have hv := hv.1 g25; rw [decide_eq_true g25]; refine Jb 3 ?_; obtain ⟨o26, hv⟩ := hv; refine Jh Jk XE3 (hS.rd (i := 0) rfl) rfl rfl o26 rfl <| WL.take rfl <| Jn XU3 rfl rfl (JD (hS.rd (i := 0) rfl) o26) rfl <| Jb 3 <| Jl rfl rfl ?_; by_cases g27 : (gi x15 2) = 0
     .have hv := hv.1 g27; rw [decide_eq_true g27]; refine Jb 3 ?_; obtain ⟨o28, hv⟩ := hv; refine Jh Jk XE3 (hS.rd (i := 0) rfl) rfl rfl o28 rfl <| WL.take rfl <| Jn XU3 rfl rfl (JD (hS.rd (i := 0) rfl) o28) rfl <| Jb 5 <| W.ret <| ⟨_, rfl, Fin.nil ?_⟩
      exact (hS.pick [] rfl).fin rfl ⟨(decide ((gi x15 3) = 1)), rfl, rfl, hv⟩
     have hv := hv.2 g27; rw [decide_eq_false g27]; refine Jb 7 <| W.ret <| ⟨_, rfl, Fin.nil ?_⟩
     exact (hS.pick [] rfl).fin rfl ⟨false, rfl, rfl, hv⟩
    have hv := hv.2 g25; rw [decide_eq_false g25]; refine Jb 13 <| W.ret <| ⟨_, rfl, Fin.nil ?_⟩
    exact (hS.pick [] rfl).fin rfl ⟨false, rfl, rfl, hv⟩
   have hv := hv.2 g23; rw [decide_eq_false g23]; refine Jb 19 <| W.ret <| ⟨_, rfl, Fin.nil ?_⟩
   exact (hS.pick [] rfl).fin rfl ⟨false, rfl, rfl, hv⟩
  have hv := hv.2 g21; rw [decide_eq_false g21]; refine Jb 25 <| W.ret <| ⟨_, rfl, Fin.nil ?_⟩
  exact (hS.pick [] rfl).fin rfl ⟨false, rfl, rfl, hv⟩
 have hv := hv.2 g20; rw [decide_eq_false g20]; refine Jb 30 <| W.ret <| ⟨_, rfl, Fin.nil ?_⟩
 exact (hS.pick [] rfl).fin rfl ⟨false, rfl, rfl, hv⟩
end Go.Proofs.Ytjgpkljepgcekaa
namespace Go.Proofs.Ytjgpkljepgcekaa
open Go.RowKit
def Qv (a : LI) (b : LI) (Q : Int -> Prop) : Prop :=
  ∃ J11 : Prop, (∃ (I15 : Int -> Prop) (μ16 : Int -> Nat), I15 0 /\ ∀ (z14 : Int), (I15 z14 -> (((z14 < (a.length : Int)) -> (((z14 < (b.length : Int)) -> ((0 <= z14 /\ z14 < (a.length : Nat)) /\ ((0 <= z14 /\ z14 < (b.length : Nat)) /\ ((((gi a z14) < (gi b z14)) -> (Q (-1 : Int))) /\ (¬ ((gi a z14) < (gi b z14)) -> ((0 <= z14 /\ z14 < (a.length : Nat)) /\ ((0 <= z14 /\ z14 < (b.length : Nat)) /\ ((((gi b z14) < (gi a z14)) -> (Q 1)) /\ (¬ ((gi b z14) < (gi a z14)) -> ((I64 (z14 + 1)) /\ (I15 (z14 + 1) /\ μ16 (z14 + 1) < μ16 z14))))))))))) /\ (¬ (z14 < (b.length : Int)) -> J11))) /\ (¬ (z14 < (a.length : Int)) -> J11)))) /\ (J11 -> ((((a.length : Int) < (b.length : Int)) -> (Q (-1 : Int))) /\ (¬ ((a.length : Int) < (b.length : Int)) -> ((((b.length : Int) < (a.length : Int)) -> (Q 1)) /\ (¬ ((b.length : Int) < (a.length : Int)) -> (Q 0))))))
theorem Jan {w : World} {Q : Int -> Prop} {a : LI} {b : LI} {Ba : Nat} {Aa : Option Addr} {na ka : Nat} (ha : Rd Ba w 1 Aa na ka (is a)) {Bb : Nat} {Ab : Option Addr} {nb kb : Nat} (hb : Rd Bb w 1 Ab nb kb (is b)) (hv : Qv a b Q) :
   Calls Try.prog 47 #[.slice Aa na ka, .slice Ab nb kb] w <| Rt w fun v Qr => ∃ (r0 : Int), v = .int .i64 r0 /\ Qr = [] /\ Q r0 := by
 have hna := ha.ilen; subst hna; have hnb := hb.ilen; subst hnb; refine Ji <| Jg (vs := [nS Aa a ka, nS Ab b kb]) [4] XF47 rfl rfl rfl rfl ?_; have hS := Jo w; unfold Qv at hv; refine Jc 9 ?_; obtain ⟨J11, hv, hk51⟩ := hv; refine Yr (σ := Unit) (fun _ w1 => J11 /\ St TT w none w1 []) (fun _ => [(0, nS Aa a ka), (1, nS Ab b kb), (4, nI 0)]) ?_ ?_
 .refine W.block ?_; obtain ⟨I15, μ16, hv, hk47⟩ := hv; refine Ju (σ := Int) (fun z14 w1 => I15 z14 /\ St TT w none w1 []) (fun z14 => [(0, nS Aa a ka), (1, nS Ab b kb), (4, nI 0), (5, nI z14)]) (fun z14 => μ16 z14) (0 : Int) ⟨hv, hS⟩ ⟨rfl, rfl, rfl, rfl, trivial⟩ ?_; rintro z14 w17 ⟨hv, hS⟩; have hv := hk47 z14 hv; refine Jc 5 <| WL.len Jk rfl rfl <| QJ rfl rfl rfl <| Jl rfl rfl ?_; by_cases g18 : z14 < (a.length : Int)
  .have hv := hv.1 g18; rw [decide_eq_true g18]; refine Jb 5 <| WL.len Jk rfl rfl <| Jb 4 <| Je rfl (fun c19 => ?_) (fun c19 => ?_)
   .have hv := hv.1 (oT c19); refine Jf <| Js <| W.block <| Jc 2 ?_; obtain ⟨o23, hv⟩ := hv; obtain ⟨o28, hv⟩ := hv; refine JO 9 [⟨[], [0], true⟩, ⟨[], [5], true⟩, ⟨[0, 1], [], true⟩, ⟨[2], [], false⟩, ⟨[], [1], true⟩, ⟨[], [5], true⟩, ⟨[4, 5], [], true⟩, ⟨[6], [], false⟩, ⟨[3, 7], [], true⟩] [(18, nS Aa a ka), (19, nI z14), (20, .pointer (some ((JN Aa).add z14.toNat))), (21, nI (gi a z14)), (22, nS Ab b kb), (23, nI z14), (24, .pointer (some ((JN Ab).add z14.toNat))), (25, nI (gi b z14)), (26, .bool (decide ((gi a z14) < (gi b z14))))] Try.mixed (by kernel_rfl) rfl rfl ?_ ?_
    .refine ⟨oD, oD, fun _ _ _ => Jh Jk XE3 (hS.ro ha) rfl rfl o23 rfl <| Ja ⟨rfl, rfl⟩, og hS fun _ _ hS => Jn XU3 rfl rfl (JD (hS.ro ha) o23) rfl <| Ja ⟨rfl, Jj _⟩, oD, oD, fun _ _ _ => Jh Jk XE3 (hS.ro hb) rfl rfl o28 rfl <| Ja ⟨rfl, rfl⟩, og hS fun _ _ hS => Jn XU3 rfl rfl (JD (hS.ro hb) o28) rfl <| Ja ⟨rfl, Jj _⟩, oD, trivial⟩
    intro w31 hT; have hS := hS.grow hT; refine QK <| Je rfl (fun c32 => ?_) (fun c32 => ?_)
    .have hv := hv.1 (oT c32); refine Jc 4 <| W.ret <| ⟨_, rfl, Fin.nil ?_⟩
     exact (hS.pick [] rfl).fin rfl ⟨(-1 : Int), rfl, rfl, hv⟩
    have hv := hv.2 (oF c32); refine Jf <| Js ?_; obtain ⟨o36, hv⟩ := hv; obtain ⟨o41, hv⟩ := hv; refine JO 9 [⟨[], [0], true⟩, ⟨[], [5], true⟩, ⟨[0, 1], [], true⟩, ⟨[2], [], false⟩, ⟨[], [1], true⟩, ⟨[], [5], true⟩, ⟨[4, 5], [], true⟩, ⟨[6], [], false⟩, ⟨[3, 7], [], true⟩] [(27, nS Aa a ka), (28, nI z14), (29, .pointer (some ((JN Aa).add z14.toNat))), (30, nI (gi a z14)), (31, nS Ab b kb), (32, nI z14), (33, .pointer (some ((JN Ab).add z14.toNat))), (34, nI (gi b z14)), (35, .bool (decide ((gi b z14) < (gi a z14))))] Try.mixed (by kernel_rfl) rfl rfl ?_ ?_
    .refine ⟨oD, oD, fun _ _ _ => Jh Jk XE3 (hS.ro ha) rfl rfl o36 rfl <| Ja ⟨rfl, rfl⟩, og hS fun _ _ hS => Jn XU3 rfl rfl (JD (hS.ro ha) o36) rfl <| Ja ⟨rfl, Jj _⟩, oD, oD, fun _ _ _ => Jh Jk XE3 (hS.ro hb) rfl rfl o41 rfl <| Ja ⟨rfl, rfl⟩, og hS fun _ _ hS => Jn XU3 rfl rfl (JD (hS.ro hb) o41) rfl <| Ja ⟨rfl, Jj _⟩, oD, trivial⟩
    intro w44 hT; have hS := hS.grow hT; refine QK <| Je rfl (fun c45 => ?_) (fun c45 => ?_)
    .have hv := hv.1 (oT c45); refine Jc 4 <| W.ret <| ⟨_, rfl, Fin.nil ?_⟩
     exact (hS.pick [] rfl).fin rfl ⟨(1 : Int), rfl, rfl, hv⟩
    have hv := hv.2 (oF c45); refine Jf <| Jc 2 ?_; obtain ⟨o46, hv⟩ := hv; refine WL.add (r := (z14 + 1)) rfl rfl (wr o46) rfl <| Jb 2 ?_; exact ⟨(z14 + 1), sp rfl, hv.2, rfl, hv.1, hS⟩
   have hv := hv.2 (oF c19); refine Jq ?_; exact ⟨(), sp rfl, rfl, hv, hS⟩
  have hv := hv.2 g18; rw [decide_eq_false g18]; refine Jb 6 <| YG rfl <| Jq ?_; exact ⟨(), sp rfl, rfl, hv, hS⟩
 rintro _ w48 ⟨hv, hS⟩; have hv := hk51  hv; refine Jc 4 <| WL.len Jk rfl rfl <| Jl rfl rfl <| WL.len Jk rfl rfl <| Jb 2 <| Je rfl (fun c49 => ?_) (fun c49 => ?_)
 .have hv := hv.1 (oT c49); refine Jc 4 <| W.ret <| ⟨_, rfl, Fin.nil ?_⟩
  exact (hS.pick [] rfl).fin rfl ⟨(-1 : Int), rfl, rfl, hv⟩
 have hv := hv.2 (oF c49); refine Jf <| Jc 4 <| WL.len Jk rfl rfl <| Jl rfl rfl <| WL.len Jk rfl rfl <| Jb 2 <| Je rfl (fun c50 => ?_) (fun c50 => ?_)
 .have hv := hv.1 (oT c50); refine Jc 4 <| W.ret <| ⟨_, rfl, Fin.nil ?_⟩
  exact (hS.pick [] rfl).fin rfl ⟨(1 : Int), rfl, rfl, hv⟩
 have hv := hv.2 (oF c50); refine Jf <| Jc 4 <| W.ret <| ⟨_, rfl, Fin.nil ?_⟩
 exact (hS.pick [] rfl).fin rfl ⟨(0 : Int), rfl, rfl, hv⟩
def Qb (a : LL) (b : LL) (Q : Bool -> Prop) : Prop :=
  (((a.length : Int) ≠ (b.length : Int)) -> Q false) /\ (¬ ((a.length : Int) ≠ (b.length : Int)) -> (∃ (I15 : Int -> Prop) (μ16 : Int -> Nat), I15 0 /\ ∀ (z14 : Int), (I15 z14 -> (((z14 < (a.length : Int)) -> ((0 <= z14 /\ z14 < (a.length : Nat)) /\ ((0 <= z14 /\ z14 < (b.length : Nat)) /\ (∃ (r30 : Int), Qv (gl a z14) (gl b z14) (fun q => q = r30) /\ (((r30 ≠ 0) -> Q false) /\ (¬ (r30 ≠ 0) -> ((I64 (z14 + 1)) /\ (I15 (z14 + 1) /\ μ16 (z14 + 1) < μ16 z14)))))))) /\ (¬ (z14 < (a.length : Int)) -> Q true)))))
theorem Zp {w : World} {Q : Bool -> Prop} {a : LL} {b : LL} {Aa : Option Addr} {na ka : Nat} (ha : Rl w Aa na ka a) {Ab : Option Addr} {nb kb : Nat} (hb : Rl w Ab nb kb b) (hv : Qb a b Q) :
   Calls Try.prog 15 #[.slice Aa na ka, .slice Ab nb kb] w <| Rt w fun v Qr => ∃ (r0 : Bool), v = .bool r0 /\ Qr = [] /\ Q r0 := by
 have hna := ha.len; subst hna; obtain ⟨hsa, hHa⟩ := ha.heads; have hnb := hb.len; subst hnb; obtain ⟨hsb, hHb⟩ := hb.heads; refine Ji <| Jg (vs := [nS Aa a ka, nS Ab b kb]) [4] XF15 rfl rfl rfl rfl ?_; have hS := Jo w; unfold Qb at hv; refine Jc 8 <| WL.len ZS rfl rfl <| Jl rfl rfl <| WL.len ZS rfl rfl <| Jb 2 <| Je rfl (fun c11 => ?_) (fun c11 => ?_)
 .have hv := hv.1 (oT c11); refine Jc 4 <| W.ret <| ⟨_, rfl, Fin.nil ?_⟩
  exact (hS.pick [] rfl).fin rfl ⟨false, rfl, rfl, hv⟩
 have hv := hv.2 (oF c11); refine Jf <| Jc 5 <| W.block ?_; obtain ⟨I15, μ16, hv, hk37⟩ := hv; refine Ju (σ := Int) (fun z14 w1 => I15 z14 /\ St TT w none w1 []) (fun z14 => [(0, nS Aa a ka), (1, nS Ab b kb), (4, .bool false), (5, nI z14)]) (fun z14 => μ16 z14) (0 : Int) ⟨hv, hS⟩ ⟨rfl, rfl, rfl, rfl, trivial⟩ ?_; rintro z14 w17 ⟨hv, hS⟩; have hv := hk37 z14 hv; refine Jc 5 <| WL.len ZS rfl rfl <| Jb 2 <| Je rfl (fun c18 => ?_) (fun c18 => ?_)
 .have hv := hv.1 (oT c18); refine Jf <| Js <| W.block <| Js ?_; obtain ⟨o22, hv⟩ := hv; obtain ⟨o27, hv⟩ := hv; obtain ⟨r30, o32, hv⟩ := hv; refine JO 10 [⟨[], [0], true⟩, ⟨[], [5], true⟩, ⟨[0, 1], [], true⟩, ⟨[2], [], false⟩, ⟨[], [1], true⟩, ⟨[], [5], true⟩, ⟨[4, 5], [], true⟩, ⟨[6], [], false⟩, ⟨[3, 7], [], false⟩, ⟨[8], [], true⟩] [(17, nS Aa a ka), (18, nI z14), (19, .pointer (some ((JN Aa).add z14.toNat))), (20, .slice ((hsa z14.toNat).1) ((gl a z14).length) ((hsa z14.toNat).2)), (21, nS Ab b kb), (22, nI z14), (23, .pointer (some ((JN Ab).add z14.toNat))), (24, .slice ((hsb z14.toNat).1) ((gl b z14).length) ((hsb z14.toNat).2)), (25, nI r30), (26, .bool (decide (r30 ≠ 0)))] Try.mixed (by kernel_rfl) rfl rfl ?_ ?_
  .refine ⟨oD, oD, fun _ _ _ => Jab ZS YW hHa rfl rfl o22 rfl <| Ja ⟨rfl, rfl⟩, og hS fun _ _ hS => Jn Jk rfl rfl (hS.cell (RlH.cell hHa o22)) rfl <| Ja ⟨rfl, Jj _⟩, oD, oD, fun _ _ _ => Jab ZS YW hHb rfl rfl o27 rfl <| Ja ⟨rfl, rfl⟩, og hS fun _ _ hS => Jn Jk rfl rfl (hS.cell (RlH.cell hHb o27)) rfl <| Ja ⟨rfl, Jj _⟩, ?_, oD, trivial⟩; intro w29 hE RR; have hS := hS.grow (hE rfl); refine WL.call XF47 rfl XN47 rfl rfl (QB (Jan (hS.ro (Jfe hHa o22)) (hS.ro (Jfe hHb o27)) o32)) ?_; rintro _ w31 ⟨_, hGw31, hRww31, hNww31, r30q, rfl, rfl, he⟩; subst he; exact Ja ⟨rfl, hGw31⟩
  intro w34 hT; have hS := hS.grow hT; refine QK <| Je rfl (fun c35 => ?_) (fun c35 => ?_)
  .have hv := hv.1 (oT c35); refine Jc 4 <| W.ret <| ⟨_, rfl, Fin.nil ?_⟩
   exact (hS.pick [] rfl).fin rfl ⟨false, rfl, rfl, hv⟩
  have hv := hv.2 (oF c35); refine Jf <| Jc 2 ?_; obtain ⟨o36, hv⟩ := hv; refine WL.add (r := (z14 + 1)) rfl rfl (wr o36) rfl <| Jb 2 ?_; exact ⟨(z14 + 1), sp rfl, hv.2, rfl, hv.1, hS⟩
 have hv := hv.2 (oF c18); refine Jq <| Jc 4 <| W.ret <| ⟨_, rfl, Fin.nil ?_⟩
 exact (hS.pick [] rfl).fin rfl ⟨true, rfl, rfl, hv⟩
def Q9 (Pf : Int) (Mf : Int) (mf : LI) (r : Int) (Q : LL × Int -> Prop) : Prop :=
  YJ Pf Mf mf (fun r14 => ((r14 ≠ 0) -> (Q (([] : LL), (1 : Int)))) /\ (¬ (r14 ≠ 0) -> (((r < 1) -> (Q (([] : LL), (6 : Int)))) /\ (¬ (r < 1) -> (QX Pf Mf mf (fun r20 => ∃ (I30 : Int -> Int -> Int -> Prop) (μ31 : Int -> Int -> Int -> Nat), I30 0 (1 : Int) (0 : Int) /\ ∀ (z27 : Int) (z28 : Int) (z29 : Int), (I30 z27 z28 z29 -> (((z29 < r) -> ((I64 (z27 + z28)) /\ ((((64 : Int) < (z27 + z28)) -> (Q (([] : LL), (4 : Int)))) /\ (¬ ((64 : Int) < (z27 + z28)) -> ((I64 (z28 * r20)) /\ ((I64 (z29 + 1)) /\ (I30 (z27 + z28) (z28 * r20) (z29 + 1) /\ μ31 (z27 + z28) (z28 * r20) (z29 + 1) < μ31 z27 z28 z29))))))) /\ (¬ (z29 < r) -> (∃ (I57 : LL -> Int -> Prop) (μ58 : LL -> Int -> Nat), I57 ([] : LL) (1 : Int) /\ ∀ (x52 : LL) (z56 : Int), (I57 x52 z56 -> (((z56 < z28) -> (∃ J72 : LL -> Int -> Int -> Int -> Int -> Bool -> Bool -> Bool -> Prop, ((0 <= r /\ r * 8 <= 281474976710656 /\ r <= 281474976710656) /\ ((I64 (r - 1)) /\ (∃ (I87 : LI -> Int -> Int -> Prop) (μ88 : LI -> Int -> Int -> Nat), I87 (List.replicate r.toNat (0 : Int)) z56 (r - 1) /\ ∀ (x84 : LI) (z85 : Int) (z86 : Int), (I87 x84 z85 z86 -> ((((0 : Int) <= z86) -> ((r20 ≠ 0) /\ ((0 <= z86 /\ z86 < (r.toNat : Nat)) /\ ((r20 ≠ 0 /\ I64 (z85.tdiv r20)) /\ ((I64 (z86 - 1)) /\ (I87 (si x84 z86 (z85.tmod r20)) (z85.tdiv r20) (z86 - 1) /\ μ88 (si x84 z86 (z85.tmod r20)) (z85.tdiv r20) (z86 - 1) < μ88 x84 z85 z86)))))) /\ (¬ ((0 : Int) <= z86) -> ((I64 (r - 1)) /\ (∃ (I103 : Int -> Int -> Prop) (μ104 : Int -> Int -> Nat), I103 0 (r - 1) /\ ∀ (z101 : Int) (z102 : Int), (I103 z101 z102 -> ((((0 : Int) <= z102) -> (∃ J108 : Int -> Prop, ((0 <= z102 /\ z102 < (r.toNat : Nat)) /\ ((((gi x84 z102) ≠ (0 : Int)) -> ((0 <= z102 /\ z102 < (r.toNat : Nat)) /\ (J108 (gi x84 z102)))) /\ (¬ ((gi x84 z102) ≠ (0 : Int)) -> J108 z101))) /\ ∀ (z107 : Int), (J108 z107 -> ((I64 (z102 - 1)) /\ (I103 z107 (z102 - 1) /\ μ104 z107 (z102 - 1) < μ104 z101 z102))))) /\ (¬ ((0 : Int) <= z102) -> (((z101 = 1) -> ((((x52.length : Nat) + (1 : Nat) : Int) * 24 <= 140737488355328) /\ (J72 (x52 ++ [x84]) z85 z86 z101 z102 (decide ((0 : Int) <= z86)) (decide ((0 : Int) <= z102)) (decide (z101 = 1))))) /\ (¬ (z101 = 1) -> (J72 x52 z85 z86 z101 z102 (decide ((0 : Int) <= z86)) (decide ((0 : Int) <= z102)) (decide (z101 = 1)))))))))))))))) /\ ∀ (x61 : LL) (z65 : Int) (z66 : Int) (z67 : Int) (z68 : Int) (b69 : Bool) (b70 : Bool) (b71 : Bool), (J72 x61 z65 z66 z67 z68 b69 b70 b71 -> ((I64 (z56 + 1)) /\ (I57 x61 (z56 + 1) /\ μ58 x61 (z56 + 1) < μ58 x52 z56))))) /\ (¬ (z56 < z28) -> (Q (x52, (0 : Int))))))))))))))))
theorem Jc7 {w : World} {Q : LL × Int -> Prop} {Pf : Int} {Mf : Int} {mf : LI} {r : Int} {Bf : Nat} {Af : Option Addr} {nf kf : Nat} (hf : Rd Bf w 1 Af nf kf (is mf)) (hv : Q9 Pf Mf mf r Q) :
   Calls Try.prog 14 #[.agg #[.int .i64 Pf, .int .i64 Mf, .slice Af nf kf], .int .i64 r] w <| Rt w fun v Qr => ∃ (r0 : LL) (r1 : Int) (A0 : Option Addr) (k0 : Nat) (hs0 : Hs), v = .tuple #[.slice A0 r0.length k0, .int .i64 r1] /\ Qr = [mx 22 3 A0 r0.length k0 hs0 r0] /\ Q (r0, r1) := by
 have hnf := hf.ilen; subst hnf; refine Ji <| Jg (vs := [.agg #[nI Pf, nI Mf, nS Af mf kf], nI r]) [4, 5] XF14 rfl rfl rfl rfl ?_; have hS := Jo w; unfold Q9 at hv; refine Jc 2 <| JH (z := 3) (cs := [nI Pf, nI Mf, nS Af mf kf]) hS rfl rfl rfl rfl ?_; intro g11 w12 hS; refine Jb 3 <| Jc 3 <| J6 0 Qn Qy hS rfl ⟨rfl, rfl⟩ rfl <| SL.call hS (Jfo (hS.ro hf) hv) XF46 rfl XN46 rfl rfl ?_; rintro _ _ w13 ⟨r14, rfl, rfl, hv⟩ hGw13 hS; have hS := hS.n0; refine Jb 2 <| Je rfl (fun c15 => ?_) (fun c15 => ?_)
 .have hv := hv.1 (oT c15); refine Jc 5 <| W.ret ?_; have hS := hS.mxNil 22 3; have hm0 := hS.mxlen (i := 0) rfl; have hS := hS.relenMx (i := 0) rfl hm0.symm
  change St _ _ _ _ [_, _] at hS
  refine ⟨_, rfl, Fin.nil ?_⟩; exact ⟨_, hS.ext, (hS.pick [0] rfl).rows, JP (hS.pick [0] rfl).rows rfl, ⟨([] : LL), (1 : Int), none, 0, (fun _ => (none, 0)), (by (try unfold nS); first | (rw [show (Value.slice none 0 0) = Value.slice none (([] : LL)).length 0 from sm0 hm0.symm]; done) | (rw [show (Value.slice none 0 0) = Value.slice none (([] : LL)).length 0 from sm0 hm0.symm]; rfl)), rfl, hv⟩⟩
 have hv := hv.2 (oF c15); refine Jf <| Jc 6 <| Je rfl (fun c17 => ?_) (fun c17 => ?_)
 .have hv := hv.1 (oT c17); refine Jc 5 <| W.ret ?_; have hS := hS.mxNil 22 3; have hm0 := hS.mxlen (i := 0) rfl; have hS := hS.relenMx (i := 0) rfl hm0.symm
  change St _ _ _ _ [_, _] at hS
  refine ⟨_, rfl, Fin.nil ?_⟩; exact ⟨_, hS.ext, (hS.pick [0] rfl).rows, JP (hS.pick [0] rfl).rows rfl, ⟨([] : LL), (6 : Int), none, 0, (fun _ => (none, 0)), (by (try unfold nS); first | (rw [show (Value.slice none 0 0) = Value.slice none (([] : LL)).length 0 from sm0 hm0.symm]; done) | (rw [show (Value.slice none 0 0) = Value.slice none (([] : LL)).length 0 from sm0 hm0.symm]; rfl)), rfl, hv⟩⟩
 have hv := hv.2 (oF c17); refine Jf <| Jc 2 <| J6 0 Qn Qy hS rfl ⟨rfl, rfl⟩ rfl <| SL.call hS (Z1 (hS.ro hf) hv) XF20 rfl XN20 rfl rfl ?_; rintro _ _ w19 ⟨r20, rfl, rfl, hv⟩ hGw19 hS; have hS := hS.n0; refine Jb 2 <| Jc 13 <| W.block ?_; obtain ⟨I30, μ31, hv, hk129⟩ := hv; refine Ju (σ := Int × Int × Int) (fun q w1 => match q with | (z27, z28, z29) => I30 z27 z28 z29 /\ St TT w none w1 [.row 24 3 (nA g11) 1 1 [nI Pf, nI Mf, nS Af mf kf]]) (fun (z27, z28, z29) => [(1, nI r), (4, .slice none 0 0), (5, nI 0), (6, nI r20), (7, nI z27), (8, nI z28), (9, nI z29)]) (fun (z27, z28, z29) => μ31 z27 z28 z29) ((0 : Int), (1 : Int), (0 : Int)) ⟨hv, hS⟩ ⟨rfl, rfl, rfl, rfl, rfl, rfl, rfl, trivial⟩ ?_; rintro ⟨z27, z28, z29⟩ w32 ⟨hv, hS⟩; have hv := hk129 z27 z28 z29 hv; refine Jc 7 <| Je rfl (fun c33 => ?_) (fun c33 => ?_)
 .have hv := hv.1 (oT c33); refine Jf <| Js <| W.block <| Jc 4 ?_; obtain ⟨o34, hv⟩ := hv; refine WL.add (r := (z27 + z28)) rfl rfl (wr o34) rfl <| Jb 2 <| Jc 6 <| Je rfl (fun c35 => ?_) (fun c35 => ?_)
  .have hv := hv.1 (oT c35); refine Jc 5 <| W.ret ?_; have hS := hS.mxNil 22 3; have hm0 := hS.mxlen (i := 0) rfl; have hS := hS.relenMx (i := 0) rfl hm0.symm
   change St _ _ _ _ [_, _] at hS
   refine ⟨_, rfl, Fin.nil ?_⟩; exact ⟨_, hS.ext, (hS.pick [0] rfl).rows, JP (hS.pick [0] rfl).rows rfl, ⟨([] : LL), (4 : Int), none, 0, (fun _ => (none, 0)), (by (try unfold nS); first | (rw [show (Value.slice none 0 0) = Value.slice none (([] : LL)).length 0 from sm0 hm0.symm]; done) | (rw [show (Value.slice none 0 0) = Value.slice none (([] : LL)).length 0 from sm0 hm0.symm]; rfl)), rfl, hv⟩⟩
  have hv := hv.2 (oF c35); refine Jf <| Jc 3 ?_; obtain ⟨o37, hv⟩ := hv; refine WL.mul (r := (z28 * r20)) rfl rfl (wr o37) rfl <| Jb 2 <| Jc 2 ?_; obtain ⟨o38, hv⟩ := hv; refine WL.add (r := (z29 + 1)) rfl rfl (wr o38) rfl <| Jb 2 ?_; exact ⟨((z27 + z28), (z28 * r20), (z29 + 1)), sp rfl, hv.2, rfl, hv.1, hS⟩
 have hv := hv.2 (oF c33); refine Jq <| Jc 2 <| Qd (vs := []) hS ZS YW rfl rfl rfl rfl (by simp [Value.oneCell']) rfl ?_; intro A39 w40 hS; have hS := Jis (L := []) (eI := 3) [] [] (by simp [Jy, Jfy]) (by simp [inr, Jfy]) hS
 change St _ _ _ _ [_, _] at hS
 refine Jb 2 <| Jc 5 <| W.block ?_; obtain ⟨I57, μ58, hv, hk128⟩ := hv; have hm0 : 0 = ([] : LL).length := (hS.mxlen (i := 0) rfl).symm; have hS := hS.relenMx (i := 0) rfl hm0
 change St _ _ _ _ [_, _] at hS
 refine Ju (σ := LL × Int × Option Addr × Nat × Hs) (fun q w1 => match q with | (x52, z56, A53, k54, hs55) => I57 x52 z56 /\ St TT w none w1 [mx 22 3 A53 x52.length k54 hs55 x52, .row 24 3 (nA g11) 1 1 [nI Pf, nI Mf, nS Af mf kf]]) (fun (x52, z56, A53, k54, hs55) => [(1, nI r), (4, .slice none 0 0), (5, nI 0), (6, nI r20), (8, nI z28), (10, nS A53 x52 k54), (11, nI z56)]) (fun (x52, z56, A53, k54, hs55) => μ58 x52 z56) (([] : LL), (1 : Int), A39, 0, (Jfy [])) ⟨hv, hS⟩ ⟨rfl, rfl, rfl, rfl, rfl, (sm (by first | rfl | assumption | omega)), rfl, trivial⟩ ?_; rintro ⟨x52, z56, A53, k54, hs55⟩ w59 ⟨hv, hS⟩; have hv := hk128 x52 z56 hv; refine Jc 7 <| Je rfl (fun c60 => ?_) (fun c60 => ?_)
 .have hv := hv.1 (oT c60); refine Jf <| Js ?_; obtain ⟨J72, hv, hk127⟩ := hv; refine Yr (σ := LL × Int × Int × Int × Int × Bool × Bool × Bool × Option Addr × Nat × Hs) (fun q w1 => match q with | (x61, z65, z66, z67, z68, b69, b70, b71, A62, k63, hs64) => J72 x61 z65 z66 z67 z68 b69 b70 b71 /\ St TT w none w1 [mx 22 3 A62 x61.length k63 hs64 x61, .row 24 3 (nA g11) 1 1 [nI Pf, nI Mf, nS Af mf kf]]) (fun (x61, z65, z66, z67, z68, b69, b70, b71, A62, k63, hs64) => [(1, nI r), (4, .slice none 0 0), (5, nI 0), (6, nI r20), (8, nI z28), (10, nS A62 x61 k63), (11, nI z56), (13, nI z65), (14, nI z66), (15, nI z67), (16, nI z68), (40, .bool (decide (z56 < z28))), (49, .bool b69), (64, .bool b70), (77, .bool b71)]) ?_ ?_
  .refine W.block ?_; refine Jc 3 ?_; obtain ⟨o73, hv⟩ := hv; refine Qx (J := r) hS Jk XE3 rfl rfl o73 (Qs _) rfl ?_; intro A74 w75 hS; refine Jb 2 <| Jc 9 ?_; obtain ⟨o77, hv⟩ := hv; refine WL.sub (r := (r - 1)) rfl rfl (wr o77) rfl <| Jb 2 <| W.block ?_; obtain ⟨I87, μ88, hv, hk124⟩ := hv; refine Ju (σ := LI × Int × Int) (fun q w1 => match q with | (x84, z85, z86) => I87 x84 z85 z86 /\ St TT w none w1 [.row 3 1 A74 r.toNat r.toNat (is x84), mx 22 3 A53 x52.length k54 hs55 x52, .row 24 3 (nA g11) 1 1 [nI Pf, nI Mf, nS Af mf kf]]) (fun (x84, z85, z86) => [(1, nI r), (4, .slice none 0 0), (5, nI 0), (6, nI r20), (8, nI z28), (10, nS A53 x52 k54), (11, nI z56), (12, .slice A74 r.toNat r.toNat), (13, nI z85), (14, nI z86), (40, .bool (decide (z56 < z28)))]) (fun (x84, z85, z86) => μ88 x84 z85 z86) (List.replicate r.toNat (0 : Int), z56, (r - 1)) ⟨hv, hS⟩ ⟨rfl, rfl, rfl, rfl, rfl, rfl, rfl, rfl, rfl, rfl, rfl, trivial⟩ ?_; rintro ⟨x84, z85, z86⟩ w89 ⟨hv, hS⟩; have hv := hk124 x84 z85 z86 hv; refine Jc 6 <| Je rfl (fun c90 => ?_) (fun c90 => ?_)
   .have hv := hv.1 (oT c90); refine Jf <| Js <| W.block <| Jc 6 ?_; obtain ⟨o91, hv⟩ := hv; refine Qi (r := (z85.tmod r20)) rfl rfl o91 rfl rfl ?_; obtain ⟨o92, hv⟩ := hv; refine Jh Jk XE3 (hS.rd (i := 0) rfl) rfl rfl o92 rfl <| Jw (cs' := is (si x84 z86 (z85.tmod r20))) 0 z86.toNat hS rfl XE3 rfl rfl rfl (Qt (hS.rd (i := 0) rfl) o92) (J2 _ _ _) ?_; intro w93 hS; refine Ja <| Jc 3 ?_; obtain ⟨o94, hv⟩ := hv; refine ZH (r := (z85.tdiv r20)) rfl rfl o94.1 (wr o94.2) rfl <| Jb 2 <| Jc 2 ?_; obtain ⟨o95, hv⟩ := hv; refine WL.sub (r := (z86 - 1)) rfl rfl (wr o95) rfl <| Jb 2 ?_; exact ⟨(si x84 z86 (z85.tmod r20), (z85.tdiv r20), (z86 - 1)), sp rfl, hv.2, rfl, hv.1, hS⟩
   have hv := hv.2 (oF c90); refine Jq <| Jc 8 ?_; obtain ⟨o96, hv⟩ := hv; refine WL.sub (r := (r - 1)) rfl rfl (wr o96) rfl <| Jb 2 <| W.block ?_; obtain ⟨I103, μ104, hv, hk123⟩ := hv; refine Ju (σ := Int × Int) (fun q w1 => match q with | (z101, z102) => I103 z101 z102 /\ St TT w none w1 [.row 3 1 A74 r.toNat r.toNat (is x84), mx 22 3 A53 x52.length k54 hs55 x52, .row 24 3 (nA g11) 1 1 [nI Pf, nI Mf, nS Af mf kf]]) (fun (z101, z102) => [(1, nI r), (4, .slice none 0 0), (5, nI 0), (6, nI r20), (8, nI z28), (10, nS A53 x52 k54), (11, nI z56), (12, .slice A74 r.toNat r.toNat), (13, nI z85), (14, nI z86), (15, nI z101), (16, nI z102), (40, .bool (decide (z56 < z28))), (49, .bool (decide ((0 : Int) <= z86)))]) (fun (z101, z102) => μ104 z101 z102) ((0 : Int), (r - 1)) ⟨hv, hS⟩ ⟨rfl, rfl, rfl, rfl, rfl, rfl, rfl, rfl, rfl, rfl, rfl, rfl, rfl, rfl, trivial⟩ ?_; rintro ⟨z101, z102⟩ w105 ⟨hv, hS⟩; have hv := hk123 z101 z102 hv; refine Jc 6 <| Je rfl (fun c106 => ?_) (fun c106 => ?_)
   .have hv := hv.1 (oT c106); refine Jf <| Js ?_; obtain ⟨J108, hv, hk114⟩ := hv; refine Yr (σ := Int) (fun z107 w1 => J108 z107 /\ St TT w none w1 [.row 3 1 A74 r.toNat r.toNat (is x84), mx 22 3 A53 x52.length k54 hs55 x52, .row 24 3 (nA g11) 1 1 [nI Pf, nI Mf, nS Af mf kf]]) (fun z107 => [(1, nI r), (4, .slice none 0 0), (5, nI 0), (6, nI r20), (8, nI z28), (10, nS A53 x52 k54), (11, nI z56), (12, .slice A74 r.toNat r.toNat), (13, nI z85), (14, nI z86), (15, nI z107), (16, nI z102), (40, .bool (decide (z56 < z28))), (49, .bool (decide ((0 : Int) <= z86))), (64, .bool (decide ((0 : Int) <= z102))), (71, .bool (decide ((gi x84 z102) ≠ (0 : Int))))]) ?_ ?_
    .refine W.block ?_; refine Jc 4 ?_; obtain ⟨o109, hv⟩ := hv; refine Jh Jk XE3 (hS.rd (i := 0) rfl) rfl rfl o109 rfl <| Jn XU3 rfl rfl (JD (hS.rd (i := 0) rfl) o109) rfl <| Jb 2 <| Je rfl (fun c110 => ?_) (fun c110 => ?_)
     .have hv := hv.1 (oT c110); refine Jc 3 ?_; obtain ⟨o111, hv⟩ := hv; refine Jh Jk XE3 (hS.rd (i := 0) rfl) rfl rfl o111 rfl <| Jn XU3 rfl rfl (JD (hS.rd (i := 0) rfl) o111) rfl <| Jb 2 ?_; exact ⟨(gi x84 z102), sp rfl, rfl, hv, hS⟩
     have hv := hv.2 (oF c110); refine Jf ?_; exact ⟨z101, sp rfl, rfl, hv, hS⟩
    rintro z107 w112 ⟨hv, hS⟩; have hv := hk114 z107 hv; refine Jc 2 ?_; obtain ⟨o113, hv⟩ := hv; refine WL.sub (r := (z102 - 1)) rfl rfl (wr o113) rfl <| Jb 2 ?_; exact ⟨(z107, (z102 - 1)), sp rfl, hv.2, rfl, hv.1, hS⟩
   have hv := hv.2 (oF c106); refine Jq <| Jc 5 <| Je rfl (fun c115 => ?_) (fun c115 => ?_)
   .have hv := hv.1 (oT c115); refine Jc 3 <| Qd (vs := [.slice A74 r.toNat r.toNat]) hS ZS YW rfl rfl rfl rfl (by simp [Value.oneCell']) rfl ?_; intro A116 w117 hS; obtain ⟨o119, hv⟩ := hv; have hS := hS.pick [2, 0, 1, 3] rfl; have hS := hS.pick [1, 2, 0, 3] rfl; have hS := Jco (hS.rd (i := 1) rfl).ilen.symm hS
    change St _ _ _ _ [_, _, _] at hS
    refine Y6 hS ZS YW rfl rfl (apk o119).1 (apk o119).2 rfl ?_; intro A120 k121 w122 hS; refine Jb 2 ?_; exact ⟨(x52 ++ [x84], z85, z86, z101, z102, (decide ((0 : Int) <= z86)), (decide ((0 : Int) <= z102)), (decide (z101 = 1)), A120, k121, (Y8 x52.length hs55 (fun _ => (A74, r.toNat)))), sp rfl, rfl, hv, hS⟩
   have hv := hv.2 (oF c115); refine Jf ?_; have hS := hS.pick [1, 2] rfl; exact ⟨(x52, z85, z86, z101, z102, (decide ((0 : Int) <= z86)), (decide ((0 : Int) <= z102)), (decide (z101 = 1)), A53, k54, hs55), sp rfl, rfl, hv, hS⟩
  rintro ⟨x61, z65, z66, z67, z68, b69, b70, b71, A62, k63, hs64⟩ w125 ⟨hv, hS⟩; have hv := hk127 x61 z65 z66 z67 z68 b69 b70 b71 hv; refine Jc 2 ?_; obtain ⟨o126, hv⟩ := hv; refine WL.add (r := (z56 + 1)) rfl rfl (wr o126) rfl <| Jb 2 ?_; exact ⟨(x61, (z56 + 1), A62, k63, hs64), sp rfl, hv.2, rfl, hv.1, hS⟩
 have hv := hv.2 (oF c60); refine Jq <| Jc 6 <| W.ret <| ⟨_, rfl, Fin.nil ?_⟩
 exact (hS.pick [0] rfl).fin rfl ⟨x52, (0 : Int), A53, k54, hs55, rfl, rfl, hv⟩
end Go.Proofs.Ytjgpkljepgcekaa
namespace Go.Proofs.Ytjgpkljepgcekaa
open Go.RowKit
def YY (Pf : Int) (Mf : Int) (mf : LI) (r : Int) (Q : Bool -> Prop) : Prop :=
  YN Pf Mf mf r (fun (x14, r15) => Q9 Pf Mf mf r (fun (x21, r22) => ((r15 = r22) -> (Qb x14 x21 (fun r29 => ((r29 = true) -> (Ye  (fun r32 => Q r32))) /\ (r29 = false -> Q false)))) /\ (¬ (r15 = r22) -> Q false)))
theorem Jdd {w : World} {Q : Bool -> Prop} {Pf : Int} {Mf : Int} {mf : LI} {r : Int} {Bf : Nat} {Af : Option Addr} {nf kf : Nat} (hf : Rd Bf w 1 Af nf kf (is mf)) (hv : YY Pf Mf mf r Q) :
   Calls Try.prog 3 #[.agg #[.int .i64 Pf, .int .i64 Mf, .slice Af nf kf], .int .i64 r] w <| Rt w fun v Qr => ∃ (r0 : Bool), v = .bool r0 /\ Qr = [] /\ Q r0 := by
 have hnf := hf.ilen; subst hnf; refine Ji <| Jg (vs := [.agg #[nI Pf, nI Mf, nS Af mf kf], nI r]) [4] XF3 rfl rfl rfl rfl ?_; have hS := Jo w; unfold YY at hv; refine Jc 2 <| JH (z := 3) (cs := [nI Pf, nI Mf, nS Af mf kf]) hS rfl rfl rfl rfl ?_; intro g11 w12 hS; refine Jb 2 <| Jc 2 <| J6 0 Qn Qy hS rfl ⟨rfl, rfl⟩ rfl <| Jl rfl rfl <| SL.call hS (Jfs (hS.ro hf) hv) XF13 rfl XN13 rfl rfl ?_; rintro _ _ w13 ⟨x14, r15, A16, k17, hs18, rfl, rfl, hv⟩ hGw13 hS; have hS := hS.n1; refine Jb 6 <| Jc 2 <| J6 1 Qn Qy hS rfl ⟨rfl, rfl⟩ rfl <| Jl rfl rfl <| SL.call hS (Jc7 (hS.ro hf) hv) XF14 rfl XN14 rfl rfl ?_; rintro _ _ w20 ⟨x21, r22, A23, k24, hs25, rfl, rfl, hv⟩ hGw20 hS; have hS := hS.n1; refine Jb 6 <| Jc 5 <| Jl rfl rfl ?_; by_cases g27 : r15 = r22
 .have hv := hv.1 g27; rw [decide_eq_true g27]; refine Jb 5 <| SL.call hS (Zp (hS.rl (i := 1) rfl) (hS.rl (i := 0) rfl) hv) XF15 rfl XN15 rfl rfl ?_; rintro _ _ w28 ⟨r29, rfl, rfl, hv⟩ hGw28 hS; have hS := hS.n0; refine WL.pick rfl rfl rfl <| Jl rfl rfl ?_; cases g30 : r29
  .have hv := hv.2 g30; refine Jb 4 <| W.ret <| ⟨_, rfl, Fin.nil ?_⟩
   exact (hS.pick [] rfl).fin rfl ⟨false, rfl, rfl, hv⟩
  have hv := hv.1 g30; refine WL.take rfl <| SL.call hS (Jdc  hv) XF16 rfl XN16 rfl rfl ?_; rintro _ _ w31 ⟨r32, rfl, rfl, hv⟩ hGw31 hS; have hS := hS.n0; refine Jb 3 <| W.ret <| ⟨_, rfl, Fin.nil ?_⟩
  exact (hS.pick [] rfl).fin rfl ⟨r32, rfl, rfl, hv⟩
 have hv := hv.2 g27; rw [decide_eq_false g27]; refine Jb 9 <| W.ret <| ⟨_, rfl, Fin.nil ?_⟩
 exact (hS.pick [] rfl).fin rfl ⟨false, rfl, rfl, hv⟩
end Go.Proofs.Ytjgpkljepgcekaa
namespace Go.Proofs.Ytjgpkljepgcekaa
open Go.RowKit
/-! ### append of zeros onto nil; lists joined -/
section
variable {P : Program} {n : Nat} {ro : Option Nat} {df : List Deferred} {N : JB} {L : Fr} {w w0 : World} {ops : Array Oper} {rest : List Oper}
variable {d : Nat} {ty : TypeId} {pos : String} {af : Array Edge} {X : World -> Prop} {mr : Option Nat} {R : List Rw}
end
end Go.Proofs.Ytjgpkljepgcekaa
namespace Go.Proofs.Ytjgpkljepgcekaa
open Go.RowKit
end Go.Proofs.Ytjgpkljepgcekaa
namespace Go.Proofs.Ytjgpkljepgcekaa
open Go.RowKit
end Go.Proofs.Ytjgpkljepgcekaa
namespace Go.Proofs.Ytjgpkljepgcekaa
open Go.RowKit
end Go.Proofs.Ytjgpkljepgcekaa
namespace Go.Proofs.Ytjgpkljepgcekaa
abbrev Vec := Nat -> Int
def tX (m : Nat) (c : Vec) (v : Vec) : Vec := fun i => if i < m then (if i = 0 then 0 else v (i - 1)) - c i * v (m - 1) else 0
def JA (u v : Vec) : Vec := fun i => u i + v i
def vsm (a : Int) (v : Vec) : Vec := fun i => a * v i
def vz : Vec := fun _ => 0
def e0 : Vec := fun i => if i = 0 then 1 else 0
def tXn (m : Nat) (c : Vec) : Nat -> Vec -> Vec
  | 0, v => v
  | n + 1, v => tX m c (tXn m c n v)
def opr (m : Nat) (c b : Vec) : Nat -> Vec -> Vec
  | 0, _ => vz
  | n + 1, v => JA (opr m c b n v) (vsm (b n) (tXn m c n v))
def Qj (m : Nat) (c a b : Vec) : Vec := opr m c b m a
section
variable (m : Nat) (c : Vec)
theorem tX_add (u v : Vec) : tX m c (JA u v) = JA (tX m c u) (tX m c v) := by
 funext i; simp only [tX, JA]; split
 .split <;> grind
 .rfl
theorem tX_sm (a : Int) (v : Vec) : tX m c (vsm a v) = vsm a (tX m c v) := by
 funext i; simp only [tX, vsm]; split
 .split <;> grind
 .grind
theorem tX_z : tX m c vz = vz := by funext i; simp [tX, vz]
theorem Ze (u : Vec) : JA u vz = u := by funext i; simp [JA, vz]
theorem z_vadd (u : Vec) : JA vz u = u := by funext i; simp [JA, vz]
theorem ZV (u v : Vec) : JA u v = JA v u := by funext i; simp only [JA]; omega
theorem Zf (u v w : Vec) : JA (JA u v) w = JA u (JA v w) := by funext i; simp only [JA]; omega
theorem Jec (a : Int) (u v : Vec) : vsm a (JA u v) = JA (vsm a u) (vsm a v) := by funext i; simp only [JA, vsm]; grind
theorem vsm_sm (a b : Int) (u : Vec) : vsm a (vsm b u) = vsm (a * b) u := by funext i; simp only [vsm]; grind
theorem vsm_z (a : Int) : vsm a vz = vz := by funext i; simp [vsm, vz]
theorem Jah (n : Nat) (u v : Vec) : tXn m c n (JA u v) = JA (tXn m c n u) (tXn m c n v) := by
 induction n with
 | zero => rfl
 | succ n ih => simp only [tXn, ih, tX_add]
theorem Jcx (n : Nat) (a : Int) (v : Vec) : tXn m c n (vsm a v) = vsm a (tXn m c n v) := by
 induction n with
 | zero => rfl
 | succ n ih => simp only [tXn, ih, tX_sm]
theorem Jg6 (n : Nat) : tXn m c n vz = vz := by
 induction n with
 | zero => rfl
 | succ n ih => simp only [tXn, ih, tX_z]
theorem Jg7 (n : Nat) (v : Vec) : tXn m c n (tX m c v) = tX m c (tXn m c n v) := by
 induction n with
 | zero => rfl
 | succ n ih => simp only [tXn, ih]
theorem Ji2 (n k : Nat) (v : Vec) : tXn m c n (tXn m c k v) = tXn m c (n + k) v := by
 induction n with
 | zero => simp [tXn]
 | succ n ih => rw [Nat.succ_add]; simp only [tXn, ih]
variable (b : Vec)
theorem Jes (n : Nat) (u v : Vec) : opr m c b n (JA u v) = JA (opr m c b n u) (opr m c b n v) := by
 induction n with
 | zero => simp [opr, Ze]
 | succ n ih => simp only [opr, ih, Jah, Jec]; funext i; simp only [JA]; omega
theorem Jhm (n : Nat) (a : Int) (v : Vec) : opr m c b n (vsm a v) = vsm a (opr m c b n v) := by
 induction n with
 | zero => simp [opr, vsm_z]
 | succ n ih => simp only [opr, ih, Jcx, Jec, vsm_sm]; rw [Int.mul_comm (b n) a]
theorem opr_z (n : Nat) : opr m c b n vz = vz := by
 induction n with
 | zero => rfl
 | succ n ih => simp only [opr, ih, Jg6, vsm_z, Ze]
theorem Jer (n k : Nat) (v : Vec) : opr m c b n (tXn m c k v) = tXn m c k (opr m c b n v) := by
 induction n with
 | zero => simp [opr, Jg6]
 | succ n ih => simp only [opr, ih, Jah, Jcx, Ji2]; rw [Nat.add_comm n k]
theorem Jbl (d : Vec) (n k : Nat) (v : Vec) : opr m c b n (opr m c d k v) = opr m c d k (opr m c b n v) := by
 induction n with
 | zero => simp only [opr, opr_z]
 | succ n ih => simp only [opr, ih, Jes, Jhm, Jer]
theorem Jhl (d : Vec) (n : Nat) (v : Vec) : opr m c (JA b d) n v = JA (opr m c b n v) (opr m c d n v) := by
 induction n with
 | zero => simp [opr, Ze]
 | succ n ih => simp only [opr, ih]; funext i; simp only [JA, vsm]; grind
end
def vei (k : Nat) : Vec := fun i => if i = k then 1 else 0
theorem Jg8 {m : Nat} {c : Vec} : ∀ {k : Nat}, k < m -> tXn m c k e0 = vei k
 | 0, _ => rfl
 | k + 1, h => by
  have ih : tXn m c k e0 = vei k := Jg8 (by omega); simp only [tXn, ih]; funext i; simp only [tX, vei]; split
  .rw [if_neg (show ¬ m - 1 = k by omega)]; by_cases h0 : i = 0
   .subst h0; simp
   .simp only [h0, if_false]; by_cases h1 : i = k + 1
    .subst h1; simp
    .rw [if_neg (by omega), if_neg h1]; simp
  .rw [if_neg (by omega)]
theorem Jhn {m : Nat} {c a : Vec} : ∀ {n : Nat}, n <= m -> ∀ i, opr m c a n e0 i = if i < n then a i else 0
  | 0, _, i => by simp [opr, vz]
  | n + 1, h, i => by
    simp only [opr, JA, vsm]
    rw [Jhn (n := n) (by omega) i, Jg8 (by omega)]
    simp only [vei]
    by_cases h1 : i = n
    . subst h1; simp
    . by_cases h2 : i < n
      . simp [h2, h1, show i < n + 1 by omega]
      . simp [h2, h1, show ¬ i < n + 1 by omega]
def Sup (m : Nat) (v : Vec) : Prop := ∀ i, m <= i -> v i = 0
theorem Yy {m : Nat} {c a : Vec} (h : Sup m a) : opr m c a m e0 = a := by
 funext i; rw [Jhn (Nat.le_refl m)]; split
 .rfl
 .exact (h i (by omega)).symm
theorem Sup.z {m : Nat} : Sup m vz := fun _ _ => rfl
theorem Sup.tX {m : Nat} {c v : Vec} : Sup m (tX m c v) := fun i h => by simp [Go.Proofs.Ytjgpkljepgcekaa.tX, show ¬ i < m by omega]
theorem Sup.add {m : Nat} {u v : Vec} (hu : Sup m u) (hv : Sup m v) : Sup m (JA u v) := fun i h => by simp [JA, hu i h, hv i h]
theorem Sup.sm {m : Nat} {a : Int} {v : Vec} (hv : Sup m v) : Sup m (vsm a v) := fun i h => by simp [vsm, hv i h]
theorem Sup.tXn {m : Nat} {c v : Vec} (hv : Sup m v) : ∀ n, Sup m (tXn m c n v)
 | 0 => hv
 | _ + 1 => Sup.tX
theorem Sup.opr {m : Nat} {c b v : Vec} (hv : Sup m v) : ∀ n, Sup m (opr m c b n v)
 | 0 => Sup.z
 | n + 1 => (Sup.opr hv n).add (hv.tXn n).sm
theorem Q0 {m : Nat} {c a b : Vec} (ha : Sup m a) (hb : Sup m b) : Qj m c a b = Qj m c b a := by
 unfold Qj
 calc opr m c b m a = opr m c b m (opr m c a m e0) := by rw [Yy ha]
  _ = opr m c a m (opr m c b m e0) := Jbl ..
  _ = opr m c a m b := by rw [Yy hb]
theorem Jcv {m : Nat} {c a b d : Vec} (ha : Sup m a) (hb : Sup m b) (hd : Sup m d) : Qj m c (Qj m c a b) d = Qj m c a (Qj m c b d) := by
 rw [Q0 (a := a) (b := Qj m c b d) ha (Sup.opr hb m)]; show opr m c d m (opr m c b m a) = opr m c a m (opr m c d m b); rw [<- Jbl m c d a m m b]; show opr m c d m (Qj m c a b) = opr m c d m (Qj m c b a); rw [Q0 ha hb]
theorem Jgx {m : Nat} {c a b d : Vec} : Qj m c a (JA b d) = JA (Qj m c a b) (Qj m c a d) := Jhl ..
theorem Jgw {m : Nat} {c a : Vec} (hm : 0 < m) : Qj m c a e0 = a := by
 have key : ∀ n, 0 < n -> opr m c e0 n a = a := by
  intro n
  induction n with
  | zero => intro h; omega
  | succ n ih =>
   intro _; rcases Nat.eq_zero_or_pos n with h | h
   .subst h; funext i; simp [opr, e0, JA, vsm, vz, tXn]
   .simp only [opr, ih h]; funext i; simp [e0, JA, vsm, show n ≠ 0 by omega]
 exact key m hm
def vcg (p : Int) (u v : Vec) : Prop := ∀ i, u i % p = v i % p
section
variable {p : Int} {m : Nat} {c c' u u' v v' b b' : Vec}
theorem vcg.refl (u : Vec) : vcg p u u := fun _ => rfl
theorem vcg.symm (h : vcg p u v) : vcg p v u := fun i => (h i).symm
theorem vcg.trans {w : Vec} (h : vcg p u v) (k : vcg p v w) : vcg p u w := fun i => (h i).trans (k i)
theorem Zs {a a' d d' : Int} (h : a % p = a' % p) (k : d % p = d' % p) : (a * d) % p = (a' * d') % p := by
 rw [Int.mul_emod, h, k, <- Int.mul_emod]
theorem Jd6 {a a' d d' : Int} (h : a % p = a' % p) (k : d % p = d' % p) : (a + d) % p = (a' + d') % p := by
 rw [Int.add_emod, h, k, <- Int.add_emod]
theorem Jcy {a a' d d' : Int} (h : a % p = a' % p) (k : d % p = d' % p) : (a - d) % p = (a' - d') % p := by
 rw [Int.sub_emod, h, k, <- Int.sub_emod]
theorem vcg.add (h : vcg p u u') (k : vcg p v v') : vcg p (JA u v) (JA u' v') := fun i => Jd6 (h i) (k i)
theorem vcg.sm {a a' : Int} (ha : a % p = a' % p) (h : vcg p u u') : vcg p (vsm a u) (vsm a' u') := fun i => Zs ha (h i)
theorem vcg.tX (hc : vcg p c c') (h : vcg p u u') : vcg p (tX m c u) (tX m c' u') := fun i => by
 simp only [Go.Proofs.Ytjgpkljepgcekaa.tX]; split
 .split
  .exact Jcy rfl (Zs (hc i) (h _))
  .exact Jcy (h _) (Zs (hc i) (h _))
 .rfl
theorem vcg.tXn (hc : vcg p c c') (h : vcg p u u') : ∀ n, vcg p (tXn m c n u) (tXn m c' n u')
 | 0 => h
 | n + 1 => vcg.tX hc (vcg.tXn hc h n)
theorem vcg.opr (hc : vcg p c c') (hb : vcg p b b') (h : vcg p u u') : ∀ n, vcg p (opr m c b n u) (opr m c' b' n u')
 | 0 => .refl _
 | n + 1 => (vcg.opr hc hb h n).add (vcg.sm (hb n) (vcg.tXn hc h n))
theorem vcg.mul (hc : vcg p c c') (h : vcg p u u') (hb : vcg p b b') : vcg p (Qj m c u b) (Qj m c' u' b') := vcg.opr hc hb h m
end
end Go.Proofs.Ytjgpkljepgcekaa
namespace Go.Proofs.Ytjgpkljepgcekaa
def dv (p x : Nat) : Vec := fun i => ((x / p ^ i % p : Nat) : Int)
def vl (p : Nat) : Nat -> Vec -> Int
  | 0, _ => 0
  | n + 1, v => v 0 + (p : Int) * vl p n (fun i => v (i + 1))
def Cn (p n : Nat) (v : Vec) : Prop := ∀ i, i < n -> 0 <= v i /\ v i < p
def nm (p m : Nat) (v : Vec) : Nat := (vl p m (fun i => v i % (p : Int))).toNat
theorem Q5 (p x i : Nat) : dv p x (i + 1) = dv p (x / p) i := by
 simp only [dv]; rw [Nat.pow_succ', <- Nat.div_div_eq_div_mul]
theorem QI (p x : Nat) : dv p x 0 = ((x % p : Nat) : Int) := by simp [dv]
theorem Cn.tl {p n : Nat} {v : Vec} (h : Cn p (n + 1) v) : Cn p n (fun i => v (i + 1)) := fun i hi => h (i + 1) (by omega)
theorem Jef {p : Nat} (hp : 0 < p) : ∀ {n : Nat} {v : Vec}, Cn p n v -> 0 <= vl p n v /\ vl p n v < ((p ^ n : Nat) : Int)
 | 0, v, _ => by simp [vl]
 | n + 1, v, h => by
  have ih := Jef hp h.tl; have h0 := h 0 (by omega); simp only [vl]; have h1 : (p : Int) * vl p n (fun i => v (i + 1)) <= p * (((p ^ n : Nat) : Int) - 1) := Int.mul_le_mul_of_nonneg_left (by omega) (by omega); have h2 : 0 <= (p : Int) * vl p n (fun i => v (i + 1)) := Int.mul_nonneg (by omega) ih.1; have h3 : ((p ^ (n + 1) : Nat) : Int) = p * ((p ^ n : Nat) : Int) := by rw [Nat.pow_succ']; push_cast; rfl
  have h4 : (p : Int) * (((p ^ n : Nat) : Int) - 1) = p * ((p ^ n : Nat) : Int) - p := by rw [Int.mul_sub, Int.mul_one]
  omega
theorem Zd {p : Nat} : ∀ {n : Nat} {u v : Vec}, (∀ i, i < n -> u i = v i) -> vl p n u = vl p n v
 | 0, _, _, _ => rfl
 | n + 1, u, v, h => by simp only [vl]; rw [h 0 (by omega), Zd (n := n) fun i hi => h (i + 1) (by omega)]
theorem Jgy {p : Nat} (hp : 0 < p) : ∀ {n x : Nat}, x < p ^ n -> vl p n (dv p x) = x
 | 0, x, h => by simp at h; subst h; rfl
 | n + 1, x, h => by
  simp only [vl]; have : (fun i => dv p x (i + 1)) = dv p (x / p) := by funext i; exact Q5 p x i
  rw [this, Jgy hp (n := n) (by rw [Nat.div_lt_iff_lt_mul hp, <- Nat.pow_succ]; exact h), QI]; have := Nat.mod_add_div x p; have h2 : ((x % p + p * (x / p) : Nat) : Int) = (x : Int) := by rw [this]
  push_cast at h2 ⊢; exact h2
theorem dv_vl {p : Nat} (hp : 0 < p) : ∀ {n : Nat} {v : Vec}, Cn p n v -> ∀ i, i < n -> dv p (vl p n v).toNat i = v i
 | 0, _, _, i, hi => by omega
 | n + 1, v, h, i, hi => by
  have ih := Jef hp h.tl; have h0 := h 0 (by omega); obtain ⟨t, ht⟩ := Int.eq_ofNat_of_zero_le ih.1; obtain ⟨a, ha⟩ := Int.eq_ofNat_of_zero_le h0.1; have hv : (vl p (n + 1) v).toNat = a + p * t := by
   simp only [vl]; rw [ht, ha]; have : (a : Int) + (p : Int) * (t : Int) = ((a + p * t : Nat) : Int) := by push_cast; rfl
   rw [this]; rfl
  have hap : a < p := by have := h0.2; rw [ha] at this; omega
  rw [hv]; cases i with
  | zero => rw [QI, Nat.add_mul_mod_self_left, Nat.mod_eq_of_lt hap, ha]
  | succ i =>
   rw [Q5]; have h2 : (a + p * t) / p = t := by rw [Nat.add_mul_div_left _ _ hp, Nat.div_eq_of_lt hap, Nat.zero_add]
   have ih2 := dv_vl hp h.tl i (by omega); rw [ht] at ih2; rw [h2]; exact ih2
section
variable {p m : Nat}
theorem md_cn (hp : 0 < p) (v : Vec) (n : Nat) : Cn p n (fun i => v i % (p : Int)) := fun i _ => ⟨Int.emod_nonneg _ (by omega), Int.emod_lt_of_pos _ (by omega)⟩
theorem Yz (hp : 0 < p) (v : Vec) : nm p m v < p ^ m := by
 have := Jef hp (md_cn hp v m); unfold nm; omega
theorem Je2 (hp : 0 < p) (v : Vec) {i : Nat} (hi : i < m) : dv p (nm p m v) i = v i % (p : Int) := dv_vl hp (md_cn hp v m) i hi
theorem Z6 (hp : 0 < p) (x n : Nat) : Cn p n (dv p x) := fun i _ => by
 have := Nat.mod_lt (x / p ^ i) hp; simp only [dv]; omega
theorem Jh7 {x i : Nat} (hx : x < p ^ m) (hi : m <= i) : dv p x i = 0 := by
 rcases Nat.eq_zero_or_pos p with rfl | hp
 .simp only [dv]; cases m with
  | zero =>
   have : x = 0 := by simpa using hx
   subst this; simp
  | succ m => simp at hx
 .have : x / p ^ i = 0 := Nat.div_eq_of_lt (Nat.lt_of_lt_of_le hx (Nat.pow_le_pow_right hp hi)); simp [dv, this]
theorem Qm {x : Nat} (hx : x < p ^ m) : Sup m (dv p x) := fun i hi => Jh7 hx hi
theorem Yn (x i : Nat) : dv p x i % (p : Int) = dv p x i := by
 simp only [dv]; rw [<- Int.natCast_emod, Nat.mod_mod]
theorem Yj (hp : 0 < p) {x : Nat} (hx : x < p ^ m) : nm p m (dv p x) = x := by
 unfold nm; rw [Zd (v := dv p x) fun i _ => Yn x i, Jgy hp hx]; rfl
theorem Jhs {u v : Vec} (h : ∀ i, i < m -> u i % (p : Int) = v i % (p : Int)) : nm p m u = nm p m v := by
 unfold nm; rw [Zd h]
theorem QQ {u v : Vec} (h : vcg p u v) : nm p m u = nm p m v := Jhs fun i _ => h i
theorem Jcf (hp : 0 < p) {v : Vec} (hv : Sup m v) : vcg p (dv p (nm p m v)) v := fun i => by
 rcases Nat.lt_or_ge i m with h | h
 .rw [Je2 hp v h, Int.emod_emod]
 .rw [Jh7 (Yz hp v) h, hv i h]
theorem nm_eq (hp : 0 < p) {x : Nat} {v : Vec} (hx : x < p ^ m) (h : ∀ i, i < m -> dv p x i = v i % (p : Int)) : nm p m v = x := by
 rw [<- Yj hp hx]; exact Jhs fun i hi => by rw [h i hi, Int.emod_emod]
end
def J8 (p m x y : Nat) : Nat := nm p m (JA (dv p x) (dv p y))
def Jdo (p m x : Nat) : Nat := nm p m (vsm (-1) (dv p x))
def Jt (p m : Nat) (c : Vec) (x y : Nat) : Nat := nm p m (Qj m c (dv p x) (dv p y))
section
variable {p m : Nat} {c : Vec}
theorem Jju (hp : 0 < p) (x y : Nat) : J8 p m x y < p ^ m := Yz hp _
theorem Jjt (hp : 0 < p) (x : Nat) : Jdo p m x < p ^ m := Yz hp _
theorem Je1 (hp : 0 < p) (x y : Nat) : Jt p m c x y < p ^ m := Yz hp _
theorem Jay (hp : 0 < p) {x y : Nat} (hx : x < p ^ m) (hy : y < p ^ m) : vcg p (dv p (J8 p m x y)) (JA (dv p x) (dv p y)) := Jcf hp ((Qm hx).add (Qm hy))
theorem Jjv (hp : 0 < p) {x : Nat} (hx : x < p ^ m) : vcg p (dv p (Jdo p m x)) (vsm (-1) (dv p x)) := Jcf hp (Qm hx).sm
theorem Jgv {a b : Vec} (ha : Sup m a) : Sup m (Qj m c a b) := Sup.opr ha m
theorem YB (hp : 0 < p) {x y : Nat} (hx : x < p ^ m) : vcg p (dv p (Jt p m c x y)) (Qj m c (dv p x) (dv p y)) := Jcf hp (Jgv (Qm hx))
theorem Jf4 (x y : Nat) : J8 p m x y = J8 p m y x := by unfold J8; rw [ZV]
theorem Jdr (hp : 0 < p) {x y z : Nat} (hx : x < p ^ m) (hy : y < p ^ m) (hz : z < p ^ m) : J8 p m (J8 p m x y) z = J8 p m x (J8 p m y z) := by
 show nm p m (JA (dv p (J8 p m x y)) (dv p z)) = nm p m (JA (dv p x) (dv p (J8 p m y z))); rw [QQ ((Jay hp hx hy).add (vcg.refl _)), QQ ((vcg.refl (p := p) (dv p x)).add (Jay hp hy hz)), Zf]
theorem ZQ (p : Nat) : dv p 0 = vz := by funext i; simp [dv, vz]
theorem Jf3 (hp : 0 < p) {x : Nat} (hx : x < p ^ m) : J8 p m x 0 = x := by unfold J8; rw [ZQ, Ze, Yj hp hx]
theorem Jh3 (hp : 0 < p) {x : Nat} (hx : x < p ^ m) : J8 p m x (Jdo p m x) = 0 := by
 show nm p m (JA (dv p x) (dv p (Jdo p m x))) = 0; rw [QQ ((vcg.refl (p := p) (dv p x)).add (Jjv hp hx))]; have : JA (dv p x) (vsm (-1) (dv p x)) = vz := by funext i; simp only [JA, vsm, vz]; omega
 rw [this, <- ZQ p, Yj hp (by exact Nat.pow_pos hp)]
theorem Z5 {x y : Nat} (hx : x < p ^ m) (hy : y < p ^ m) : Jt p m c x y = Jt p m c y x := by
 unfold Jt; rw [Q0 (Qm hx) (Qm hy)]
theorem Jdp (hp : 0 < p) {x y z : Nat} (hx : x < p ^ m) (hy : y < p ^ m) (hz : z < p ^ m) : Jt p m c (Jt p m c x y) z = Jt p m c x (Jt p m c y z) := by
 show nm p m (Qj m c (dv p (Jt p m c x y)) (dv p z)) = nm p m (Qj m c (dv p x) (dv p (Jt p m c y z))); rw [QQ (vcg.mul (vcg.refl c) (YB hp hx) (vcg.refl _)), QQ (vcg.mul (vcg.refl c) (vcg.refl (dv p x)) (YB hp hy)), Jcv (Qm hx) (Qm hy) (Qm hz)]
theorem Jax (hp : 2 <= p) : dv p 1 = e0 := by
 funext i; cases i with
 | zero => rw [QI, Nat.mod_eq_of_lt (by omega)]; rfl
 | succ i =>
  have : (1 : Nat) / p ^ (i + 1) = 0 := Nat.div_eq_of_lt (Nat.one_lt_pow (by omega) (by omega)); simp [dv, this, e0]
theorem Zz (hp : 2 <= p) (hm : 0 < m) {x : Nat} (hx : x < p ^ m) : Jt p m c x 1 = x := by
 unfold Jt; rw [Jax hp, Jgw hm, Yj (by omega) hx]
theorem Jf0 (hp : 0 < p) {x : Nat} (hx : x < p ^ m) : Jt p m c x 0 = 0 := by
 rw [Z5 hx (Nat.pow_pos hp)]; unfold Jt; rw [ZQ]; have : Qj m c vz (dv p x) = vz := opr_z ..; rw [this, <- ZQ p, Yj hp (Nat.pow_pos hp)]
theorem Jh1 (hp : 0 < p) {x y z : Nat} (hx : x < p ^ m) (hy : y < p ^ m) (hz : z < p ^ m) : Jt p m c x (J8 p m y z) = J8 p m (Jt p m c x y) (Jt p m c x z) := by
 show nm p m (Qj m c (dv p x) (dv p (J8 p m y z))) = nm p m (JA (dv p (Jt p m c x y)) (dv p (Jt p m c x z))); rw [QQ (vcg.mul (vcg.refl c) (vcg.refl (dv p x)) (Jay hp hy hz)), QQ ((YB (c := c) hp hx).add (YB hp hx)), Jgx]
end
structure CR (q : Nat) (A M : Nat -> Nat -> Nat) : Prop where
  q2 : 2 <= q
  Al : ∀ x y, A x y < q
  Ml : ∀ x y, M x y < q
  Ac : ∀ x y, A x y = A y x
  Aa : ∀ {x y z}, x < q -> y < q -> z < q -> A (A x y) z = A x (A y z)
  Az : ∀ {x}, x < q -> A x 0 = x
  An : ∀ {x}, x < q -> ∃ y, y < q /\ A x y = 0
  Mc : ∀ {x y}, x < q -> y < q -> M x y = M y x
  Ma : ∀ {x y z}, x < q -> y < q -> z < q -> M (M x y) z = M x (M y z)
  M1 : ∀ {x}, x < q -> M x 1 = x
  M0 : ∀ {x}, x < q -> M x 0 = 0
  Md : ∀ {x y z}, x < q -> y < q -> z < q -> M x (A y z) = A (M x y) (M x z)
theorem Jeb {p m : Nat} (c : Vec) (hp : 2 <= p) (hm : 0 < m) : CR (p ^ m) (J8 p m) (Jt p m c) where
 q2 := Nat.le_trans hp (by have := Nat.pow_le_pow_right (n := p) (by omega) hm; simpa using this)
 Al := Jju (by omega)
 Ml := Je1 (by omega)
 Ac := Jf4
 Aa := Jdr (by omega)
 Az := Jf3 (by omega)
 An := fun {x} hx => ⟨Jdo p m x, Jjt (by omega) x, Jh3 (by omega) hx⟩
 Mc := Z5
 Ma := Jdp (by omega)
 M1 := Zz hp hm
 M0 := Jf0 (by omega)
 Md := Jh1 (by omega)
end Go.Proofs.Ytjgpkljepgcekaa
namespace Go.Proofs.Ytjgpkljepgcekaa
def pw (M : Nat -> Nat -> Nat) (g : Nat) : Nat -> Nat
  | 0 => 1
  | k + 1 => M (pw M g k) g
theorem php : ∀ (n : Nat) (f : Nat -> Nat), (∀ i, i < n + 1 -> f i < n) -> ∃ i j, i < j /\ j < n + 1 /\ f i = f j
 | 0, f, h => absurd (h 0 (by omega)) (by omega)
 | n + 1, f, h => by
  by_cases hc : ∃ i, i < n + 1 /\ f i = f (n + 1)
  .obtain ⟨i, hi, he⟩ := hc; exact ⟨i, n + 1, hi, by omega, he⟩
  .have hv := h (n + 1) (by omega); obtain ⟨i, j, hij, hj, he⟩ := php n (fun i => if f i = n then f (n + 1) else f i) (fun i hi => by
    have hne : f i ≠ f (n + 1) := fun e => hc ⟨i, hi, e⟩; have := h i (by omega); show (if f i = n then f (n + 1) else f i) < n; split
    .omega
    .omega)
   refine ⟨i, j, hij, by omega, ?_⟩; have hi1 : f i ≠ f (n + 1) := fun e => hc ⟨i, by omega, e⟩; have hj1 : f j ≠ f (n + 1) := fun e => hc ⟨j, by omega, e⟩; split at he <;> split at he <;> omega
theorem Jbd {n : Nat} {f : Nat -> Nat} (hb : ∀ i, i < n -> f i < n) (hi : ∀ i j, i < j -> j < n -> f i ≠ f j) {y : Nat} (hy : y < n) : ∃ i, i < n /\ f i = y := by
 obtain ⟨i, j, hij, hj, he⟩ := php n (fun i => if i < n then f i else y) (fun i _ => by
  show (if i < n then f i else y) < n; split
  .rename_i h; exact hb i h
  .exact hy)
 rcases Nat.lt_or_ge j n with h | h
 .rw [if_pos h, if_pos (show i < n by omega)] at he; exact absurd he (hi i j hij h)
 .rw [if_neg (show ¬ j < n by omega), if_pos (show i < n by omega)] at he; exact ⟨i, by omega, he⟩
section
variable {q : Nat} {A M : Nat -> Nat -> Nat} (R : CR q A M)
include R
namespace CR
theorem one_lt : 1 < q := R.q2
theorem pos : 0 < q := by have := R.q2; omega
theorem I1 {x : Nat} (hx : x < q) : M 1 x = x := by rw [R.Mc R.one_lt hx, R.M1 hx]
theorem Z0 {x : Nat} (hx : x < q) : M 0 x = 0 := by rw [R.Mc R.pos hx, R.M0 hx]
theorem pw_lt (g : Nat) : ∀ k, pw M g k < q
 | 0 => R.one_lt
 | k + 1 => R.Ml _ _
theorem pw_one {g : Nat} (hg : g < q) : pw M g 1 = g := R.I1 hg
theorem pw_add {g : Nat} (hg : g < q) (i : Nat) : ∀ j, pw M g (i + j) = M (pw M g i) (pw M g j)
 | 0 => (R.M1 (R.pw_lt g i)).symm
 | j + 1 => by
  show M (pw M g (i + j)) g = M (pw M g i) (M (pw M g j) g); rw [pw_add hg i j, R.Ma (R.pw_lt g i) (R.pw_lt g j) hg]
theorem pw_pw {g : Nat} (hg : g < q) (i : Nat) : ∀ j, pw M (pw M g i) j = pw M g (i * j)
 | 0 => rfl
 | j + 1 => by
  show M (pw M (pw M g i) j) (pw M g i) = _; rw [pw_pw hg i j, <- R.pw_add hg]; rfl
theorem one_pw : ∀ j, pw M 1 j = 1
 | 0 => rfl
 | j + 1 => by show M (pw M 1 j) 1 = 1; rw [one_pw j, R.M1 R.one_lt]
theorem zero_pw {n : Nat} (h : 0 < n) : pw M 0 n = 0 := by
 cases n with
 | zero => omega
 | succ n => exact R.M0 (R.pw_lt 0 n)
end CR
end
structure Gn (q : Nat) (M : Nat -> Nat -> Nat) (g : Nat) : Prop where
  lt : g < q
  one : pw M g (q - 1) = 1
  no : ∀ k, 0 < k -> k < q - 1 -> pw M g k ≠ 1
namespace Gn
variable {q g : Nat} {A M : Nat -> Nat -> Nat}
theorem per (G : Gn q M g) (R : CR q A M) (i k : Nat) : pw M g (i + (q - 1) * k) = pw M g i := by
 rw [R.pw_add G.lt, <- R.pw_pw G.lt, G.one, R.one_pw, R.M1 (R.pw_lt g i)]
theorem ne0 (G : Gn q M g) (R : CR q A M) (k : Nat) : pw M g k ≠ 0 := fun h => by
 have h1 := G.per R 0 (k + 1); have hq := R.q2; rw [Nat.zero_add] at h1; have : (q - 1) * (k + 1) = k + ((q - 1) * (k + 1) - k) := by
  have : k + 1 <= (q - 1) * (k + 1) := Nat.le_mul_of_pos_left _ (by omega); omega
 rw [this, R.pw_add G.lt, h, R.Z0 (R.pw_lt g _)] at h1; exact absurd h1 (by show ¬ (0 : Nat) = 1; omega)
theorem inj (G : Gn q M g) (R : CR q A M) {i j : Nat} (hij : i < j) (hj : j < q - 1) : pw M g i ≠ pw M g j := fun h => by
 have e1 : M (pw M g i) (pw M g (q - 1 - i)) = 1 := by rw [<- R.pw_add G.lt, show i + (q - 1 - i) = q - 1 by omega, G.one]
 have e2 : M (pw M g j) (pw M g (q - 1 - i)) = pw M g (j - i) := by
  rw [<- R.pw_add G.lt, show j + (q - 1 - i) = (j - i) + (q - 1) * 1 by omega, G.per R]
 rw [h] at e1; exact G.no (j - i) (by omega) (by omega) (e2.symm.trans e1)
theorem surj (G : Gn q M g) (R : CR q A M) {x : Nat} (h0 : 0 < x) (hx : x < q) : ∃ k, k < q - 1 /\ pw M g k = x := by
 obtain ⟨i, hi, he⟩ := Jbd (n := q - 1) (f := fun k => pw M g k - 1) (fun i hi => by
  have := R.pw_lt g i; have := G.ne0 R i; show pw M g i - 1 < q - 1; omega) (fun i j hij hj he => by
  have h1 := G.ne0 R i; have h2 := G.ne0 R j; exact G.inj R hij hj (by omega)) (y := x - 1) (by omega)
 have := G.ne0 R i; exact ⟨i, hi, by omega⟩
open Classical in
noncomputable def lg (q : Nat) (M : Nat -> Nat -> Nat) (g x : Nat) : Nat := if h : ∃ k, k < q - 1 /\ pw M g k = x then Classical.choose h else 0
theorem xone (G : Gn q M g) (R : CR q A M) {x : Nat} (h0 : 0 < x) (hx : x < q) : pw M x (q - 1) = 1 := by
  obtain ⟨k, hk, rfl⟩ := G.surj R h0 hx
  rw [R.pw_pw G.lt, Nat.mul_comm, <- R.pw_pw G.lt, G.one, R.one_pw]
end Gn
end Go.Proofs.Ytjgpkljepgcekaa
namespace Go.Proofs.Ytjgpkljepgcekaa
structure IsLf (n d : Nat) : Prop where
  two : 2 <= d
  dvd : n % d = 0
  min : ∀ e, 2 <= e -> n % e = 0 -> d <= e
def Jh8 : Nat -> Nat -> Nat
  | _, 0 => 1
  | 0, _ + 1 => 0
  | n + 1, k + 1 => Jh8 n k + Jh8 n (k + 1)
section
variable {q : Nat} {A M : Nat -> Nat -> Nat} (R : CR q A M)
include R
namespace CR
theorem Aac {a b c : Nat} (ha : a < q) (hb : b < q) (hc : c < q) : A (A a b) c = A (A a c) b := by
 rw [R.Aa ha hb hc, R.Ac b c, <- R.Aa ha hc hb]
theorem A4 {a b c d : Nat} (ha : a < q) (hb : b < q) (hc : c < q) (hd : d < q) : A (A a b) (A c d) = A (A a c) (A b d) := by
 rw [<- R.Aa (R.Al a b) hc hd, R.Aac ha hb hc, R.Aa (R.Al a c) hb hd]
end CR
end
end Go.Proofs.Ytjgpkljepgcekaa
namespace Go.Proofs.Ytjgpkljepgcekaa
def hz (m : Nat) (c b y : Vec) (n : Nat) : Nat -> Vec
  | 0 => vz
  | k + 1 => JA (tX m c (hz m c b y n k)) (vsm (b (n - 1 - k)) y)
theorem Jhx {m : Nat} {c b y : Vec} {n : Nat} : ∀ {k : Nat}, k <= n -> JA (tXn m c (n - k) (hz m c b y n k)) (opr m c b (n - k) y) = opr m c b n y
 | 0, _ => by simp only [hz, Nat.sub_zero]; rw [Jg6, z_vadd]
 | k + 1, h => by
  have ih := Jhx (m := m) (c := c) (b := b) (y := y) (n := n) (k := k) (by omega); obtain ⟨r, hr⟩ : ∃ r, n - k = r + 1 := ⟨n - k - 1, by omega⟩
  rw [show n - (k + 1) = r by omega]; rw [hr] at ih; rw [<- ih]; show JA (tXn m c r (JA (tX m c (hz m c b y n k)) (vsm (b (n - 1 - k)) y))) (opr m c b r y) = JA (tX m c (tXn m c r (hz m c b y n k))) (JA (opr m c b r y) (vsm (b r) (tXn m c r y))); rw [Jah, Jcx, Jg7, show n - 1 - k = r by omega, Zf, ZV (vsm _ _)]
theorem hz_all (m : Nat) (c b y : Vec) (n : Nat) : hz m c b y n n = opr m c b n y := by
 have := Jhx (m := m) (c := c) (b := b) (y := y) (n := n) (k := n) (Nat.le_refl n); rw [Nat.sub_self] at this; rw [<- this]; exact (Ze _).symm
def dgl (p : Nat) : Nat -> Nat -> List Nat
  | 0, _ => []
  | n + 1, x => (x % p) :: dgl p n (x / p)
theorem JW (p : Nat) : ∀ n x, (dgl p n x).length = n
 | 0, _ => rfl
 | n + 1, x => by simp [dgl, JW p n]
theorem YV (p : Nat) : ∀ n x i, i < n -> (((dgl p n x).getD i 0 : Nat) : Int) = dv p x i
 | 0, _, i, h => by omega
 | n + 1, x, 0, _ => by rw [QI]; rfl
 | n + 1, x, i + 1, h => by
  show (((dgl p n (x / p)).getD i 0 : Nat) : Int) = _; rw [YV p n (x / p) i (by omega), Q5]
@[reducible] noncomputable def hd0 (l : List Nat) : Nat := List.rec (motive := fun _ => Nat) 0 (fun x _ _ => x) l
@[reducible] noncomputable def tl0 (l : List Nat) : List Nat := List.rec (motive := fun _ => List Nat) [] (fun _ l _ => l) l
noncomputable def go (p a top : Nat) (cs : List Nat) : Nat -> List Nat -> List Nat -> List Nat :=
  List.rec (motive := fun _ => Nat -> List Nat -> List Nat -> List Nat) (fun _ _ _ => [])
    (fun c _ ih prev us ys => ((prev + (p - c) * top + a * hd0 ys) % p) :: ih (hd0 us) (tl0 us) (tl0 ys)) cs
noncomputable def tp (l : List Nat) : Nat -> Nat := List.rec (motive := fun _ => Nat -> Nat) (fun d => d) (fun x _ ih _ => ih x) l
noncomputable def Jde (p : Nat) (cs ys gs : List Nat) : List Nat -> List Nat :=
  List.rec (motive := fun _ => List Nat -> List Nat) (fun acc => acc) (fun g _ ih acc => ih (go p g (tp acc 0) cs 0 acc ys)) gs
noncomputable def az (l : List Nat) : Bool := List.rec (motive := fun _ => Bool) true (fun x _ ih => bif Nat.beq x 0 then ih else false) l
noncomputable def is1 (l : List Nat) : Bool := List.rec (motive := fun _ => Bool) false (fun x t _ => bif Nat.beq x 1 then az t else false) l
noncomputable def run (p : Nat) (cs gs : List Nat) (n : Nat) : List Nat -> Bool :=
  Nat.rec (motive := fun _ => List Nat -> Bool) (fun y => is1 y) (fun _ ih y => bif is1 y then false else ih (Jde p cs y gs y)) n
noncomputable def Jbf (p c : Nat) (al : List Nat) : List Nat -> List Nat :=
  List.rec (motive := fun _ => List Nat -> List Nat) (fun bs => bs) (fun a _ ih bs => ((hd0 bs + (p - a) * c) % p) :: ih (tl0 bs)) al
noncomputable def dvg (p : Nat) (low : List Nat) (k : Nat) : List Nat -> Bool :=
  Nat.rec (motive := fun _ => List Nat -> Bool) (fun r => az r) (fun _ ih r => ih (Jbf p (hd0 r) low (tl0 r))) k
noncomputable def nob (f : Nat -> Bool) (n : Nat) : Bool := Nat.rec (motive := fun _ => Bool) true (fun i ih => bif f i then false else ih) n
noncomputable def irrB (p m : Nat) (ml : List Nat) : Bool :=
  nob (fun d => !nob (fun w => dvg p (dgl p (d + 1) w).reverse (m - d) (1 :: ml.reverse)) (p ^ (d + 1))) (m / 2)
noncomputable def cand (p c : Nat) : List Nat := bif Nat.blt c p then [c] else bif Nat.blt c (p + p * p) then [(c - p) / p, (c - p) % p] else [(c - p - p * p) / (p * p), (c - p - p * p) / p % p, (c - p - p * p) % p]
noncomputable def gen1 (p m : Nat) (cs gs : List Nat) : Bool := run p cs gs (p ^ m - 2) (Jde p cs (dgl p m 1) gs (dgl p m 1))
noncomputable def Jdn (p m : Nat) (cs : List Nat) : Bool := !nob (fun c => gen1 p m cs (cand p (p + p * p + p * p * p - 1 - c))) (p + p * p + p * p * p)
noncomputable def chk (p m lo n : Nat) : Bool := nob (fun v => bif irrB p m (dgl p m (lo + v)) then !Jdn p m (dgl p m (lo + v)) else false) n

theorem Jat (l : List Nat) : hd0 l = l.getD 0 0 := by cases l <;> rfl
theorem Zk (l : List Nat) (i : Nat) : (tl0 l).getD i 0 = l.getD (i + 1) 0 := by cases l <;> rfl
theorem Ji1 (l : List Nat) : (tl0 l).length = l.length - 1 := by cases l <;> simp [tl0]
theorem Jau (p a top c : Nat) (cs : List Nat) (prev : Nat) (us ys : List Nat) : go p a top (c :: cs) prev us ys = ((prev + (p - c) * top + a * hd0 ys) % p) :: go p a top cs (hd0 us) (tl0 us) (tl0 ys) := rfl
theorem Jhz (p a top : Nat) : ∀ (cs : List Nat) (prev : Nat) (us ys : List Nat), (go p a top cs prev us ys).length = cs.length
 | [], _, _, _ => rfl
 | c :: cs, prev, us, ys => by rw [Jau, List.length_cons, Jhz p a top cs, List.length_cons]
theorem go_at (p a top : Nat) : ∀ (cs : List Nat) (prev : Nat) (us ys : List Nat) (i : Nat), i < cs.length -> (go p a top cs prev us ys).getD i 0 = ((if i = 0 then prev else us.getD (i - 1) 0) + (p - cs.getD i 0) * top + a * ys.getD i 0) % p
 | [], _, _, _, i, h => by simp at h
 | c :: cs, prev, us, ys, 0, _ => by rw [Jau, Jat]; rfl
 | c :: cs, prev, us, ys, i + 1, h => by
  rw [Jau]; show (go p a top cs (hd0 us) (tl0 us) (tl0 ys)).getD i 0 = _; rw [go_at p a top cs _ _ _ i (by simpa using h)]; cases i with
  | zero => rw [if_pos rfl, if_neg (by omega), Jat, Zk]; rfl
  | succ i => rw [if_neg (by omega), if_neg (by omega), Zk, Zk]; rfl
theorem tp_eq : ∀ (l : List Nat) (d : Nat), 0 < l.length -> tp l d = l.getD (l.length - 1) 0
 | [], _, h => by simp at h
 | [x], d, _ => rfl
 | x :: y :: l, d, _ => by
  show tp (y :: l) x = _; rw [tp_eq (y :: l) x (by simp)]; simp
def Rep (p m : Nat) (L : List Nat) (v : Vec) : Prop := L.length = m /\ ∀ i, i < m -> ((L.getD i 0 : Nat) : Int) = v i % (p : Int)
def hl (m : Nat) (c y : Vec) : List Nat -> Vec -> Vec
  | [], u => u
  | g :: gs, u => hl m c y gs (JA (tX m c u) (vsm g y))
theorem Rep.step {p m : Nat} {cs us ys : List Nat} {c u y : Vec} (hp : 0 < p) (hm : 0 < m) (hc : Rep p m cs c) (hu : Rep p m us u) (hy : Rep p m ys y) (g : Nat) :
  Rep p m (go p g (tp us 0) cs 0 us ys) (JA (tX m c u) (vsm g y)) := by
 refine ⟨by rw [Jhz, hc.1], fun i hi => ?_⟩; rw [go_at _ _ _ _ _ _ _ _ (by rw [hc.1]; exact hi), tp_eq _ _ (by rw [hu.1]; exact hm), hu.1]; have h1 := hu.2 (m - 1) (by omega); have h2 := hc.2 i hi; have h3 := hy.2 i hi; have hlt : cs.getD i 0 <= p := by
  have := Int.emod_lt_of_pos (c i) (show (0 : Int) < p by omega); omega
 have e : (((if i = 0 then 0 else us.getD (i - 1) 0) : Nat) : Int) % p = (if i = 0 then (0 : Int) else u (i - 1)) % p := by
  split
  .rfl
  .rw [hu.2 (i - 1) (by omega), Int.emod_emod]
 simp only [JA, vsm, tX, if_pos hi]; generalize (if i = 0 then 0 else us.getD (i - 1) 0 : Nat) = A at *
 generalize (if i = 0 then (0 : Int) else u (i - 1)) = B at *
 generalize us.getD (m - 1) 0 = T at *
 generalize cs.getD i 0 = C at *
 generalize ys.getD i 0 = Y at *
 have hT : ((T : Nat) : Int) % p = u (m - 1) % p := by rw [h1, Int.emod_emod]
 have hC : ((C : Nat) : Int) % p = c i % p := by rw [h2, Int.emod_emod]
 have hY : ((Y : Nat) : Int) % p = y i % p := by rw [h3, Int.emod_emod]
 obtain ⟨D, hD⟩ : ∃ D, p = C + D := ⟨p - C, by omega⟩
 have hsub : p - C = D := by omega
 rw [hsub]; have hcast : ((A + D * T + g * Y : Nat) : Int) = ((A : Int) - C * T + g * Y) + p * T := by
  have : (p : Int) = C + D := by omega
  rw [this]; push_cast; rw [Int.add_mul]; omega
 rw [Int.natCast_emod, hcast, Int.add_mul_emod_self_left]; exact Jd6 (Jcy e (Zs hC hT)) (Zs rfl hY)
theorem Jfv (p : Nat) (cs ys : List Nat) (g : Nat) (gs acc : List Nat) : Jde p cs ys (g :: gs) acc = Jde p cs ys gs (go p g (tp acc 0) cs 0 acc ys) := rfl
theorem Rep.mul {p m : Nat} {cs ys : List Nat} {c y : Vec} (hp : 0 < p) (hm : 0 < m) (hc : Rep p m cs c) (hy : Rep p m ys y) : ∀ {gs us : List Nat} {u : Vec}, Rep p m us u -> Rep p m (Jde p cs ys gs us) (hl m c y gs u)
 | [], _, _, h => h
 | g :: gs, us, u, h => by rw [Jfv]; exact Rep.mul hp hm hc hy (Rep.step hp hm hc h hy g)
theorem Jdk {m : Nat} {c y : Vec} (hy : Sup m y) : ∀ {gs : List Nat} {u : Vec}, Sup m u -> Sup m (hl m c y gs u)
 | [], _, h => h
 | g :: gs, u, h => Jdk (gs := gs) (u := JA (tX m c u) (vsm g y)) hy (Sup.add Sup.tX hy.sm)
theorem Jhy {m : Nat} {c y : Vec} (hy : Sup m y) : ∀ {gs : List Nat} {U : Vec}, hl m c y gs (opr m c y m U) = opr m c y m (hl m c e0 gs U)
  | [], _ => rfl
  | g :: gs, U => by
    show hl m c y gs (JA (tX m c (opr m c y m U)) (vsm g y)) = opr m c y m (hl m c e0 gs (JA (tX m c U) (vsm g e0)))
    rw [<- Jhy hy, Jes, Jhm, Yy hy]
    have := Jer m c y m 1 U
    rw [show tXn m c 1 U = tX m c U from rfl, show tXn m c 1 (opr m c y m U) = tX m c (opr m c y m U) from rfl] at this
    rw [this]
theorem Jaw {m : Nat} (hm : 0 < m) : Sup m e0 := fun i hi => by simp [e0, show i ≠ 0 by omega]
theorem hl_mul {m : Nat} {c y : Vec} (hm : 0 < m) (hy : Sup m y) (gs : List Nat) : hl m c y gs y = Qj m c y (hl m c e0 gs e0) := by
 rw [Q0 hy (Jdk (Jaw hm) (Jaw hm))]; show _ = opr m c y m (hl m c e0 gs e0); rw [<- Jhy hy, Yy hy]
theorem Jix {p m x : Nat} : Rep p m (dgl p m x) (dv p x) := ⟨JW p m x, fun i hi => by rw [YV p m x i hi, Yn]⟩
theorem Rep.cg {p m : Nat} {L : List Nat} {u v : Vec} (h : Rep p m L u) (hv : ∀ i, i < m -> u i % (p : Int) = v i % (p : Int)) : Rep p m L v := ⟨h.1, fun i hi => by rw [h.2 i hi, hv i hi]⟩
theorem Jjy (x : Nat) (l : List Nat) : az (x :: l) = bif Nat.beq x 0 then az l else false := rfl
theorem Ja1 : ∀ l : List Nat, az l = true ↔ ∀ i, i < l.length -> l.getD i 0 = 0
 | [] => ⟨fun _ i h => by simp at h, fun _ => rfl⟩
 | x :: l => by
  rw [Jjy]; cases hx : Nat.beq x 0 with
  | true =>
   have := Nat.eq_of_beq_eq_true hx; subst this; rw [show (bif true then az l else false) = az l from rfl, Ja1 l]; constructor
   .intro h i hi; cases i with
    | zero => rfl
    | succ i => exact h i (by simpa using hi)
   .intro h i hi; exact h (i + 1) (by simpa using hi)
  | false =>
   rw [show (bif false then az l else false) = false from rfl]; constructor
   .intro h; cases h
   .intro h; have := h 0 (by simp); simp only [List.getD_cons_zero] at this; subst this; cases hx
theorem Jey {p m x : Nat} {L : List Nat} (hp : 2 <= p) (hm : 0 < m) (hx : x < p ^ m) (h : Rep p m L (Go.Proofs.Ytjgpkljepgcekaa.dv p x)) : is1 L = true ↔ x = 1 := by
 obtain ⟨a, l, rfl⟩ : ∃ a l, L = a :: l := by
  cases L with
  | nil => have := h.1; simp at this; omega
  | cons a l => exact ⟨a, l, rfl⟩
 have hlen : l.length + 1 = m := h.1; have h0 := h.2 0 hm; have e : is1 (a :: l) = bif Nat.beq a 1 then az l else false := rfl; rw [e]; constructor
 .intro hb; cases ha : Nat.beq a 1 with
  | false => rw [ha] at hb; cases hb
  | true =>
   rw [ha] at hb; have hz := (Ja1 l).1 hb; have ha1 := Nat.eq_of_beq_eq_true ha; subst ha1; rw [<- Yj (p := p) (m := m) (by omega) hx, <- Yj (p := p) (m := m) (x := 1) (by omega) (Nat.one_lt_pow (by omega) (by omega))]; refine Jhs fun i hi => ?_; rw [Jax hp, Yn, <- Yn, <- h.2 i hi]; cases i with
   | zero =>
    show (1 : Int) = e0 0 % p; simp only [e0, if_pos]; exact (Int.emod_eq_of_lt (by omega) (by omega)).symm
   | succ i =>
    show ((l.getD i 0 : Nat) : Int) = e0 (i + 1) % p; rw [hz i (by omega)]; simp [e0]
 .intro hx1; subst hx1; have ha : a = 1 := by
   have : ((a : Nat) : Int) = Go.Proofs.Ytjgpkljepgcekaa.dv p 1 0 % p := h0; rw [Yn, Jax hp] at this; simp [e0] at this; omega
  subst ha; show az l = true; refine (Ja1 l).2 fun i hi => ?_; have : ((l.getD i 0 : Nat) : Int) = Go.Proofs.Ytjgpkljepgcekaa.dv p 1 (i + 1) % p := h.2 (i + 1) (by omega); rw [Yn, Jax hp] at this; simp only [e0] at this; rw [if_neg (by omega)] at this; exact Int.ofNat_eq_zero.1 this
def gel (p m : Nat) (c : Vec) (gs : List Nat) : Nat := nm p m (hl m c e0 gs e0)
theorem Jcr {p m x : Nat} {cs L gs : List Nat} {c : Vec} (hp : 2 <= p) (hm : 0 < m) (hx : x < p ^ m) (hc : Rep p m cs c) (h : Rep p m L (Go.Proofs.Ytjgpkljepgcekaa.dv p x)) : Rep p m (Jde p cs L gs L) (Go.Proofs.Ytjgpkljepgcekaa.dv p (Jt p m c x (gel p m c gs))) := by
 have h1 := Rep.mul (gs := gs) (by omega) hm hc h h; rw [hl_mul hm (Qm hx)] at h1; refine h1.cg fun i hi => ?_; have hs := Jdk (c := c) (gs := gs) (Jaw hm) (Jaw hm); have e1 := YB (p := p) (m := m) (c := c) (by omega) hx (y := gel p m c gs); have e2 := vcg.mul (m := m) (vcg.refl (p := p) c) (vcg.refl (Go.Proofs.Ytjgpkljepgcekaa.dv p x)) (Jcf (p := p) (m := m) (by omega) hs); exact ((e1.trans e2) i).symm
theorem Jhc (p : Nat) (cs gs : List Nat) (n : Nat) (y : List Nat) : run p cs gs (n + 1) y = bif is1 y then false else run p cs gs n (Jde p cs y gs y) := rfl
theorem Jhd {p m : Nat} {cs gs : List Nat} {c : Vec} (hp : 2 <= p) (hm : 0 < m) (hc : Rep p m cs c) : ∀ {n : Nat} {L : List Nat} {x : Nat}, x < p ^ m -> Rep p m L (Go.Proofs.Ytjgpkljepgcekaa.dv p x) -> run p cs gs n L = true ->
  (∀ k, k < n -> Jt p m c x (pw (Jt p m c) (gel p m c gs) k) ≠ 1) /\ Jt p m c x (pw (Jt p m c) (gel p m c gs) n) = 1
 | 0, L, x, hx, h, hr => by
  refine ⟨fun k hk => by omega, ?_⟩; show Jt p m c x 1 = 1; rw [Zz hp hm hx]; exact (Jey hp hm hx h).1 hr
 | n + 1, L, x, hx, h, hr => by
  rw [Jhc] at hr; cases h1 : is1 L with
  | true => rw [h1] at hr; cases hr
  | false =>
   rw [h1] at hr; have R := Jeb (p := p) (m := m) c hp hm; have hg : gel p m c gs < p ^ m := Yz (by omega) _; have ih := Jhd hp hm hc (Je1 (by omega) x _) (Jcr (gs := gs) hp hm hx hc h) hr; have e : ∀ k, Jt p m c (Jt p m c x (gel p m c gs)) (pw (Jt p m c) (gel p m c gs) k) = Jt p m c x (pw (Jt p m c) (gel p m c gs) (k + 1)) := fun k => by
    rw [R.Ma hx hg (R.pw_lt _ k), R.Mc hg (R.pw_lt _ k)]; rfl
   refine ⟨fun k hk => ?_, by rw [<- e]; exact ih.2⟩; cases k with
   | zero =>
    show Jt p m c x 1 ≠ 1; rw [Zz hp hm hx]; intro hx1; rw [(Jey hp hm hx h).2 hx1] at h1; cases h1
   | succ k => rw [<- e]; exact ih.1 k (by omega)
theorem Jjr {p m : Nat} {cs gs : List Nat} {c : Vec} (hp : 2 <= p) (hm : 0 < m) (hc : Rep p m cs c) (h : gen1 p m cs gs = true) : Gn (p ^ m) (Jt p m c) (gel p m c gs) := by
 have R := Jeb (p := p) (m := m) c hp hm; have hg : gel p m c gs < p ^ m := Yz (by omega) _; have h1 := Jcr (gs := gs) hp hm R.one_lt hc Jix; rw [R.I1 hg] at h1; obtain ⟨h2, h3⟩ := Jhd hp hm hc hg h1 h; have hq := R.q2; have e : ∀ k, Jt p m c (gel p m c gs) (pw (Jt p m c) (gel p m c gs) k) = pw (Jt p m c) (gel p m c gs) (k + 1) := fun k => R.Mc hg (R.pw_lt _ k); refine ⟨hg, ?_, fun k h0 hk => ?_⟩
 .rw [show p ^ m - 1 = (p ^ m - 2) + 1 by omega, <- e]; exact h3
 .rw [show k = (k - 1) + 1 by omega, <- e]; exact h2 (k - 1) (by omega)
theorem Jhr (f : Nat -> Bool) (n : Nat) : nob f (n + 1) = bif f n then false else nob f n := rfl
theorem Q2 (f : Nat -> Bool) : ∀ n, nob f n = true ↔ ∀ i, i < n -> f i = false
 | 0 => ⟨fun _ i h => by omega, fun _ => rfl⟩
 | n + 1 => by
  rw [Jhr]; cases h : f n with
  | true =>
   refine ⟨fun h' => ?_, fun h' => ?_⟩
   .cases h'
   .rw [h' n (by omega)] at h; cases h
  | false =>
   show nob f n = true ↔ _; rw [Q2 f n]; refine ⟨fun h' i hi => ?_, fun h' i hi => h' i (by omega)⟩; rcases Nat.lt_or_ge i n with h1 | h1
   .exact h' i h1
   .rw [show i = n by omega]; exact h
theorem Jfu (f : Nat -> Bool) (n : Nat) (h : nob f n = false) : ∃ i, i < n /\ f i = true := by
 have hn : ¬ ∀ i, i < n -> f i = false := fun h' => by rw [(Q2 f n).2 h'] at h; cases h
 have := Classical.not_forall.1 hn; obtain ⟨i, hi⟩ := this; have h2 := Classical.not_imp.1 hi; exact ⟨i, h2.1, by cases hf : f i with | true => rfl | false => exact absurd hf h2.2⟩
theorem Je0 {p m : Nat} {cs : List Nat} {c : Vec} (hp : 2 <= p) (hm : 0 < m) (hc : Rep p m cs c) (h : Jdn p m cs = true) : ∃ g, Gn (p ^ m) (Jt p m c) g := by
 unfold Jdn at h; obtain ⟨i, _, hi⟩ := Jfu _ _ (by simpa using h); exact ⟨_, Jjr hp hm hc hi⟩
def rst (p d i : Nat) (l R : Vec) : Vec := fun j => if i <= j + d /\ j < i then (R j - l (j + d - i) * R i) % (p : Int) else R j
def rem (p d : Nat) (l R : Vec) (n : Nat) : Nat -> Vec
  | 0 => R
  | k + 1 => rst p d (n - 1 - k) l (rem p d l R n k)
def Dvd (p d : Nat) (l R : Vec) (n : Nat) : Prop := ∀ j, j < d -> rem p d l R n (n - d) j = 0
def Irr (p m : Nat) (c : Vec) : Prop := ∀ d, 0 < d -> 2 * d <= m -> ∀ w, w < p ^ d -> ¬ Dvd p d (dv p w) (fun i => if i = m then 1 else c i) (m + 1)
theorem YP (p c a : Nat) (al bs : List Nat) : Jbf p c (a :: al) bs = ((hd0 bs + (p - a) * c) % p) :: Jbf p c al (tl0 bs) := rfl
theorem Jbe (p c : Nat) : ∀ al bs : List Nat, al.length <= bs.length -> (Jbf p c al bs).length = bs.length
 | [], _, _ => rfl
 | a :: al, [], h => by simp at h
 | a :: al, b :: bs, h => by
  rw [YP, List.length_cons]; show (Jbf p c al bs).length + 1 = _; rw [Jbe p c al bs (by simpa using h)]; rfl
theorem Jel (p c : Nat) : ∀ (al bs : List Nat) (t : Nat), (Jbf p c al bs).getD t 0 = if t < al.length then (bs.getD t 0 + (p - al.getD t 0) * c) % p else bs.getD t 0
 | [], bs, t => by simp; rfl
 | a :: al, bs, 0 => by rw [YP, Jat]; simp
 | a :: al, bs, t + 1 => by
  rw [YP]; show (Jbf p c al (tl0 bs)).getD t 0 = _; rw [Jel p c al (tl0 bs) t, Zk]; simp
theorem Jh5 (p : Nat) (low : List Nat) (k : Nat) (r : List Nat) : dvg p low (k + 1) r = dvg p low k (Jbf p (hd0 r) low (tl0 r)) := rfl
theorem Jh6 {p d n : Nat} {l R : Vec} {low : List Nat} (hp : 0 < p) (hl : low.length = d) (hlow : ∀ t, t < d -> ((low.getD t 0 : Nat) : Int) = l (d - 1 - t)) (hlp : ∀ t, t < d -> low.getD t 0 <= p) : ∀ (s k : Nat) (r : List Nat), s + k + d = n -> r.length = n - k ->
  (∀ t, t < n - k -> ((r.getD t 0 : Nat) : Int) = rem p d l R n k (n - 1 - k - t)) -> (dvg p low s r = true ↔ Dvd p d l R n)
 | 0, k, r, hs, hr, hv => by
  have : n - k = d := by omega
  rw [this] at hr hv; show az r = true ↔ _; rw [Ja1, hr]; have hk : n - d = k := by omega
  unfold Dvd; rw [hk]; constructor
  .intro h j hj; have := hv (d - 1 - j) (by omega); rw [h (d - 1 - j) (by omega), show n - 1 - k - (d - 1 - j) = j by omega] at this; exact this.symm
  .intro h t ht; have := hv t ht; rw [h (n - 1 - k - t) (by omega)] at this; exact Int.ofNat_eq_zero.1 this
 | s + 1, k, r, hs, hr, hv => by
  rw [Jh5]; have htl : (tl0 r).length = n - (k + 1) := by rw [Ji1, hr]; omega
  refine Jh6 hp hl hlow hlp s (k + 1) _ (by omega) (by rw [Jbe _ _ _ _ (by rw [htl, hl]; omega), htl]) fun t ht => ?_; rw [Jel, hl, Zk, Jat]; have h0 := hv 0 (by omega); rw [Nat.sub_zero] at h0; have h1 := hv (t + 1) (by omega); rw [show n - 1 - k - (t + 1) = n - 1 - (k + 1) - t by omega] at h1; show _ = rst p d (n - 1 - k) l (rem p d l R n k) (n - 1 - (k + 1) - t); unfold rst; by_cases htd : t < d
  .rw [if_pos htd, if_pos (by omega)]; have h2 := hlow t htd; have h3 := hlp t htd; rw [show n - 1 - (k + 1) - t + d - (n - 1 - k) = d - 1 - t by omega, <- h0, <- h1, <- h2]; generalize r.getD (t + 1) 0 = X at *
   generalize low.getD t 0 = Y at *
   generalize r.getD 0 0 = Z at *
   obtain ⟨D, hD⟩ : ∃ D, p = Y + D := ⟨p - Y, by omega⟩
   rw [show p - Y = D by omega, Int.natCast_emod]; have hcast : ((X + D * Z : Nat) : Int) = ((X : Int) - Y * Z) + p * Z := by
    have : (p : Int) = Y + D := by omega
    rw [this]; push_cast; rw [Int.add_mul]; omega
   rw [hcast, Int.add_mul_emod_self_left]
  .rw [if_neg htd, if_neg (by omega)]; exact h1
theorem Zy (l : List Nat) (t : Nat) (h : t < l.length) : l.reverse.getD t 0 = l.getD (l.length - 1 - t) 0 := by
 rw [List.getD_eq_getElem?_getD, List.getD_eq_getElem?_getD, List.getElem?_reverse h]
theorem dv_le {p : Nat} (hp : 0 < p) (x i : Nat) : 0 <= dv p x i /\ dv p x i < p := Z6 hp x (i + 1) i (by omega)
theorem Jhw {p m v : Nat} (hp : 0 < p) (hv : v < p ^ m) : irrB p m (dgl p m v) = true ↔ Irr p m (dv p v) := by
 have key : ∀ d w, 0 < d -> 2 * d <= m -> (dvg p (dgl p d w).reverse (m + 1 - d) (1 :: (dgl p m v).reverse) = true ↔ Dvd p d (dv p w) (fun i => if i = m then 1 else dv p v i) (m + 1)) := fun d w hd h2 => by
  refine Jh6 hp (by rw [List.length_reverse, JW]) (fun t ht => ?_) (fun t ht => ?_) (m + 1 - d) 0 _ (by omega) (by simp [JW]) fun t ht => ?_
  .rw [Zy _ _ (by rw [JW]; exact ht), JW, YV _ _ _ _ (by omega)]
  .rw [Zy _ _ (by rw [JW]; exact ht), JW]; have := YV p d w (d - 1 - t) (by omega); have := dv_le hp w (d - 1 - t); omega
  .show _ = if m + 1 - 1 - 0 - t = m then (1 : Int) else dv p v (m + 1 - 1 - 0 - t)
   cases t with
   | zero => rw [if_pos (by omega)]; rfl
   | succ t =>
    rw [if_neg (by omega)]; show (((dgl p m v).reverse.getD t 0 : Nat) : Int) = _; rw [Zy _ _ (by rw [JW]; omega), JW, YV _ _ _ _ (by omega), show m + 1 - 1 - 0 - (t + 1) = m - 1 - t by omega]
 unfold irrB; rw [Q2]; constructor
 .intro h d hd h2 w hw hD; have h3 := h (d - 1) (by omega); have h4 := (Q2 _ _).1 (by simpa using h3) w (by rw [show d - 1 + 1 = d by omega]; exact hw); rw [show d - 1 + 1 = d by omega, show m - (d - 1) = m + 1 - d by omega, (key d w hd h2).2 hD] at h4; cases h4
 .intro h d hd; have : nob (fun w => dvg p (dgl p (d + 1) w).reverse (m - d) (1 :: (dgl p m v).reverse)) (p ^ (d + 1)) = true := (Q2 _ _).2 fun w hw => by
   cases hb : dvg p (dgl p (d + 1) w).reverse (m - d) (1 :: (dgl p m v).reverse) with
   | false => rfl
   | true =>
    rw [show m - d = m + 1 - (d + 1) by omega] at hb; exact absurd ((key (d + 1) w (by omega) (by omega)).1 hb) (h (d + 1) (by omega) (by omega) w hw)
  rw [this]; rfl
theorem Jr {p m lo n v : Nat} (hp : 2 <= p) (hm : 0 < m) (h : chk p m lo n = true) (h1 : lo <= v) (h2 : v < lo + n) (hv : v < p ^ m) (hi : Irr p m (dv p v)) : ∃ g, Gn (p ^ m) (Jt p m (dv p v)) g := by
 have h3 := (Q2 _ _).1 h (v - lo) (by omega); simp only [show lo + (v - lo) = v by omega, (Jhw (by omega) hv).2 hi, cond_true] at h3; exact Je0 hp hm Jix (by simpa using h3)
end Go.Proofs.Ytjgpkljepgcekaa
namespace Go.Proofs.Ytjgpkljepgcekaa
theorem Jgj : chk 2 2 0 4 = true := by decide +kernel
theorem Jgi : chk 2 3 0 8 = true := by decide +kernel
theorem Jgh : chk 2 4 0 16 = true := by decide +kernel
theorem Jgg : chk 2 5 0 32 = true := by decide +kernel
theorem Jgf : chk 2 6 0 64 = true := by decide +kernel
theorem Jge : chk 2 7 0 64 = true := by decide +kernel
theorem Jd2 : chk 2 7 64 64 = true := by decide +kernel
theorem Jgd : chk 2 8 0 24 = true := by decide +kernel
theorem Jd1 : chk 2 8 24 24 = true := by decide +kernel
theorem Jd0 : chk 2 8 48 24 = true := by decide +kernel
theorem Jdz : chk 2 8 72 24 = true := by decide +kernel
theorem Jdy : chk 2 8 96 24 = true := by decide +kernel
theorem Jcc : chk 2 8 120 24 = true := by decide +kernel
theorem Jcb : chk 2 8 144 24 = true := by decide +kernel
theorem Jca : chk 2 8 168 24 = true := by decide +kernel
theorem Jb9 : chk 2 8 192 24 = true := by decide +kernel
theorem Jb8 : chk 2 8 216 24 = true := by decide +kernel
theorem Jb7 : chk 2 8 240 16 = true := by decide +kernel
theorem Jgc : chk 3 2 0 9 = true := by decide +kernel
theorem Jgb : chk 3 3 0 27 = true := by decide +kernel
theorem Jga : chk 3 4 0 64 = true := by decide +kernel
theorem Jdx : chk 3 4 64 17 = true := by decide +kernel
theorem Jf9 : chk 3 5 0 24 = true := by decide +kernel
theorem Jdw : chk 3 5 24 24 = true := by decide +kernel
theorem Jdv : chk 3 5 48 24 = true := by decide +kernel
theorem Jdu : chk 3 5 72 24 = true := by decide +kernel
theorem Jdt : chk 3 5 96 24 = true := by decide +kernel
theorem Jb6 : chk 3 5 120 24 = true := by decide +kernel
theorem Jb5 : chk 3 5 144 24 = true := by decide +kernel
theorem Jb4 : chk 3 5 168 24 = true := by decide +kernel
theorem Jb3 : chk 3 5 192 24 = true := by decide +kernel
theorem Jb2 : chk 3 5 216 24 = true := by decide +kernel
theorem Jb1 : chk 3 5 240 3 = true := by decide +kernel
theorem Jf8 : chk 5 2 0 25 = true := by decide +kernel
theorem Jf7 : chk 5 3 0 64 = true := by decide +kernel
theorem Jds : chk 5 3 64 61 = true := by decide +kernel
theorem Jf6 : chk 7 2 0 49 = true := by decide +kernel
theorem Jd4 : chk 11 2 0 64 = true := by decide +kernel
theorem Jce : chk 11 2 64 57 = true := by decide +kernel
theorem Jd3 : chk 13 2 0 64 = true := by decide +kernel
theorem Jcd : chk 13 2 64 64 = true := by decide +kernel
theorem Jaz : chk 13 2 128 41 = true := by decide +kernel
theorem chk1_0 : ([2, 3, 5, 7, 11, 13, 17, 19, 23, 29, 31, 37, 41, 43, 47, 53, 59, 61] : List Nat).all (fun p => Jdn p 1 [0]) = true := by decide +kernel
theorem chk1_1 : ([67, 71, 73, 79, 83, 89, 97, 101, 103, 107, 109, 113, 127, 131, 137, 139, 149, 151] : List Nat).all (fun p => Jdn p 1 [0]) = true := by decide +kernel
theorem chk1_2 : ([157, 163, 167, 173, 179, 181, 191, 193, 197, 199, 211, 223, 227, 229, 233, 239, 241, 251] : List Nat).all (fun p => Jdn p 1 [0]) = true := by decide +kernel
theorem gx_2_2 {v : Nat} (hv : v < 2 ^ 2) (hI : Irr 2 2 (dv 2 v)) : ∃ g, Gn (2 ^ 2) (Jt 2 2 (dv 2 v)) g := by
 have hv2 : v < 4 := hv; exact Jr (by decide) (by decide) Jgj (by omega) (by omega) hv hI
theorem gx_2_3 {v : Nat} (hv : v < 2 ^ 3) (hI : Irr 2 3 (dv 2 v)) : ∃ g, Gn (2 ^ 3) (Jt 2 3 (dv 2 v)) g := by
 have hv2 : v < 8 := hv; exact Jr (by decide) (by decide) Jgi (by omega) (by omega) hv hI
theorem gx_2_4 {v : Nat} (hv : v < 2 ^ 4) (hI : Irr 2 4 (dv 2 v)) : ∃ g, Gn (2 ^ 4) (Jt 2 4 (dv 2 v)) g := by
 have hv2 : v < 16 := hv; exact Jr (by decide) (by decide) Jgh (by omega) (by omega) hv hI
theorem gx_2_5 {v : Nat} (hv : v < 2 ^ 5) (hI : Irr 2 5 (dv 2 v)) : ∃ g, Gn (2 ^ 5) (Jt 2 5 (dv 2 v)) g := by
 have hv2 : v < 32 := hv; exact Jr (by decide) (by decide) Jgg (by omega) (by omega) hv hI
theorem gx_2_6 {v : Nat} (hv : v < 2 ^ 6) (hI : Irr 2 6 (dv 2 v)) : ∃ g, Gn (2 ^ 6) (Jt 2 6 (dv 2 v)) g := by
 have hv2 : v < 64 := hv; exact Jr (by decide) (by decide) Jgf (by omega) (by omega) hv hI
theorem gx_2_7 {v : Nat} (hv : v < 2 ^ 7) (hI : Irr 2 7 (dv 2 v)) : ∃ g, Gn (2 ^ 7) (Jt 2 7 (dv 2 v)) g := by
 have hv2 : v < 128 := hv; rcases Nat.lt_or_ge v 64 with h | h
 .exact Jr (by decide) (by decide) Jge (by omega) (by omega) hv hI
 exact Jr (by decide) (by decide) Jd2 (by omega) (by omega) hv hI
theorem gx_2_8 {v : Nat} (hv : v < 2 ^ 8) (hI : Irr 2 8 (dv 2 v)) : ∃ g, Gn (2 ^ 8) (Jt 2 8 (dv 2 v)) g := by
 have hv2 : v < 256 := hv; rcases Nat.lt_or_ge v 24 with h | h
 .exact Jr (by decide) (by decide) Jgd (by omega) (by omega) hv hI
 rcases Nat.lt_or_ge v 48 with h | h
 .exact Jr (by decide) (by decide) Jd1 (by omega) (by omega) hv hI
 rcases Nat.lt_or_ge v 72 with h | h
 .exact Jr (by decide) (by decide) Jd0 (by omega) (by omega) hv hI
 rcases Nat.lt_or_ge v 96 with h | h
 .exact Jr (by decide) (by decide) Jdz (by omega) (by omega) hv hI
 rcases Nat.lt_or_ge v 120 with h | h
 .exact Jr (by decide) (by decide) Jdy (by omega) (by omega) hv hI
 rcases Nat.lt_or_ge v 144 with h | h
 .exact Jr (by decide) (by decide) Jcc (by omega) (by omega) hv hI
 rcases Nat.lt_or_ge v 168 with h | h
 .exact Jr (by decide) (by decide) Jcb (by omega) (by omega) hv hI
 rcases Nat.lt_or_ge v 192 with h | h
 .exact Jr (by decide) (by decide) Jca (by omega) (by omega) hv hI
 rcases Nat.lt_or_ge v 216 with h | h
 .exact Jr (by decide) (by decide) Jb9 (by omega) (by omega) hv hI
 rcases Nat.lt_or_ge v 240 with h | h
 .exact Jr (by decide) (by decide) Jb8 (by omega) (by omega) hv hI
 exact Jr (by decide) (by decide) Jb7 (by omega) (by omega) hv hI
theorem gx_3_2 {v : Nat} (hv : v < 3 ^ 2) (hI : Irr 3 2 (dv 3 v)) : ∃ g, Gn (3 ^ 2) (Jt 3 2 (dv 3 v)) g := by
 have hv2 : v < 9 := hv; exact Jr (by decide) (by decide) Jgc (by omega) (by omega) hv hI
theorem gx_3_3 {v : Nat} (hv : v < 3 ^ 3) (hI : Irr 3 3 (dv 3 v)) : ∃ g, Gn (3 ^ 3) (Jt 3 3 (dv 3 v)) g := by
 have hv2 : v < 27 := hv; exact Jr (by decide) (by decide) Jgb (by omega) (by omega) hv hI
theorem gx_3_4 {v : Nat} (hv : v < 3 ^ 4) (hI : Irr 3 4 (dv 3 v)) : ∃ g, Gn (3 ^ 4) (Jt 3 4 (dv 3 v)) g := by
 have hv2 : v < 81 := hv; rcases Nat.lt_or_ge v 64 with h | h
 .exact Jr (by decide) (by decide) Jga (by omega) (by omega) hv hI
 exact Jr (by decide) (by decide) Jdx (by omega) (by omega) hv hI
theorem gx_3_5 {v : Nat} (hv : v < 3 ^ 5) (hI : Irr 3 5 (dv 3 v)) : ∃ g, Gn (3 ^ 5) (Jt 3 5 (dv 3 v)) g := by
 have hv2 : v < 243 := hv; rcases Nat.lt_or_ge v 24 with h | h
 .exact Jr (by decide) (by decide) Jf9 (by omega) (by omega) hv hI
 rcases Nat.lt_or_ge v 48 with h | h
 .exact Jr (by decide) (by decide) Jdw (by omega) (by omega) hv hI
 rcases Nat.lt_or_ge v 72 with h | h
 .exact Jr (by decide) (by decide) Jdv (by omega) (by omega) hv hI
 rcases Nat.lt_or_ge v 96 with h | h
 .exact Jr (by decide) (by decide) Jdu (by omega) (by omega) hv hI
 rcases Nat.lt_or_ge v 120 with h | h
 .exact Jr (by decide) (by decide) Jdt (by omega) (by omega) hv hI
 rcases Nat.lt_or_ge v 144 with h | h
 .exact Jr (by decide) (by decide) Jb6 (by omega) (by omega) hv hI
 rcases Nat.lt_or_ge v 168 with h | h
 .exact Jr (by decide) (by decide) Jb5 (by omega) (by omega) hv hI
 rcases Nat.lt_or_ge v 192 with h | h
 .exact Jr (by decide) (by decide) Jb4 (by omega) (by omega) hv hI
 rcases Nat.lt_or_ge v 216 with h | h
 .exact Jr (by decide) (by decide) Jb3 (by omega) (by omega) hv hI
 rcases Nat.lt_or_ge v 240 with h | h
 .exact Jr (by decide) (by decide) Jb2 (by omega) (by omega) hv hI
 exact Jr (by decide) (by decide) Jb1 (by omega) (by omega) hv hI
theorem gx_5_2 {v : Nat} (hv : v < 5 ^ 2) (hI : Irr 5 2 (dv 5 v)) : ∃ g, Gn (5 ^ 2) (Jt 5 2 (dv 5 v)) g := by
 have hv2 : v < 25 := hv; exact Jr (by decide) (by decide) Jf8 (by omega) (by omega) hv hI
theorem gx_5_3 {v : Nat} (hv : v < 5 ^ 3) (hI : Irr 5 3 (dv 5 v)) : ∃ g, Gn (5 ^ 3) (Jt 5 3 (dv 5 v)) g := by
 have hv2 : v < 125 := hv; rcases Nat.lt_or_ge v 64 with h | h
 .exact Jr (by decide) (by decide) Jf7 (by omega) (by omega) hv hI
 exact Jr (by decide) (by decide) Jds (by omega) (by omega) hv hI
theorem gx_7_2 {v : Nat} (hv : v < 7 ^ 2) (hI : Irr 7 2 (dv 7 v)) : ∃ g, Gn (7 ^ 2) (Jt 7 2 (dv 7 v)) g := by
 have hv2 : v < 49 := hv; exact Jr (by decide) (by decide) Jf6 (by omega) (by omega) hv hI
theorem Jjq {v : Nat} (hv : v < 11 ^ 2) (hI : Irr 11 2 (dv 11 v)) : ∃ g, Gn (11 ^ 2) (Jt 11 2 (dv 11 v)) g := by
 have hv2 : v < 121 := hv; rcases Nat.lt_or_ge v 64 with h | h
 .exact Jr (by decide) (by decide) Jd4 (by omega) (by omega) hv hI
 exact Jr (by decide) (by decide) Jce (by omega) (by omega) hv hI
theorem Jjp {v : Nat} (hv : v < 13 ^ 2) (hI : Irr 13 2 (dv 13 v)) : ∃ g, Gn (13 ^ 2) (Jt 13 2 (dv 13 v)) g := by
 have hv2 : v < 169 := hv; rcases Nat.lt_or_ge v 64 with h | h
 .exact Jr (by decide) (by decide) Jd3 (by omega) (by omega) hv hI
 rcases Nat.lt_or_ge v 128 with h | h
 .exact Jr (by decide) (by decide) Jcd (by omega) (by omega) hv hI
 exact Jr (by decide) (by decide) Jaz (by omega) (by omega) hv hI
noncomputable def prL : List Nat := [2, 3, 5, 7, 11, 13, 17, 19, 23, 29, 31, 37, 41, 43, 47, 53, 59, 61, 67, 71, 73, 79, 83, 89, 97, 101, 103, 107, 109, 113, 127, 131, 137, 139, 149, 151, 157, 163, 167, 173, 179, 181, 191, 193, 197, 199, 211, 223, 227, 229, 233, 239, 241, 251]
theorem Ji9 : (List.range 257).all (fun p => prL.contains p || Nat.blt p 2 || (List.range p).any (fun e => Nat.ble 2 e && Nat.beq (p % e) 0)) = true := by decide +kernel
theorem Ji8 {p : Nat} (hp : IsLf p p) (h : p <= 256) : p ∈ prL := by
 have h1 := List.all_eq_true.1 Ji9 p (List.mem_range.2 (by omega)); simp only [Bool.or_eq_true, List.contains_iff_mem, List.any_eq_true, List.mem_range, Bool.and_eq_true] at h1; rcases h1 with (h1 | h1) | ⟨e, he, h2, h3⟩
 .exact h1
 .have := hp.two; have := Nat.le_of_ble_eq_true h1; omega
 .have := hp.min e (Nat.le_of_ble_eq_true h2) (Nat.eq_of_beq_eq_true h3); omega
theorem gx_1 {p : Nat} (hp : IsLf p p) (h : p <= 256) : ∃ g, Gn (p ^ 1) (Jt p 1 (dv p 0)) g := by
 have hm := Ji8 hp h; have hg : Jdn p 1 [0] = true := by
  unfold prL at hm; rw [show ([2, 3, 5, 7, 11, 13, 17, 19, 23, 29, 31, 37, 41, 43, 47, 53, 59, 61, 67, 71, 73, 79, 83, 89, 97, 101, 103, 107, 109, 113, 127, 131, 137, 139, 149, 151, 157, 163, 167, 173, 179, 181, 191, 193, 197, 199, 211, 223, 227, 229, 233, 239, 241, 251] : List Nat) = ([2, 3, 5, 7, 11, 13, 17, 19, 23, 29, 31, 37, 41, 43, 47, 53, 59, 61] : List Nat) ++ ([67, 71, 73, 79, 83, 89, 97, 101, 103, 107, 109, 113, 127, 131, 137, 139, 149, 151] : List Nat) ++ ([157, 163, 167, 173, 179, 181, 191, 193, 197, 199, 211, 223, 227, 229, 233, 239, 241, 251] : List Nat) from rfl] at hm; simp only [List.mem_append] at hm; rcases hm with (h | h) | h
  .exact List.all_eq_true.1 chk1_0 p h
  .exact List.all_eq_true.1 chk1_1 p h
  .exact List.all_eq_true.1 chk1_2 p h
 refine Je0 hp.two (by decide) ⟨rfl, fun i hi => ?_⟩ hg; rw [show i = 0 by omega, ZQ]; simp [vz]
theorem Jhj {p m : Nat} (hp : IsLf p p) (hm : 2 <= m) (hq : p ^ m <= 256) : (p = 2 /\ m = 2) ∨ (p = 2 /\ m = 3) ∨ (p = 2 /\ m = 4) ∨ (p = 2 /\ m = 5) ∨ (p = 2 /\ m = 6) ∨ (p = 2 /\ m = 7) ∨ (p = 2 /\ m = 8) ∨ (p = 3 /\ m = 2) ∨ (p = 3 /\ m = 3) ∨ (p = 3 /\ m = 4) ∨ (p = 3 /\ m = 5) ∨ (p = 5 /\ m = 2) ∨ (p = 5 /\ m = 3) ∨ (p = 7 /\ m = 2) ∨ (p = 11 /\ m = 2) ∨ (p = 13 /\ m = 2) := by
  have h2 := hp.two
  have hpow : ∀ k, k <= m -> p ^ k <= 256 := fun k hk => Nat.le_trans (Nat.pow_le_pow_right (by omega) hk) hq
  have hp2 : p <= 16 := by
    rcases Nat.lt_or_ge 16 p with h | h
    . have h1 := hpow 2 hm
      have h3 : 17 ^ 2 <= p ^ 2 := Nat.pow_le_pow_left h 2
      omega
    . exact h
  have hnd : ∀ e, 2 <= e -> e < p -> p % e ≠ 0 := fun e he hlt h0 => by have := hp.min e he h0; omega
  have hc : p = 2 ∨ p = 3 ∨ p = 5 ∨ p = 7 ∨ p = 11 ∨ p = 13 := by
    have h3 := hnd 2 (by omega)
    have h4 := hnd 3 (by omega)
    omega
  rcases hc with rfl | rfl | rfl | rfl | rfl | rfl
  . have : m <= 8 := by
      rcases Nat.lt_or_ge 8 m with h | h
      . have := hpow 9 h; omega
      . exact h
    omega
  . have : m <= 5 := by
      rcases Nat.lt_or_ge 5 m with h | h
      . have := hpow 6 h; omega
      . exact h
    omega
  . have : m <= 3 := by
      rcases Nat.lt_or_ge 3 m with h | h
      . have := hpow 4 h; omega
      . exact h
    omega
  . have : m <= 2 := by
      rcases Nat.lt_or_ge 2 m with h | h
      . have := hpow 3 h; omega
      . exact h
    omega
  . have : m <= 2 := by
      rcases Nat.lt_or_ge 2 m with h | h
      . have := hpow 3 h; omega
      . exact h
    omega
  . have : m <= 2 := by
      rcases Nat.lt_or_ge 2 m with h | h
      . have := hpow 3 h; omega
      . exact h
    omega
theorem gen_ex {p m v : Nat} (hp : IsLf p p) (hm : 0 < m) (hq : p ^ m <= 256) (hv : v < p ^ m) (h1 : m = 1 -> v = 0) (hI : Irr p m (dv p v)) : ∃ g, Gn (p ^ m) (Jt p m (dv p v)) g := by
  rcases Nat.lt_or_ge m 2 with h | h
  . have : m = 1 := by omega
    subst this
    rw [h1 rfl]
    exact gx_1 hp (by simpa using hq)
  . rcases Jhj hp h hq with ⟨rfl, rfl⟩ | ⟨rfl, rfl⟩ | ⟨rfl, rfl⟩ | ⟨rfl, rfl⟩ | ⟨rfl, rfl⟩ | ⟨rfl, rfl⟩ | ⟨rfl, rfl⟩ | ⟨rfl, rfl⟩ | ⟨rfl, rfl⟩ | ⟨rfl, rfl⟩ | ⟨rfl, rfl⟩ | ⟨rfl, rfl⟩ | ⟨rfl, rfl⟩ | ⟨rfl, rfl⟩ | ⟨rfl, rfl⟩ | ⟨rfl, rfl⟩
    . exact gx_2_2 hv hI
    . exact gx_2_3 hv hI
    . exact gx_2_4 hv hI
    . exact gx_2_5 hv hI
    . exact gx_2_6 hv hI
    . exact gx_2_7 hv hI
    . exact gx_2_8 hv hI
    . exact gx_3_2 hv hI
    . exact gx_3_3 hv hI
    . exact gx_3_4 hv hI
    . exact gx_3_5 hv hI
    . exact gx_5_2 hv hI
    . exact gx_5_3 hv hI
    . exact gx_7_2 hv hI
    . exact Jjq hv hI
    . exact Jjp hv hI
end Go.Proofs.Ytjgpkljepgcekaa
namespace Go.Proofs.Ytjgpkljepgcekaa
def vo (l : LI) : Vec := fun i => l.getD i 0
theorem JG (l : LI) (i : Nat) : gi l (i : Int) = vo l i := rfl
theorem J1 (l : LI) (i : Nat) (x : Int) : si l (i : Int) x = l.set i x := rfl
theorem Yw (a b : Nat) : (a : Int).tmod (b : Int) = ((a % b : Nat) : Int) := rfl
theorem Jbb (a b : Nat) : (a : Int).tdiv (b : Int) = ((a / b : Nat) : Int) := rfl
theorem J0 (l : LI) (i j : Nat) (x : Int) : vo (l.set i x) j = if i = j /\ i < l.length then x else vo l j := by
 unfold vo; rw [List.getD_eq_getElem?_getD, List.getD_eq_getElem?_getD, List.getElem?_set]; by_cases h : i = j
 .subst h; by_cases h2 : i < l.length
  .simp [h2]
  .simp [h2]
 .simp [h]
theorem vo_rep (n : Nat) (i : Nat) : vo (List.replicate n (0 : Int)) i = 0 := by
 unfold vo; rw [List.getD_eq_getElem?_getD, List.getElem?_replicate]; split <;> rfl
theorem vo_hi {l : LI} {i : Nat} (h : l.length <= i) : vo l i = 0 := by
 unfold vo; rw [List.getD_eq_getElem?_getD, List.getElem?_eq_none h]; rfl
theorem Zc {l o : LI} (h : l.length = o.length) (hv : ∀ i, i < l.length -> vo l i = vo o i) : l = o := by
 refine List.ext_getElem h fun i h1 h2 => ?_; have := hv i h1; unfold vo at this; rw [List.getD_eq_getElem?_getD, List.getD_eq_getElem?_getD, List.getElem?_eq_getElem h1, List.getElem?_eq_getElem h2] at this; exact this
theorem Jm {x : Int} (h : -1000000000000 <= x) (h2 : x <= 1000000000000) : I64 x := ⟨by omega, by omega⟩
theorem QE {n : Nat} (h : n <= 1000000000000) : I64 (n : Int) := Jm (by omega) (by omega)
def dgi (p n x : Nat) : LI := (dgl p n x).map fun (a : Nat) => (a : Int)
theorem JC (p n x : Nat) : (dgi p n x).length = n := by simp [dgi, JW]
theorem Qh {p n x i : Nat} (h : i < n) : vo (dgi p n x) i = dv p x i := by
 rw [<- YV p n x i h]; unfold vo dgi; rw [List.getD_eq_getElem?_getD, List.getElem?_map, List.getD_eq_getElem?_getD]; rw [List.getElem?_eq_getElem (by rw [JW]; exact h)]; rfl
theorem Jg3 {b : Bool} {Q : Int -> Prop} (h : Q (if b = true then 0 else 1)) : ZL b Q := by
 cases b
 .exact ⟨fun h' => absurd h' (by decide), fun _ => h⟩
 .exact ⟨fun _ => h, fun h' => absurd h' (by decide)⟩
theorem Jjj {n k : Nat} (hn : 2 <= n) (hk : n < k * k) (h : ∀ e, e < k -> 2 <= e -> n % e ≠ 0) : IsLf n n := by
 refine ⟨hn, Nat.mod_self n, fun e he hm => ?_⟩; rcases Nat.lt_or_ge e k with hc | hc
 .exact absurd hm (h e hc he)
 .obtain ⟨t, ht⟩ := Nat.dvd_of_mod_eq_zero hm; have hq1 : t < k := by
   rcases Nat.lt_or_ge t k with h1 | h1
   .exact h1
   .have := Nat.mul_le_mul hc h1; omega
  rcases Nat.lt_or_ge t 2 with h2 | h2
  .have : t = 0 ∨ t = 1 := by omega
   rcases this with rfl | rfl
   .omega
   .omega
  .exact absurd (Nat.mod_eq_zero_of_dvd ⟨e, by rw [ht, Nat.mul_comm]⟩) (h t hq1 h2)
theorem Zg {x : Nat} {Q : Int -> Prop} (h2 : 2 <= x) (hx : x <= 256) (h : ∀ d : Nat, IsLf x d -> Q d) : J5 x Q := by
 refine ⟨fun z => ∃ k : Nat, z = k /\ 2 <= k /\ k <= 17 /\ ∀ e, e < k -> 2 <= e -> x % e ≠ 0, fun z => (20 - z).toNat, ⟨2, rfl, by omega, by omega, fun e _ _ => by omega⟩, ?_⟩; rintro _ ⟨k, rfl, hk2, hk, hm⟩; dsimp only; have e1 : ((k : Nat) : Int) * (k : Int) = ((k * k : Nat) : Int) := by push_cast; rfl
 have hb : k * k <= 17 * 17 := Nat.mul_le_mul hk hk; rw [e1]; refine ⟨Jm (by omega) (by omega), fun hle => ⟨by omega, ?_, ?_⟩, fun hgt => ?_⟩
 .intro h0; rw [Yw] at h0; refine h k ⟨hk2, by omega, fun e he h3 => ?_⟩; rcases Nat.lt_or_ge e k with hc | hc
  .exact absurd h3 (hm e hc he)
  .exact hc
 .intro h0; rw [Yw] at h0; have hk16 : k <= 16 := by
   rcases Nat.lt_or_ge 16 k with hc | hc
   .have := Nat.mul_le_mul hc hc; omega
   .exact hc
  refine ⟨Jm (by omega) (by omega), ⟨k + 1, by push_cast; rfl, by omega, by omega, fun e he h3 => ?_⟩, by omega⟩; rcases Nat.lt_or_ge e k with hc | hc
  .exact hm e hc h3
  .rw [show e = k by omega]; omega
 .exact h x (Jjj h2 (by omega) hm)
theorem IsLf.uniq {n d e : Nat} (h : IsLf n d) (h' : IsLf n e) : d = e := Nat.le_antisymm (h.min e h'.two h'.dvd) (h'.min d h.two h.dvd)
theorem Jfi {x : Int} {Q : Bool -> Prop} (hx : x <= 256) (h : ∀ b : Bool, (b = true ↔ 2 <= x /\ IsLf x.toNat x.toNat) -> Q b) : Yb x Q := by
 refine ⟨fun h2 => ?_, fun h2 => h false ⟨fun h' => by (cases h'), fun h' => absurd h'.1 h2⟩⟩; obtain ⟨n, rfl⟩ := Int.eq_ofNat_of_zero_le (show 0 <= x by omega); refine Zg (by omega) (by omega) fun d hd => h _ ?_; rw [decide_eq_true_iff, Int.toNat_natCast]; constructor
 .intro he; have : d = n := by omega
  subst this; exact ⟨h2, hd⟩
 .rintro ⟨_, hn⟩; rw [hd.uniq hn]
theorem Jg0 {x : Nat} {Q : Bool -> Prop} (h2 : 2 <= x) (hx : x <= 256) (h : ∀ b : Bool, (b = true ↔ IsLf x x) -> Q b) : YI x Q := by
 refine ⟨fun z => ∃ k : Nat, z = k /\ 2 <= k /\ k <= x /\ ∀ e, e < k -> 2 <= e -> x % e ≠ 0, fun z => (x - z).toNat, ⟨2, rfl, by omega, by omega, fun e _ _ => by omega⟩, ?_⟩; rintro _ ⟨k, rfl, hk2, hk, hm⟩; dsimp only; refine ⟨fun hlt => ⟨by omega, fun h0 => ?_, fun h0 => ?_⟩, fun hge => ?_⟩
 .rw [Yw] at h0; refine h false ⟨fun h' => by (cases h'), fun hp => ?_⟩; have := hp.min k hk2 (by omega); omega
 .rw [Yw] at h0; refine ⟨Jm (by omega) (by omega), ⟨k + 1, by push_cast; rfl, by omega, by omega, fun e he h3 => ?_⟩, by omega⟩; rcases Nat.lt_or_ge e k with hc | hc
  .exact hm e hc h3
  .rw [show e = k by omega]; omega
 .refine h true ⟨fun _ => ⟨h2, Nat.mod_self x, fun e he h0 => ?_⟩, fun _ => rfl⟩; rcases Nat.lt_or_ge e x with hc | hc
  .exact absurd h0 (hm e (by omega) he)
  .exact hc
theorem JJ {p a b : Nat} (hp : 0 < p) (h : a <= b) : p ^ a <= p ^ b := Nat.pow_le_pow_right hp h
theorem Jae {p : Nat} {M : Int} {mf : LI} {Q : Int -> Prop} (hp : 2 <= p) (hp2 : p <= 256) (h : ∀ r : Int, (p ^ M.toNat <= 256 -> r = ((p ^ M.toNat : Nat) : Int)) -> (256 < p ^ M.toNat -> 256 < r) -> Q r) : QL p M mf Q := by
 refine ⟨fun r => (p ^ M.toNat <= 256 -> r = ((p ^ M.toNat : Nat) : Int)) /\ (256 < p ^ M.toNat -> 256 < r), ⟨fun z i => ∃ k : Nat, i = k /\ k <= M.toNat /\ z = ((p ^ k : Nat) : Int) /\ p ^ k <= 65536 /\ k <= 16, fun z i => (20 - i).toNat, ⟨0, rfl, Nat.zero_le _, by simp, by simp, by omega⟩, ?_⟩, fun r hr => h r hr.1 hr.2⟩; rintro _ _ ⟨k, rfl, hk, rfl, hb, hk16⟩; dsimp only; refine ⟨fun hlt => ⟨fun hle => ?_, fun hgt => ?_⟩, fun hge => ?_⟩
 .have hk8 : p ^ k <= 256 := by omega
  have hkk : k < 16 := by
   rcases Nat.lt_or_ge k 16 with hc | hc
   .exact hc
   .have h1 := JJ (p := p) (by omega) hc; have h2 : 2 ^ 16 <= p ^ 16 := Nat.pow_le_pow_left hp 16; omega
  have e1 : ((p ^ k : Nat) : Int) * (p : Int) = ((p ^ (k + 1) : Nat) : Int) := by rw [Nat.pow_succ]; push_cast; rfl
  have hb2 : p ^ (k + 1) <= 65536 := by
   rw [Nat.pow_succ]; have := Nat.mul_le_mul hk8 hp2; omega
  rw [e1]; exact ⟨Jm (by omega) (by omega), Jm (by omega) (by omega), ⟨k + 1, by push_cast; rfl, by omega, rfl, hb2, by omega⟩, by omega⟩
 .have := JJ (p := p) (by omega) hk; exact ⟨fun h' => by omega, fun _ => by omega⟩
 .have : k = M.toNat := by omega
  subst this; exact ⟨fun _ => rfl, fun h' => by omega⟩
def ZN (P M : Int) : Int := if 2 <= P /\ 1 <= M /\ P.toNat ^ M.toNat <= 256 then ((P.toNat ^ M.toNat : Nat) : Int) else 0
theorem Jba {P M : Int} {mf : LI} {Q : Int -> Prop} (h : Q (ZN P M)) : QX P M mf Q := by
 refine ⟨fun h1 => ?_, fun h1 => ⟨fun h2 => ?_, fun h2 => ⟨fun h3 => ?_, fun h3 => ?_⟩⟩⟩
 .rw [ZN, if_neg (by omega)] at h; exact h
 .rw [ZN, if_neg (by omega)] at h; exact h
 .rw [ZN, if_neg] at h
  .exact h
  .rintro ⟨h4, h5, h6⟩; have e1 : 2 ^ 9 <= P.toNat ^ 9 := Nat.pow_le_pow_left (by omega) 9; have e2 := JJ (p := P.toNat) (by omega) (show 9 <= M.toNat by omega); omega
 .obtain ⟨p, rfl⟩ := Int.eq_ofNat_of_zero_le (show 0 <= P by omega); obtain ⟨m, rfl⟩ := Int.eq_ofNat_of_zero_le (show 0 <= M by omega); refine ⟨fun z i => ∃ k : Nat, i = k /\ k <= m /\ z = ((p ^ k : Nat) : Int) /\ p ^ k <= 256, fun z i => (20 - i).toNat, ⟨0, rfl, Nat.zero_le _, by simp, by simp⟩, ?_⟩; rintro _ _ ⟨k, rfl, hk, rfl, hb⟩; dsimp only; rw [show (256 : Int) = ((256 : Nat) : Int) from rfl, Jbb]; have hd : 256 / p <= 256 := Nat.div_le_self _ _; have hdm : ∀ a, a <= 256 / p ↔ a * p <= 256 := fun a => Nat.le_div_iff_mul_le (show 0 < p by omega); generalize 256 / p = D at *
  refine ⟨fun hlt => ⟨⟨by omega, Jm (by omega) (by omega)⟩, fun hgt => ?_, fun hle => ?_⟩, fun hge => ?_⟩
  .rw [ZN, if_neg] at h
   .exact h
   .rintro ⟨_, _, h6⟩; simp only [Int.toNat_natCast] at h6; have h7 : p ^ (k + 1) <= 256 := Nat.le_trans (JJ (by omega) (by omega)) h6; rw [Nat.pow_succ] at h7; have := (hdm _).2 h7; omega
  .have h7 : p ^ (k + 1) <= 256 := by rw [Nat.pow_succ]; exact (hdm _).1 (by omega)
   have e1 : ((p ^ k : Nat) : Int) * (p : Int) = ((p ^ (k + 1) : Nat) : Int) := by rw [Nat.pow_succ]; push_cast; rfl
   rw [e1]; exact ⟨Jm (by omega) (by omega), Jm (by omega) (by omega), ⟨k + 1, by push_cast; rfl, by omega, rfl, h7⟩, by omega⟩
  .have : k = m := by omega
   subst this; rw [ZN, if_pos ⟨by omega, by omega, by simpa using hb⟩] at h
   simpa using h
theorem YC (x p i : Nat) : x / p ^ i / p = x / p ^ (i + 1) := by rw [Nat.div_div_eq_div_mul, Nat.pow_succ]
theorem Zh {p n x : Nat} {Q : LI -> Prop} (hp : 0 < p) (hn : n <= 1000) (hx : x <= 1000) (h : Q (dgi p n x)) : QD p n x Q := by
 refine ⟨⟨by omega, by omega, by omega⟩, fun l z i => ∃ k : Nat, i = k /\ k <= n /\ z = ((x / p ^ k : Nat) : Int) /\ l.length = n /\ ∀ j, j < k -> vo l j = dv p x j, fun l z i => (n - i).toNat, ⟨0, rfl, Nat.zero_le _, by simp, by simp, fun j hj => by omega⟩, ?_⟩; rintro l _ _ ⟨k, rfl, hk, rfl, hl, hv⟩; dsimp only; have hd : x / p ^ k <= x := Nat.div_le_self _ _; have hd2 : x / p ^ k / p <= x / p ^ k := Nat.div_le_self _ _; rw [Jbb, Yw, J1]; simp only [Int.toNat_natCast]; refine ⟨fun hlt => ⟨by omega, ⟨by omega, by omega⟩, ⟨by omega, QE (by omega)⟩, Jm (by omega) (by omega), ⟨k + 1, by push_cast; rfl, by omega, by rw [YC], by rw [List.length_set, hl], fun j hj => ?_⟩, by omega⟩, fun hge => ?_⟩
 .rw [J0]; by_cases hjk : k = j
  .subst hjk; rw [if_pos ⟨rfl, by omega⟩]; rfl
  .rw [if_neg (by omega)]; exact hv j (by omega)
 .have : l = dgi p n x := Zc (by rw [hl, JC]) fun j hj => by rw [hv j (by omega), Qh (by omega)]
  rw [this]; exact h
theorem Jfg {p n x : Nat} {Q : LI -> Prop} (hp : 0 < p) (hn : n <= 1000) (hx : x <= 1000) (h : Q (dgi p n x)) : Q8 x p n Q := by
 refine ⟨⟨by omega, by omega, by omega⟩, fun l z i => ∃ k : Nat, i = k /\ k <= n /\ z = ((x / p ^ k : Nat) : Int) /\ l.length = n /\ ∀ j, j < k -> vo l j = dv p x j, fun l z i => (n - i).toNat, ⟨0, rfl, Nat.zero_le _, by simp, by simp, fun j hj => by omega⟩, ?_⟩; rintro l _ _ ⟨k, rfl, hk, rfl, hl, hv⟩; dsimp only; have hd : x / p ^ k <= x := Nat.div_le_self _ _; have hd2 : x / p ^ k / p <= x / p ^ k := Nat.div_le_self _ _; rw [Jbb, Yw, J1]; simp only [Int.toNat_natCast]; refine ⟨fun hlt => ⟨by omega, ⟨by omega, by omega⟩, ⟨by omega, QE (by omega)⟩, Jm (by omega) (by omega), ⟨k + 1, by push_cast; rfl, by omega, by rw [YC], by rw [List.length_set, hl], fun j hj => ?_⟩, by omega⟩, fun hge => ?_⟩
 .rw [J0]; by_cases hjk : k = j
  .subst hjk; rw [if_pos ⟨rfl, by omega⟩]; rfl
  .rw [if_neg (by omega)]; exact hv j (by omega)
 .have : l = dgi p n x := Zc (by rw [hl, JC]) fun j hj => by rw [hv j (by omega), Qh (by omega)]
  rw [this]; exact h
theorem Ja9 {p m x : Nat} {mf : LI} {Q : Int -> Prop} (hp : 2 <= p) (hp2 : p <= 256) (hx : x <= 256) (h : Q ((if x % p = p - 1 then x - x % p else x + 1 : Nat) : Int)) : Qu p m mf x Q := by
 have hm := Nat.mod_lt x (show 0 < p by omega); have hm2 := Nat.mod_le x p; refine ⟨by omega, Jm (by omega) (by omega), fun h0 => ⟨by omega, ?_⟩, fun h0 => ?_⟩
 .rw [Yw] at h0 ⊢; rw [if_pos (by omega)] at h; refine ⟨Jm (by omega) (by omega), ?_⟩; rw [show (x : Int) - ((x % p : Nat) : Int) = ((x - x % p : Nat) : Int) by omega]; exact h
 .rw [Yw] at h0; rw [if_neg (by omega)] at h; exact ⟨Jm (by omega) (by omega), by push_cast at h ⊢; exact h⟩
theorem Jag {l : LI} {Q : LI -> Prop} (hl : l.length <= 1000000) (h : Q l) : Yc l Q := by
 intro b hb; refine ⟨fun h1 => by rw [<- hb h1]; exact h, fun _ => ⟨by omega, by simpa using h⟩⟩
end Go.Proofs.Ytjgpkljepgcekaa
