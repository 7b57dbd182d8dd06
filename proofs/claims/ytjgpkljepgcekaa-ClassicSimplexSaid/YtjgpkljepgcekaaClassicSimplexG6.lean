/- Contracts of functions of the program, and what they lean on: D32, D35, D34, D36, Xq, Cd, D33, D37, Dt, Fa, Fb, Fg, Fp. -/
import Derived.Test.YtjgpkljepgcekaaClassicSimplexG5
import Derived.Lib.AppendZeros
set_option linter.unusedSimpArgs false
set_option linter.unusedVariables false
set_option maxRecDepth 4000
set_option maxHeartbeats 4000000
namespace Go.Proofs.Ytjgpkljepgcekaa
open Go.RowKit
def ZU (Fg : GFv) (Q : Int -> Prop) : Prop :=
  Q Fg.q
theorem Jdc {w : World} {Q : Int -> Prop} {Fg : GFv} {ag : Addr} {Bg : Nat} (hgg : GFR Bg w ag Fg) (hv : ZU Fg Q) :
  Calls Try.prog 44 #[.pointer (some ag)] w <| Rt w fun v Qr => ∃ (r0 : Int), v = .int .i64 r0 /\ Qr = [] /\ Q r0 := by
 have hgg_ := hgg; obtain ⟨Ag_mod, kg_mod, Ag_exp, kg_exp, Ag_log, kg_log, Ag_above, kg_above, hg_c, hg_mod, hg_exp, hg_log, hg_above⟩ := hgg_; refine Jk <| Ji (vs := [.pointer (some ag)]) [2] XF44 rfl rfl rfl rfl ?_; have hS := Jo w; unfold ZU at hv; refine Jc 8 <| Jd (off := 3) ZA rfl rfl <| Jm XU3 rfl rfl (Rd.at_ (hS.ro hg_c) (j := 3) rfl) rfl <| Jb 2 <| W.ret <| ⟨_, rfl, Fin.nil ?_⟩
 exact (hS.pick [] rfl).fin rfl ⟨Fg.q, rfl, rfl, hv⟩
def Jbf (qq : Int) (r : Int) (Q : Bool -> Prop) : Prop :=
  ∃ (I17 : Int -> Int -> Prop) (μ18 : Int -> Int -> Nat), I17 0 (0 : Int) /\ ∀ (z15 : Int) (z16 : Int), (I17 z15 z16 -> (((z16 < r) -> ((I64 (z15 * qq)) /\ ((I64 ((z15 * qq) + (1 : Int))) /\ ((((64 : Int) < ((z15 * qq) + (1 : Int))) -> Q false) /\ (¬ ((64 : Int) < ((z15 * qq) + (1 : Int))) -> ((I64 (z16 + 1)) /\ (I17 ((z15 * qq) + (1 : Int)) (z16 + 1) /\ μ18 ((z15 * qq) + (1 : Int)) (z16 + 1) < μ18 z15 z16))))))) /\ (¬ (z16 < r) -> Q true)))
theorem Jm8 {w : World} {Q : Bool -> Prop} {qq : Int} {r : Int}  (hv : Jbf qq r Q) :
   Calls Try.prog 43 #[.int .i64 qq, .int .i64 r] w <| Rt w fun v Qr => ∃ (r0 : Bool), v = .bool r0 /\ Qr = [] /\ Q r0 := by
 refine Jk <| Ji (vs := [nI qq, nI r]) [4] XF43 rfl rfl rfl rfl ?_; have hS := Jo w; unfold Jbf at hv; refine Jc 14 <| W.block ?_; obtain ⟨I17, μ18, hv, hk25⟩ := hv; refine JB (σ := Int × Int) (fun q w1 => match q with | (z15, z16) => I17 z15 z16 /\ St TT w none w1 []) (fun (z15, z16) => [(0, nI qq), (4, .bool false), (5, nI z15), (6, nI r), (7, nI z16)]) (fun (z15, z16) => μ18 z15 z16) ((0 : Int), (0 : Int)) ⟨hv, hS⟩ ⟨rfl, rfl, rfl, rfl, rfl, trivial⟩ ?_; rintro ⟨z15, z16⟩ w19 ⟨hv, hS⟩; have hv := hk25 z15 z16 hv; refine Jc 5 <| Jh rfl (fun c20 => ?_) (fun c20 => ?_)
 .have hv := hv.1 (oT c20); refine Jj <| Jw <| W.block <| Jc 4 ?_; obtain ⟨o21, hv⟩ := hv; refine WL.mul (r := (z15 * qq)) rfl rfl (wr o21) rfl ?_; obtain ⟨o22, hv⟩ := hv; refine WL.add (r := ((z15 * qq) + (1 : Int))) rfl rfl (wr o22) rfl <| Jb 2 <| Jc 5 <| Jh rfl (fun c23 => ?_) (fun c23 => ?_)
  .have hv := hv.1 (oT c23); refine Jc 4 <| W.ret <| ⟨_, rfl, Fin.nil ?_⟩
   exact (hS.pick [] rfl).fin rfl ⟨false, rfl, rfl, hv⟩
  have hv := hv.2 (oF c23); refine Jj <| JA ?_; obtain ⟨o24, hv⟩ := hv; refine WL.add (r := (z16 + 1)) rfl rfl (wr o24) rfl <| Jb 2 ?_; exact ⟨(((z15 * qq) + (1 : Int)), (z16 + 1)), sp rfl, hv.2, rfl, hv.1, hS⟩
 have hv := hv.2 (oF c20); refine Jy <| Jc 4 <| W.ret <| ⟨_, rfl, Fin.nil ?_⟩
 exact (hS.pick [] rfl).fin rfl ⟨true, rfl, rfl, hv⟩
def ZR (qq : Int) (n : Int) (x : Int) (Q : LI -> Prop) : Prop :=
  (0 <= n /\ n * 8 <= 281474976710656 /\ n <= 281474976710656) /\ ((I64 (n - 1)) /\ (∃ (I25 : LI -> Int -> Int -> Prop) (μ26 : LI -> Int -> Int -> Nat), I25 (List.replicate n.toNat (0 : Int)) x (n - 1) /\ ∀ (x22 : LI) (z23 : Int) (z24 : Int), (I25 x22 z23 z24 -> ((((0 : Int) <= z24) -> ((qq ≠ 0) /\ ((0 <= z24 /\ z24 < (n.toNat : Nat)) /\ ((qq ≠ 0 /\ I64 (z23.tdiv qq)) /\ ((I64 (z24 - 1)) /\ (I25 (si x22 z24 (z23.tmod qq)) (z23.tdiv qq) (z24 - 1) /\ μ26 (si x22 z24 (z23.tmod qq)) (z23.tdiv qq) (z24 - 1) < μ26 x22 z23 z24)))))) /\ (¬ ((0 : Int) <= z24) -> Q x22)))))
theorem Jje {w : World} {Q : LI -> Prop} {qq : Int} {n : Int} {x : Int}  (hv : ZR qq n x Q) :
  Calls Try.prog 45 #[.int .i64 qq, .int .i64 n, .int .i64 x] w <| Rt w fun v Qr => ∃ (x : LI)  (A : Option Addr) (c : Nat), v = .slice A x.length c /\ Qr = [.row 3 1 A x.length c (is x)] /\ Q x := by
 refine Jk <| Ji (vs := [nI qq, nI n, nI x]) [6] XF45 rfl rfl rfl rfl ?_; have hS := Jo w; unfold ZR at hv; refine Jc 7 ?_; obtain ⟨o11, hv⟩ := hv; refine QA (J := n) hS Jn XE3 rfl rfl o11 (QR _) rfl ?_; intro A12 w13 hS; refine Jb 2 <| Jc 4 ?_; obtain ⟨o15, hv⟩ := hv; refine WL.sub (r := (n - 1)) rfl rfl (wr o15) rfl <| Jb 2 <| W.block ?_; obtain ⟨I25, μ26, hv, hk34⟩ := hv; refine JB (σ := LI × Int × Int) (fun q w1 => match q with | (x22, z23, z24) => I25 x22 z23 z24 /\ St TT w none w1 [.row 3 1 A12 n.toNat n.toNat (is x22)]) (fun (x22, z23, z24) => [(0, nI qq), (2, nI z23), (6, .slice none 0 0), (7, .slice A12 n.toNat n.toNat), (8, nI z24)]) (fun (x22, z23, z24) => μ26 x22 z23 z24) (List.replicate n.toNat (0 : Int), x, (n - 1)) ⟨hv, hS⟩ ⟨rfl, rfl, rfl, rfl, rfl, trivial⟩ ?_; rintro ⟨x22, z23, z24⟩ w27 ⟨hv, hS⟩; have hv := hk34 x22 z23 z24 hv; refine Jc 6 <| Jh rfl (fun c28 => ?_) (fun c28 => ?_)
 .have hv := hv.1 (oT c28); refine Jj <| Jw <| W.block <| Jc 6 ?_; obtain ⟨o29, hv⟩ := hv; refine Yl (r := (z23.tmod qq)) rfl rfl o29 rfl rfl ?_; obtain ⟨o30, hv⟩ := hv; refine Je Jn XE3 (hS.rd (i := 0) rfl) rfl rfl o30 rfl <| JC (cs' := is (si x22 z24 (z23.tmod qq))) 0 z24.toNat hS rfl XE3 rfl rfl rfl (Q8 (hS.rd (i := 0) rfl) o30) (Qs _ _ _) ?_; intro w31 hS; refine Ja <| Jc 3 ?_; obtain ⟨o32, hv⟩ := hv; refine Jd0 (r := (z23.tdiv qq)) rfl rfl o32.1 (wr o32.2) rfl <| Jb 2 <| Jc 2 ?_; obtain ⟨o33, hv⟩ := hv; refine WL.sub (r := (z24 - 1)) rfl rfl (wr o33) rfl <| Jb 2 ?_; exact ⟨(si x22 z24 (z23.tmod qq), (z23.tdiv qq), (z24 - 1)), sp rfl, hv.2, rfl, hv.1, hS⟩
 have hv := hv.2 (oF c28); refine Jy <| Jc 5 <| W.ret ?_; have hm := (hS.rd (i := 0) rfl).ilen; have hS := hS.relen (i := 0) rfl hm.symm; refine ⟨_, rfl, Fin.nil ?_⟩; exact ⟨_, hS.ext, (hS.pick [0] rfl).rows, J1 (hS.pick [0] rfl).rows rfl, ⟨x22, A12, n.toNat, (by rw [hm]), rfl, hv⟩⟩
def Jbg (Pf : Int) (Mf : Int) (mf : LI) (r : Int) (Q : LL × Int -> Prop) : Prop :=
  Jig Pf Mf mf (fun q => match q with | (none, r15) => ((r15 ≠ 0) -> (Q (([] : LL), r15))) /\ (¬ (r15 ≠ 0) -> (((r < 1) -> (Q (([] : LL), (6 : Int)))) /\ (¬ (r < 1) -> False))) | (some F16, r15) => ((r15 ≠ 0) -> (Q (([] : LL), r15))) /\ (¬ (r15 ≠ 0) -> (((r < 1) -> (Q (([] : LL), (6 : Int)))) /\ (¬ (r < 1) -> (ZU F16 (fun r31 => Jbf r31 r (fun r33 => (((!r33) = true) -> (Q (([] : LL), (4 : Int)))) /\ ((!r33) = false -> (∃ (I57 : LL -> Int -> Int -> Prop) (μ58 : LL -> Int -> Int -> Nat), I57 ([] : LL) (1 : Int) (0 : Int) /\ ∀ (x50 : LL) (z55 : Int) (z56 : Int), (I57 x50 z55 z56 -> (((z56 < r) -> (∃ (I76 : LL -> Int -> Prop) (μ77 : LL -> Int -> Nat), I76 x50 z55 /\ ∀ (x71 : LL) (z75 : Int), (I76 x71 z75 -> ((I64 ((2 : Int) * z55)) /\ (((z75 < ((2 : Int) * z55)) -> (ZU F16 (fun r82 => ZR r82 r z75 (fun x84 => (((x71.length : Nat) + (1 : Nat) : Int) * 24 <= 140737488355328) /\ ((I64 (z75 + 1)) /\ (I76 (x71 ++ [x84]) (z75 + 1) /\ μ77 (x71 ++ [x84]) (z75 + 1) < μ77 x71 z75)))))) /\ (¬ (z75 < ((2 : Int) * z55)) -> (ZU F16 (fun r97 => (I64 (z55 * r97)) /\ ((I64 (z56 + 1)) /\ (I57 x71 (z55 * r97) (z56 + 1) /\ μ58 x71 (z55 * r97) (z56 + 1) < μ58 x50 z55 z56)))))))))) /\ (¬ (z56 < r) -> (Q (x50, (0 : Int)))))))))))))))
theorem Jm9 {w : World} {Q : LL × Int -> Prop} {Pf : Int} {Mf : Int} {mf : LI} {r : Int} {Bf : Nat} {Af : Option Addr} {nf kf : Nat} (hf : Rd Bf w 1 Af nf kf (is mf)) (hv : Jbg Pf Mf mf r Q) :
  Calls Try.prog 13 #[.agg #[.int .i64 Pf, .int .i64 Mf, .slice Af nf kf], .int .i64 r] w <| Rt w fun v Qr => ∃ (r0 : LL) (r1 : Int) (A0 : Option Addr) (k0 : Nat) (hs0 : Hs), v = .tuple #[.slice A0 r0.length k0, .int .i64 r1] /\ Qr = [mx 22 3 A0 r0.length k0 hs0 r0] /\ Q (r0, r1) := by
 have hnf := hf.ilen; subst hnf; refine Jk <| Ji (vs := [.agg #[nI Pf, nI Mf, nS Af mf kf], nI r]) [4, 5] XF13 rfl rfl rfl rfl ?_; have hS := Jo w; unfold Jbg at hv; refine Jc 2 <| JD (z := 3) (cs := [nI Pf, nI Mf, nS Af mf kf]) hS rfl rfl rfl rfl ?_; intro g11 w12 hS; refine Jb 3 <| Jc 2 <| JI 0 Qb Qe hS rfl ⟨rfl, rfl⟩ rfl <| SL.call hS (Jpp (hS.ro hf) hv) XF42 rfl XN42 rfl rfl ?_; rintro _ _ w14 ⟨o, r15, hv, hK⟩ hGw14 hS; cases o with
 | none =>
  obtain ⟨rfl, rfl⟩ := hK
  change St _ _ _ _ [_] at hS
  refine Jb 6 <| Jc 6 <| Jh rfl (fun c22 => ?_) (fun c22 => ?_)
  .have hv := hv.1 (oT c22); refine Jc 6 <| W.ret ?_; have hS := hS.mxNil 22 3; have hm0 := hS.mxlen (i := 0) rfl; have hS := hS.relenMx (i := 0) rfl hm0.symm
   change St _ _ _ _ [_, _] at hS
   refine ⟨_, rfl, Fin.nil ?_⟩; exact ⟨_, hS.ext, (hS.pick [0] rfl).rows, J1 (hS.pick [0] rfl).rows rfl, ⟨([] : LL), r15, none, 0, (fun _ => (none, 0)), (by (try unfold nS); first | (rw [show (Value.slice none 0 0) = Value.slice none (([] : LL)).length 0 from sm0 hm0.symm]; done) | (rw [show (Value.slice none 0 0) = Value.slice none (([] : LL)).length 0 from sm0 hm0.symm]; rfl)), rfl, hv⟩⟩
  have hv := hv.2 (oF c22); refine Jj <| Jc 6 <| Jh rfl (fun c24 => ?_) (fun c24 => ?_)
  .have hv := hv.1 (oT c24); refine Jc 5 <| W.ret ?_; have hS := hS.mxNil 22 3; have hm0 := hS.mxlen (i := 0) rfl; have hS := hS.relenMx (i := 0) rfl hm0.symm
   change St _ _ _ _ [_, _] at hS
   refine ⟨_, rfl, Fin.nil ?_⟩; exact ⟨_, hS.ext, (hS.pick [0] rfl).rows, J1 (hS.pick [0] rfl).rows rfl, ⟨([] : LL), (6 : Int), none, 0, (fun _ => (none, 0)), (by (try unfold nS); first | (rw [show (Value.slice none 0 0) = Value.slice none (([] : LL)).length 0 from sm0 hm0.symm]; done) | (rw [show (Value.slice none 0 0) = Value.slice none (([] : LL)).length 0 from sm0 hm0.symm]; rfl)), rfl, hv⟩⟩
  have hv := hv.2 (oF c24); refine Jj <| Jc 4 ?_; exact hv.elim
 | some F16 =>
  obtain ⟨ad17, lo18, hi19, rfl, rfl⟩ := hK
  change St _ _ _ _ [_, _] at hS
  refine Jb 6 <| Jc 6 <| Jh rfl (fun c26 => ?_) (fun c26 => ?_)
  .have hv := hv.1 (oT c26); refine Jc 6 <| W.ret ?_; have hS := hS.mxNil 22 3; have hm0 := hS.mxlen (i := 0) rfl; have hS := hS.relenMx (i := 0) rfl hm0.symm
   change St _ _ _ _ [_, _, _] at hS
   refine ⟨_, rfl, Fin.nil ?_⟩; exact ⟨_, hS.ext, (hS.pick [0] rfl).rows, J1 (hS.pick [0] rfl).rows rfl, ⟨([] : LL), r15, none, 0, (fun _ => (none, 0)), (by (try unfold nS); first | (rw [show (Value.slice none 0 0) = Value.slice none (([] : LL)).length 0 from sm0 hm0.symm]; done) | (rw [show (Value.slice none 0 0) = Value.slice none (([] : LL)).length 0 from sm0 hm0.symm]; rfl)), rfl, hv⟩⟩
  have hv := hv.2 (oF c26); refine Jj <| Jc 6 <| Jh rfl (fun c28 => ?_) (fun c28 => ?_)
  .have hv := hv.1 (oT c28); refine Jc 5 <| W.ret ?_; have hS := hS.mxNil 22 3; have hm0 := hS.mxlen (i := 0) rfl; have hS := hS.relenMx (i := 0) rfl hm0.symm
   change St _ _ _ _ [_, _, _] at hS
   refine ⟨_, rfl, Fin.nil ?_⟩; exact ⟨_, hS.ext, (hS.pick [0] rfl).rows, J1 (hS.pick [0] rfl).rows rfl, ⟨([] : LL), (6 : Int), none, 0, (fun _ => (none, 0)), (by (try unfold nS); first | (rw [show (Value.slice none 0 0) = Value.slice none (([] : LL)).length 0 from sm0 hm0.symm]; done) | (rw [show (Value.slice none 0 0) = Value.slice none (([] : LL)).length 0 from sm0 hm0.symm]; rfl)), rfl, hv⟩⟩
  have hv := hv.2 (oF c28); refine Jj <| Jc 4 <| SL.call hS (Jdc (GFX.gfr (hS.chunk (i := 0) rfl)) hv) XF44 rfl XN44 rfl rfl ?_; rintro _ _ w30 ⟨r31, rfl, rfl, hv⟩ hGw30 hS; have hS := hS.n0; refine Jp rfl rfl <| SL.call hS (Jm8  hv) XF43 rfl XN43 rfl rfl ?_; rintro _ _ w32 ⟨r33, rfl, rfl, hv⟩ hGw32 hS; have hS := hS.n0; refine Jb 2 <| Jh rfl (fun c34 => ?_) (fun c34 => ?_)
  .have hv := hv.1 (c34); refine Jc 5 <| W.ret ?_; have hS := hS.mxNil 22 3; have hm0 := hS.mxlen (i := 0) rfl; have hS := hS.relenMx (i := 0) rfl hm0.symm
   change St _ _ _ _ [_, _, _] at hS
   refine ⟨_, rfl, Fin.nil ?_⟩; exact ⟨_, hS.ext, (hS.pick [0] rfl).rows, J1 (hS.pick [0] rfl).rows rfl, ⟨([] : LL), (4 : Int), none, 0, (fun _ => (none, 0)), (by (try unfold nS); first | (rw [show (Value.slice none 0 0) = Value.slice none (([] : LL)).length 0 from sm0 hm0.symm]; done) | (rw [show (Value.slice none 0 0) = Value.slice none (([] : LL)).length 0 from sm0 hm0.symm]; rfl)), rfl, hv⟩⟩
  have hv := hv.2 (c34); refine Jj <| Jc 14 <| W.block ?_; obtain ⟨I57, μ58, hv, hk101⟩ := hv; have hS := hS.mxNil 22 3; have hm0 : 0 = ([] : LL).length := (hS.mxlen (i := 0) rfl).symm; have hS := hS.relenMx (i := 0) rfl hm0
  change St _ _ _ _ [_, _, _] at hS
  refine JB (σ := LL × Int × Int × Option Addr × Nat × Hs) (fun q w1 => match q with | (x50, z55, z56, A51, k52, hs53) => I57 x50 z55 z56 /\ St TT w none w1 [mx 22 3 A51 x50.length k52 hs53 x50, .ch lo18 hi19 (fun wz => GFX lo18 hi19 wz ad17 F16), .row 24 3 (nA g11) 1 1 [nI Pf, nI Mf, nS Af mf kf]]) (fun (x50, z55, z56, A51, k52, hs53) => [(1, nI r), (4, .slice none 0 0), (5, nI 0), (6, .pointer (some ad17)), (8, nS A51 x50 k52), (9, nI z55), (26, nI r), (27, nI z56)]) (fun (x50, z55, z56, A51, k52, hs53) => μ58 x50 z55 z56) (([] : LL), (1 : Int), (0 : Int), none, 0, (fun _ => (none, 0))) ⟨hv, hS⟩ ⟨rfl, rfl, rfl, rfl, (sm (by first | rfl | assumption | omega)), rfl, rfl, rfl, trivial⟩ ?_; rintro ⟨x50, z55, z56, A51, k52, hs53⟩ w59 ⟨hv, hS⟩; have hv := hk101 x50 z55 z56 hv; refine Jc 5 <| Jh rfl (fun c60 => ?_) (fun c60 => ?_)
  .have hv := hv.1 (oT c60); refine Jj <| Jw <| W.block <| Jc 6 <| W.block ?_; obtain ⟨I76, μ77, hv, hk100⟩ := hv; refine JB (σ := LL × Int × Option Addr × Nat × Hs) (fun q w1 => match q with | (x71, z75, A72, k73, hs74) => I76 x71 z75 /\ St TT w none w1 [mx 22 3 A72 x71.length k73 hs74 x71, .ch lo18 hi19 (fun wz => GFX lo18 hi19 wz ad17 F16), .row 24 3 (nA g11) 1 1 [nI Pf, nI Mf, nS Af mf kf]]) (fun (x71, z75, A72, k73, hs74) => [(1, nI r), (4, .slice none 0 0), (5, nI 0), (6, .pointer (some ad17)), (8, nS A72 x71 k73), (9, nI z55), (10, nI z75), (26, nI r), (27, nI z56), (28, .bool (decide (z56 < r)))]) (fun (x71, z75, A72, k73, hs74) => μ77 x71 z75) (x50, z55, A51, k52, hs53) ⟨hv, hS⟩ ⟨rfl, rfl, rfl, rfl, rfl, rfl, rfl, rfl, rfl, rfl, trivial⟩ ?_; rintro ⟨x71, z75, A72, k73, hs74⟩ w78 ⟨hv, hS⟩; have hv := hk100 x71 z75 hv; refine Jc 5 ?_; obtain ⟨o79, hv⟩ := hv; refine WL.mul (r := ((2 : Int) * z55)) rfl rfl (wr o79) rfl <| Jb 2 <| Jh rfl (fun c80 => ?_) (fun c80 => ?_)
   .have hv := hv.1 (oT c80); refine Jj <| Jw <| W.block <| Jc 3 <| SL.call hS (Jdc (GFX.gfr (hS.chunk (i := 1) rfl)) hv) XF44 rfl XN44 rfl rfl ?_; rintro _ _ w81 ⟨r82, rfl, rfl, hv⟩ hGw81 hS; have hS := hS.n0; refine Jb 2 <| SL.call hS (Jje  hv) XF45 rfl XN45 rfl rfl ?_; rintro _ _ w83 ⟨x84, A85, k86, rfl, rfl, hv⟩ hGw83 hS; have hS := hS.n1; refine Qo (vs := [nS A85 x84 k86]) hS Jt Jq rfl rfl rfl rfl (by simp [Value.oneCell']) rfl ?_; intro A88 w89 hS; obtain ⟨o91, hv⟩ := hv; have hS := hS.pick [2, 0, 1, 3, 4] rfl; have hS := hS.pick [1, 2, 0, 3, 4] rfl; have hS := Jih (hS.rd (i := 1) rfl).ilen.symm hS
    change St _ _ _ _ [_, _, _, _] at hS
    refine Jb7 hS Jt Jq rfl rfl (apk o91).1 (apk o91).2 rfl ?_; intro A92 k93 w94 hS; refine Jb 2 <| Jc 2 ?_; obtain ⟨o95, hv⟩ := hv; refine WL.add (r := (z75 + 1)) rfl rfl (wr o95) rfl <| Jb 2 ?_; exact ⟨(x71 ++ [x84], (z75 + 1), A92, k93, (Jcb x71.length hs74 (fun _ => (A85, k86)))), sp rfl, hv.2, rfl, hv.1, hS⟩
   have hv := hv.2 (oF c80); refine Jy <| Jc 3 <| SL.call hS (Jdc (GFX.gfr (hS.chunk (i := 1) rfl)) hv) XF44 rfl XN44 rfl rfl ?_; rintro _ _ w96 ⟨r97, rfl, rfl, hv⟩ hGw96 hS; have hS := hS.n0; obtain ⟨o98, hv⟩ := hv; refine WL.mul (r := (z55 * r97)) rfl rfl (wr o98) rfl <| Jb 2 <| JA ?_; obtain ⟨o99, hv⟩ := hv; refine WL.add (r := (z56 + 1)) rfl rfl (wr o99) rfl <| Jb 2 ?_; exact ⟨(x71, (z55 * r97), (z56 + 1), A72, k73, hs74), sp rfl, hv.2, rfl, hv.1, hS⟩
  have hv := hv.2 (oF c60); refine Jy <| Jc 6 <| W.ret <| ⟨_, rfl, Fin.nil ?_⟩
  exact (hS.pick [0] rfl).fin rfl ⟨x50, (0 : Int), A51, k52, hs53, rfl, rfl, hv⟩
def YL (m : Int) (l : LI) (Q : LI -> Prop) : Prop :=
  ∃ (I17 : Int -> Int -> Prop) (μ18 : Int -> Int -> Nat), I17 0 (0 : Int) /\ ∀ (z15 : Int) (z16 : Int), (I17 z15 z16 -> (((z16 < (l.length : Int)) -> ((0 <= z16 /\ z16 < (l.length : Nat)) /\ ((0 <= (gi l z16) /\ I64 (QC (1 : Int) (gi l z16))) /\ ((0 <= z15 /\ z15 < 9223372036854775808 /\ 0 <= (QC (1 : Int) (gi l z16)) /\ (QC (1 : Int) (gi l z16)) < 9223372036854775808) /\ ((I64 (z16 + 1)) /\ (I17 (ior z15 (QC (1 : Int) (gi l z16))) (z16 + 1) /\ μ18 (ior z15 (QC (1 : Int) (gi l z16))) (z16 + 1) < μ18 z15 z16)))))) /\ (¬ (z16 < (l.length : Int)) -> ((0 <= m /\ I64 (QC (1 : Int) m)) /\ ((0 <= (QC (1 : Int) m) /\ (QC (1 : Int) m) * 8 <= 281474976710656 /\ (QC (1 : Int) m) <= 281474976710656) /\ (∃ (I36 : LI -> Int -> Prop) (μ37 : LI -> Int -> Nat), I36 (List.replicate (QC (1 : Int) m).toNat (0 : Int)) (0 : Int) /\ ∀ (x34 : LI) (z35 : Int), (I36 x34 z35 -> (((z35 < (((QC (1 : Int) m).toNat : Nat) : Int)) -> (∃ J41 : LI -> Prop, ((0 <= z35 /\ z35 < 9223372036854775808 /\ 0 <= z15 /\ z15 < 9223372036854775808) /\ ((((Jjq z35 z15) = z15) -> ((0 <= z35 /\ z35 < ((QC (1 : Int) m).toNat : Nat)) /\ (J41 (si x34 z35 1)))) /\ (¬ ((Jjq z35 z15) = z15) -> J41 x34))) /\ ∀ (x40 : LI), (J41 x40 -> ((I64 (z35 + 1)) /\ (I36 x40 (z35 + 1) /\ μ37 x40 (z35 + 1) < μ37 x34 z35))))) /\ (¬ (z35 < (((QC (1 : Int) m).toNat : Nat) : Int)) -> Q x34)))))))))
theorem Jfi {w : World} {Q : LI -> Prop} {m : Int} {l : LI} {Bl : Nat} {Al : Option Addr} {nl kl : Nat} (hl : Rd Bl w 1 Al nl kl (is l)) (hv : YL m l Q) :
   Calls Try.prog 58 #[.int .i64 m, .slice Al nl kl] w <| Rt w fun v Qr => ∃ (x : LI)  (A : Option Addr) (c : Nat), v = .slice A x.length c /\ Qr = [.row 3 1 A x.length c (is x)] /\ Q x := by
 have hnl := hl.ilen; subst hnl; refine Jk <| Ji (vs := [nI m, nS Al l kl]) [4] XF58 rfl rfl rfl rfl ?_; have hS := Jo w; unfold YL at hv; refine Jc 12 <| WL.len Jn rfl rfl <| Jb 2 <| W.block ?_; obtain ⟨I17, μ18, hv, hk50⟩ := hv; refine JB (σ := Int × Int) (fun q w1 => match q with | (z15, z16) => I17 z15 z16 /\ St TT w none w1 []) (fun (z15, z16) => [(0, nI m), (4, .slice none 0 0), (5, nI z15), (10, nS Al l kl), (11, nI (l.length : Int)), (12, nI z16)]) (fun (z15, z16) => μ18 z15 z16) ((0 : Int), (0 : Int)) ⟨hv, hS⟩ ⟨rfl, rfl, rfl, rfl, rfl, rfl, trivial⟩ ?_; rintro ⟨z15, z16⟩ w19 ⟨hv, hS⟩; have hv := hk50 z15 z16 hv; refine Jc 5 <| Jh rfl (fun c20 => ?_) (fun c20 => ?_)
 .have hv := hv.1 (oT c20); refine Jj <| Jw <| W.block <| Jc 2 ?_; obtain ⟨o21, hv⟩ := hv; refine Je Jn XE3 (hS.ro hl) rfl rfl o21 rfl <| Jm XU3 rfl rfl (JJ (hS.ro hl) o21) rfl <| Jb 2 <| Jc 3 ?_; obtain ⟨o22, hv⟩ := hv; refine Jrg (r := (QC (1 : Int) (gi l z16))) rfl rfl o22.1 (wr o22.2) rfl ?_; obtain ⟨o23, hv⟩ := hv; refine WL.bits (r := (ior z15 (QC (1 : Int) (gi l z16)))) rfl rfl (by decide) (Jsa o23) rfl <| Jb 2 <| JA ?_; obtain ⟨o24, hv⟩ := hv; refine WL.add (r := (z16 + 1)) rfl rfl (wr o24) rfl <| Jb 2 ?_; exact ⟨((ior z15 (QC (1 : Int) (gi l z16))), (z16 + 1)), sp rfl, hv.2, rfl, hv.1, hS⟩
 have hv := hv.2 (oF c20); refine Jy <| Jc 3 ?_; obtain ⟨o25, hv⟩ := hv; refine Jrg (r := (QC (1 : Int) m)) rfl rfl o25.1 (wr o25.2) rfl ?_; obtain ⟨o26, hv⟩ := hv; refine QA (J := (QC (1 : Int) m)) hS Jn XE3 rfl rfl o26 (QR _) rfl ?_; intro A27 w28 hS; refine Jb 2 <| Jc 4 <| WL.len Jn rfl rfl <| Jb 2 <| W.block ?_; obtain ⟨I36, μ37, hv, hk49⟩ := hv; refine JB (σ := LI × Int) (fun q w1 => match q with | (x34, z35) => I36 x34 z35 /\ St TT w none w1 [.row 3 1 A27 ((QC (1 : Int) m).toNat) ((QC (1 : Int) m).toNat) (is x34)]) (fun (x34, z35) => [(4, .slice none 0 0), (5, nI z15), (8, .slice A27 ((QC (1 : Int) m).toNat) ((QC (1 : Int) m).toNat)), (25, nI (((QC (1 : Int) m).toNat : Nat) : Int)), (26, nI z35)]) (fun (x34, z35) => μ37 x34 z35) (List.replicate (QC (1 : Int) m).toNat (0 : Int), (0 : Int)) ⟨hv, hS⟩ ⟨rfl, rfl, rfl, rfl, rfl, trivial⟩ ?_; rintro ⟨x34, z35⟩ w38 ⟨hv, hS⟩; have hv := hk49 x34 z35 hv; refine Jc 5 <| Jh rfl (fun c39 => ?_) (fun c39 => ?_)
 .have hv := hv.1 (oT c39); refine Jj <| Jw ?_; obtain ⟨J41, hv, hk48⟩ := hv; refine Ql (σ := LI) (fun x40 w1 => J41 x40 /\ St TT w none w1 [.row 3 1 A27 ((QC (1 : Int) m).toNat) ((QC (1 : Int) m).toNat) (is x40)]) (fun x40 => [(4, .slice none 0 0), (5, nI z15), (8, .slice A27 ((QC (1 : Int) m).toNat) ((QC (1 : Int) m).toNat)), (9, nI z35), (25, nI (((QC (1 : Int) m).toNat : Nat) : Int)), (26, nI z35), (27, .bool (decide (z35 < (((QC (1 : Int) m).toNat : Nat) : Int)))), (33, .bool (decide ((Jjq z35 z15) = z15)))]) ?_ ?_
  .refine W.block ?_; refine Jc 9 ?_; obtain ⟨o42, hv⟩ := hv; refine WL.bits (r := (Jjq z35 z15)) rfl rfl (by decide) (Jpa o42) rfl <| Jb 3 <| Jh rfl (fun c43 => ?_) (fun c43 => ?_)
   .have hv := hv.1 (oT c43); refine Jc 3 ?_; obtain ⟨o44, hv⟩ := hv; refine Je Jn XE3 (hS.rd (i := 0) rfl) rfl rfl o44 rfl <| JC (cs' := is (si x34 z35 1)) 0 z35.toNat hS rfl XE3 rfl rfl rfl (Q8 (hS.rd (i := 0) rfl) o44) (Qs _ _ _) ?_; intro w45 hS; refine Ja ?_; exact ⟨si x34 z35 1, sp rfl, rfl, hv, hS⟩
   have hv := hv.2 (oF c43); refine Jj ?_; exact ⟨x34, sp rfl, rfl, hv, hS⟩
  rintro x40 w46 ⟨hv, hS⟩; have hv := hk48 x40 hv; refine JA ?_; obtain ⟨o47, hv⟩ := hv; refine WL.add (r := (z35 + 1)) rfl rfl (wr o47) rfl <| Jb 2 ?_; exact ⟨(x40, (z35 + 1)), sp rfl, hv.2, rfl, hv.1, hS⟩
 have hv := hv.2 (oF c39); refine Jy <| Jc 5 <| W.ret ?_; have hm := (hS.rd (i := 0) rfl).ilen; have hS := hS.relen (i := 0) rfl hm.symm; refine ⟨_, rfl, Fin.nil ?_⟩; exact ⟨_, hS.ext, (hS.pick [0] rfl).rows, J1 (hS.pick [0] rfl).rows rfl, ⟨x34, A27, (QC (1 : Int) m).toNat, (by rw [hm]), rfl, hv⟩⟩
def Zi (m : Int) (l : LI) (Q : LI × Int -> Prop) : Prop :=
  ((m < 0) -> (Q (([] : LI), (6 : Int)))) /\ (¬ (m < 0) -> ((((6 : Int) < m) -> (Q (([] : LI), (6 : Int)))) /\ (¬ ((6 : Int) < m) -> (∃ (I19 : Int -> Int -> Prop) (μ20 : Int -> Int -> Nat), I19 (-1 : Int) (0 : Int) /\ ∀ (z17 : Int) (z18 : Int), (I19 z17 z18 -> (((z18 < (l.length : Int)) -> ((0 <= z18 /\ z18 < (l.length : Nat)) /\ ((((gi l z18) <= z17) -> (Q (([] : LI), (5 : Int)))) /\ (¬ ((gi l z18) <= z17) -> (((m <= (gi l z18)) -> (Q (([] : LI), (5 : Int)))) /\ (¬ (m <= (gi l z18)) -> ((I64 (z18 + 1)) /\ (I19 (gi l z18) (z18 + 1) /\ μ20 (gi l z18) (z18 + 1) < μ20 z17 z18)))))))) /\ (¬ (z18 < (l.length : Int)) -> (YL m l (fun x28 => Q (x28, (0 : Int)))))))))))
theorem Jhd {w : World} {Q : LI × Int -> Prop} {m : Int} {l : LI} {Bl : Nat} {Al : Option Addr} {nl kl : Nat} (hl : Rd Bl w 1 Al nl kl (is l)) (hv : Zi m l Q) :
   Calls Try.prog 26 #[.int .i64 m, .slice Al nl kl] w <| Rt w fun v Qr => ∃ (r0 : LI) (r1 : Int) (A0 : Option Addr) (k0 : Nat), v = .tuple #[.slice A0 r0.length k0, .int .i64 r1] /\ Qr = [.row 3 1 A0 r0.length k0 (is r0)] /\ Q (r0, r1) := by
 have hnl := hl.ilen; subst hnl; refine Jk <| Ji (vs := [nI m, nS Al l kl]) [4, 5] XF26 rfl rfl rfl rfl ?_; have hS := Jo w; unfold Zi at hv; refine Jc 10 <| Jp rfl rfl ?_; by_cases g11 : m < 0
 .have hv := hv.1 g11; rw [decide_eq_true g11]; refine Jb 4 <| Qa rfl <| Jc 5 <| W.ret ?_; have hS := hS.nil (e := 3) (z := 1)
  change St _ _ _ _ [_] at hS
  refine ⟨_, rfl, Fin.nil ?_⟩; exact (hS.pick [0] rfl).fin rfl ⟨([] : LI), (6 : Int), none, 0, rfl, rfl, hv⟩
 have hv := hv.2 g11; rw [decide_eq_false g11]; refine Jb 6 <| Jh rfl (fun c12 => ?_) (fun c12 => ?_)
 .have hv := hv.1 (oT c12); refine Jc 5 <| W.ret ?_; have hS := hS.nil (e := 3) (z := 1)
  change St _ _ _ _ [_] at hS
  refine ⟨_, rfl, Fin.nil ?_⟩; exact (hS.pick [0] rfl).fin rfl ⟨([] : LI), (6 : Int), none, 0, rfl, rfl, hv⟩
 have hv := hv.2 (oF c12); refine Jj <| Jc 8 <| WL.len Jn rfl rfl <| Jb 2 <| W.block ?_; obtain ⟨I19, μ20, hv, hk32⟩ := hv; refine JB (σ := Int × Int) (fun q w1 => match q with | (z17, z18) => I19 z17 z18 /\ St TT w none w1 []) (fun (z17, z18) => [(0, nI m), (1, nS Al l kl), (4, .slice none 0 0), (5, nI 0), (6, nI z17), (15, nS Al l kl), (16, nI (l.length : Int)), (17, nI z18)]) (fun (z17, z18) => μ20 z17 z18) ((-1 : Int), (0 : Int)) ⟨hv, hS⟩ ⟨rfl, rfl, rfl, rfl, rfl, rfl, rfl, rfl, trivial⟩ ?_; rintro ⟨z17, z18⟩ w21 ⟨hv, hS⟩; have hv := hk32 z17 z18 hv; refine Jc 5 <| Jh rfl (fun c22 => ?_) (fun c22 => ?_)
 .have hv := hv.1 (oT c22); refine Jj <| Jw <| W.block <| Jc 2 ?_; obtain ⟨o23, hv⟩ := hv; refine Je Jn XE3 (hS.ro hl) rfl rfl o23 rfl <| Jm XU3 rfl rfl (JJ (hS.ro hl) o23) rfl <| Jb 2 <| Jc 6 <| Jp rfl rfl ?_; by_cases g24 : (gi l z18) <= z17
  .have hv := hv.1 g24; rw [decide_eq_true g24]; refine Jb 5 <| Qa rfl <| Jc 5 <| W.ret ?_; have hS := hS.nil (e := 3) (z := 1)
   change St _ _ _ _ [_] at hS
   refine ⟨_, rfl, Fin.nil ?_⟩; exact (hS.pick [0] rfl).fin rfl ⟨([] : LI), (5 : Int), none, 0, rfl, rfl, hv⟩
  have hv := hv.2 g24; rw [decide_eq_false g24]; refine Jb 8 <| Jh rfl (fun c25 => ?_) (fun c25 => ?_)
  .have hv := hv.1 (oT c25); refine Jc 5 <| W.ret ?_; have hS := hS.nil (e := 3) (z := 1)
   change St _ _ _ _ [_] at hS
   refine ⟨_, rfl, Fin.nil ?_⟩; exact (hS.pick [0] rfl).fin rfl ⟨([] : LI), (5 : Int), none, 0, rfl, rfl, hv⟩
  have hv := hv.2 (oF c25); refine Jj <| Jc 4 <| JA ?_; obtain ⟨o26, hv⟩ := hv; refine WL.add (r := (z18 + 1)) rfl rfl (wr o26) rfl <| Jb 2 ?_; exact ⟨((gi l z18), (z18 + 1)), sp rfl, hv.2, rfl, hv.1, hS⟩
 have hv := hv.2 (oF c22); refine Jy <| Jc 4 <| SL.call hS (Jfi (hS.ro hl) hv) XF58 rfl XN58 rfl rfl ?_; rintro _ _ w27 ⟨x28, A29, k30, rfl, rfl, hv⟩ hGw27 hS; have hS := hS.n1; refine Jb 3 <| W.ret <| ⟨_, rfl, Fin.nil ?_⟩
 exact (hS.pick [0] rfl).fin rfl ⟨x28, (0 : Int), A29, k30, rfl, rfl, hv⟩
def ZT (Pf : Int) (Mf : Int) (mf : LI) (r : Int) (Q : Int × Int × LI × Int × LL × Int -> Prop) : Prop :=
  Jbg Pf Mf mf r (fun (x16, r17) => ((r17 ≠ 0) -> (Q ((0 : Int), (0 : Int), ([] : LI), (0 : Int), ([] : LL), r17))) /\ (¬ (r17 ≠ 0) -> ((0 <= r /\ r * 24 <= 281474976710656 /\ r <= 281474976710656) /\ (∃ (I41 : LL -> Int -> Prop) (μ42 : LL -> Int -> Nat), I41 (List.replicate r.toNat ([] : LI)) (0 : Int) /\ ∀ (x38 : LL) (z40 : Int), (I41 x38 z40 -> (((z40 < ((r.toNat : Nat) : Int)) -> (∃ (I54 : LL -> Int -> Prop) (μ55 : LL -> Int -> Nat), I54 x38 (0 : Int) /\ ∀ (x51 : LL) (z53 : Int), (I54 x51 z53 -> (((z53 < (x16.length : Int)) -> (∃ J60 : LL -> Prop, ((0 <= z53 /\ z53 < (x16.length : Nat)) /\ ((0 <= z40 /\ z40 < (r.toNat : Nat)) /\ ((0 <= z40 /\ z40 < ((gl x16 z53).length : Nat)) /\ (((((gl x51 z40).length : Nat) + (1 : Nat) : Int) * 8 <= 140737488355328) /\ ((0 <= z40 /\ z40 < (r.toNat : Nat)) /\ (J60 (sll x51 z40 ((gl x51 z40) ++ ([(gi (gl x16 z53) z40)] : LI))))))))) /\ ∀ (x58 : LL), (J60 x58 -> ((I64 (z53 + 1)) /\ (I54 x58 (z53 + 1) /\ μ55 x58 (z53 + 1) < μ55 x51 z53))))) /\ (¬ (z53 < (x16.length : Int)) -> ((I64 (z40 + 1)) /\ (I41 x51 (z40 + 1) /\ μ42 x51 (z40 + 1) < μ42 x38 z40))))))) /\ (¬ (z40 < ((r.toNat : Nat) : Int)) -> (Jd5 Pf Mf mf (x16.length : Int) x38 (fun (r99, r100, x101, c102, x103, r104) => Q (r99, r100, x101, c102, x103, r104))))))))))
theorem Jjh {w : World} {Q : Int × Int × LI × Int × LL × Int -> Prop} {Pf : Int} {Mf : Int} {mf : LI} {r : Int} {Bf : Nat} {Af : Option Addr} {nf kf : Nat} (hf : Rd Bf w 1 Af nf kf (is mf)) (hv : ZT Pf Mf mf r Q) :
   Calls Try.prog 21 #[.agg #[.int .i64 Pf, .int .i64 Mf, .slice Af nf kf], .int .i64 r] w <| Rt w fun v Qr => ∃ (p0 : Int) (m0 : Int) (f0 : LI) (c0 : Int) (r0 : LL) (r1 : Int) (A0f : Option Addr) (k0f : Nat) (A0 : Option Addr) (k0 : Nat) (hs0 : Hs), v = .tuple #[.agg #[.int .i64 p0, .int .i64 m0, .slice A0f f0.length k0f, .int .i64 c0, .slice A0 r0.length k0], .int .i64 r1] /\ Qr = [.row 3 1 A0f f0.length k0f (is f0), mx 22 3 A0 r0.length k0 hs0 r0] /\ Q (p0, m0, f0, c0, r0, r1) := by
 have hnf := hf.ilen; subst hnf; refine Jk <| Qt (vs := [.agg #[nI Pf, nI Mf, nS Af mf kf], nI r]) [.cell 4 33, .tmp 5] XF21 rfl rfl rfl rfl ?_; have hS := Jo w; unfold ZT at hv; refine Jc 2 <| JD (z := 3) (cs := [nI Pf, nI Mf, nS Af mf kf]) hS rfl rfl rfl rfl ?_; intro g11 w12 hS; refine SL.alloc (cs := [nI 0, nI 0, .slice none 0 0, nI 0, .slice none 0 0]) hS Yd rfl rfl ?_; intro g13 w14 hS; refine Jb 2 <| Jc 2 <| JI 1 Qb Qe hS rfl ⟨rfl, rfl⟩ rfl <| Jp rfl rfl <| SL.call hS (Jm9 (hS.ro hf) hv) XF13 rfl XN13 rfl rfl ?_; rintro _ _ w15 ⟨x16, r17, A18, k19, hs20, rfl, rfl, hv⟩ hGw15 hS; have hS := hS.n1; refine Jb 6 <| Jc 6 <| Jh rfl (fun c22 => ?_) (fun c22 => ?_)
 .have hv := hv.1 (oT c22); refine Jc 2 <| Qi (cells := #[nI 0, nI 0, .slice none 0 0, nI 0, .slice none 0 0]) XB33 rfl rfl rfl <| Jp rfl rfl <| JH (cs := [nI 0, nI 0, .slice none 0 0, nI 0, .slice none 0 0]) 1 hS rfl Yd rfl rfl rfl rfl rfl ?_; intro w23 hS; refine Jb 2 <| W.ret ?_; have hS := hS.nil (e := 3) (z := 1); have hS := hS.mxNil 22 3; have hm4 := hS.mxlen (i := 0) rfl; have hS := hS.relenMx (i := 0) rfl hm4.symm
  change St _ _ _ _ [_, _, _, _, _] at hS
  repeat with_reducible first | refine blk.ret ?_ | refine exits.retI ?_
  refine endC.mk ⟨[.agg #[nI 0, nI 0, .slice none 0 0, nI 0, .slice none 0 0], nI r17], ⟨_, _, _, rfl, rfl, JM (cs := [nI 0, nI 0, .slice none 0 0, nI 0, .slice none 0 0]) Yd Jbs rfl (JE (hS.own (i := 3) rfl)), ⟨_, _, rfl, rfl, rfl⟩⟩, ?_⟩; exact ⟨_, hS.ext, (hS.pick [1, 0] rfl).rows, J1 (hS.pick [1, 0] rfl).rows rfl, ⟨(0 : Int), (0 : Int), ([] : LI), (0 : Int), ([] : LL), r17, none, 0, none, 0, (fun _ => (none, 0)), (by (try unfold nS); first | (rw [show (Value.slice none 0 0) = Value.slice none (([] : LL)).length 0 from sm0 hm4.symm]; done) | (rw [show (Value.slice none 0 0) = Value.slice none (([] : LL)).length 0 from sm0 hm4.symm]; rfl)), rfl, hv⟩⟩
 have hv := hv.2 (oF c22); refine Jj <| Jc 3 <| WL.len Jt rfl rfl <| Jp rfl rfl ?_; obtain ⟨o27, hv⟩ := hv; refine QA (J := r) hS Jt Jq rfl rfl o27 (Jfp _) rfl ?_; intro A25 w26 hS; have hS := Jii (eI := 3) hS; refine Qi (cells := #[nI (x16.length : Int), .slice A25 r.toNat r.toNat]) Jkj rfl rfl rfl <| SL.alloc (cs := [nI 0, .slice none 0 0]) hS JZ rfl rfl ?_; intro g29 w30 hS; refine JH (cs := [nI (x16.length : Int), .slice A25 r.toNat r.toNat]) 0 hS rfl JZ rfl rfl rfl rfl rfl ?_; intro w31 hS; refine Ja <| Jc 3 <| Jd (off := 1) J2 rfl rfl <| Jl 0 1 Jt hS rfl rfl rfl ⟨rfl, rfl⟩ <| WL.len Jt rfl rfl <| Jb 2 <| W.block ?_; obtain ⟨I41, μ42, hv, hk113⟩ := hv; refine JB (σ := LL × Int × Hs) (fun q w1 => match q with | (x38, z40, hs39) => I41 x38 z40 /\ St TT w none w1 [.row 70 2 (nA g29) 1 1 [nI (x16.length : Int), .slice A25 r.toNat r.toNat], mx 22 3 A25 r.toNat r.toNat hs39 x38, mx 22 3 A18 x16.length k19 hs20 x16, .row 33 5 (nA g13) 1 1 [nI 0, nI 0, .slice none 0 0, nI 0, .slice none 0 0], .row 24 3 (nA g11) 1 1 [nI Pf, nI Mf, nS Af mf kf]]) (fun (x38, z40, hs39) => [(2, nP g11), (4, nP g13), (5, nI 0), (6, nS A18 x16 k19), (8, nP g29), (29, nI ((r.toNat : Nat) : Int)), (30, nI z40)]) (fun (x38, z40, hs39) => μ42 x38 z40) (List.replicate r.toNat ([] : LI), (0 : Int), (fun _ => (none, 0))) ⟨hv, hS⟩ ⟨rfl, rfl, rfl, rfl, rfl, rfl, rfl, trivial⟩ ?_; rintro ⟨x38, z40, hs39⟩ w43 ⟨hv, hS⟩; have hv := hk113 x38 z40 hv; refine Jc 5 <| Jh rfl (fun c44 => ?_) (fun c44 => ?_)
 .have hv := hv.1 (oT c44); refine Jj <| Jw <| W.block <| Jc 8 <| WL.len Jt rfl rfl <| Jb 2 <| W.block ?_; obtain ⟨I54, μ55, hv, hk97⟩ := hv; refine JB (σ := LL × Int × Hs) (fun q w1 => match q with | (x51, z53, hs52) => I54 x51 z53 /\ St TT w none w1 [.row 70 2 (nA g29) 1 1 [nI (x16.length : Int), .slice A25 r.toNat r.toNat], mx 22 3 A25 r.toNat r.toNat hs52 x51, mx 22 3 A18 x16.length k19 hs20 x16, .row 33 5 (nA g13) 1 1 [nI 0, nI 0, .slice none 0 0, nI 0, .slice none 0 0], .row 24 3 (nA g11) 1 1 [nI Pf, nI Mf, nS Af mf kf]]) (fun (x51, z53, hs52) => [(2, nP g11), (4, nP g13), (5, nI 0), (6, nS A18 x16 k19), (8, nP g29), (9, nI z40), (29, nI ((r.toNat : Nat) : Int)), (30, nI z40), (31, .bool (decide (z40 < ((r.toNat : Nat) : Int)))), (33, nS A18 x16 k19), (34, nI (x16.length : Int)), (35, nI z53)]) (fun (x51, z53, hs52) => μ55 x51 z53) (x38, (0 : Int), hs39) ⟨hv, hS⟩ ⟨rfl, rfl, rfl, rfl, rfl, rfl, rfl, rfl, rfl, rfl, rfl, rfl, trivial⟩ ?_; rintro ⟨x51, z53, hs52⟩ w56 ⟨hv, hS⟩; have hv := hk97 x51 z53 hv; refine Jc 5 <| Jh rfl (fun c57 => ?_) (fun c57 => ?_)
  .have hv := hv.1 (oT c57); refine Jj <| Jw ?_; obtain ⟨J60, hv, hk95⟩ := hv; refine Ql (σ := LL × Hs) (fun q w1 => match q with | (x58, hs59) => J60 x58 /\ St TT w none w1 [.row 70 2 (nA g29) 1 1 [nI (x16.length : Int), .slice A25 r.toNat r.toNat], mx 22 3 A25 r.toNat r.toNat hs59 x58, mx 22 3 A18 x16.length k19 hs20 x16, .row 33 5 (nA g13) 1 1 [nI 0, nI 0, .slice none 0 0, nI 0, .slice none 0 0], .row 24 3 (nA g11) 1 1 [nI Pf, nI Mf, nS Af mf kf]]) (fun (x58, hs59) => [(2, nP g11), (4, nP g13), (5, nI 0), (6, nS A18 x16 k19), (8, nP g29), (9, nI z40), (11, .slice ((hs20 z53.toNat).1) ((gl x16 z53).length) ((hs20 z53.toNat).2)), (29, nI ((r.toNat : Nat) : Int)), (30, nI z40), (31, .bool (decide (z40 < ((r.toNat : Nat) : Int)))), (33, nS A18 x16 k19), (34, nI (x16.length : Int)), (35, nI z53), (36, .bool (decide (z53 < (x16.length : Int))))]) ?_ ?_
   .refine W.block ?_; refine Jc 2 ?_; obtain ⟨o61, hv⟩ := hv; refine JL 2 Jt Jq hS rfl rfl rfl o61 rfl <| Jm Jn rfl rfl (hS.mxcell (i := 2) rfl o61) rfl <| Jb 2 ?_; obtain ⟨o69, hv⟩ := hv; obtain ⟨o74, hv⟩ := hv; have hS0 := hS; refine YH 13 [0, 1, 2] (fun iA => [false, false, false, false, false, false, false, false, false, false, false, false, true].getD iA false) (fun _ => none) (fun _ v u => u = v) [⟨[], [8], true⟩, ⟨[0], [], false⟩, ⟨[], [9], true⟩, ⟨[], [8], true⟩, ⟨[3], [], false⟩, ⟨[], [9], true⟩, ⟨[4, 5], [], true⟩, ⟨[6], [], false⟩, ⟨[], [11], true⟩, ⟨[], [9], true⟩, ⟨[8, 9], [], true⟩, ⟨[10], [], false⟩, ⟨[11], [], false⟩] [.k 39 (.pointer (some ((⟨g29, 0, none⟩ : Addr).add 1))), .k 40 (.slice A25 r.toNat r.toNat), .k 41 (nI z40), .k 42 (.pointer (some ((⟨g29, 0, none⟩ : Addr).add 1))), .k 43 (.slice A25 r.toNat r.toNat), .k 44 (nI z40), .k 45 (.pointer (some ((JQ A25).add z40.toNat))), .k 46 (.slice ((hs52 z40.toNat).1) ((gl x51 z40).length) ((hs52 z40.toNat).2)), .k 47 (.slice ((hs20 z53.toNat).1) ((gl x16 z53).length) ((hs20 z53.toNat).2)), .k 48 (nI z40), .k 49 (.pointer (some ((JQ ((hs20 z53.toNat).1)).add z40.toNat))), .k 50 (nI (gi (gl x16 z53) z40)), eS w56 51 3 1 (is ([(gi (gl x16 z53) z40)] : LI))] (fun _ => vbD) Try.mixed (by kernel_rfl) rfl rfl (fun _ _ _ _ _ _ _ h => h) ?_ ?_
    . refine ⟨fun _ _ _ => Jd (off := 1) J2 rfl rfl <| Ja ⟨rfl, rfl⟩, og hS fun _ _ hS => Jl 0 1 Jt hS rfl rfl rfl ⟨rfl, rfl⟩ <| Ja ⟨rfl, Jf _⟩, oC, fun _ _ _ => Jd (off := 1) J2 rfl rfl <| Ja ⟨rfl, rfl⟩, og hS fun _ _ hS => Jl 0 1 Jt hS rfl rfl rfl ⟨rfl, rfl⟩ <| Ja ⟨rfl, Jf _⟩, oC, fun _ _ _ => JL 1 Jt Jq hS rfl rfl rfl o69 rfl <| Ja ⟨rfl, rfl⟩, og hS fun _ _ hS => Jm Jn rfl rfl (hS.mxcell (i := 1) rfl o69) rfl <| Ja ⟨rfl, Jf _⟩, oC, oC, fun _ _ _ => Je Jn XE3 (hS.mxrd (i := 2) rfl o61) rfl rfl o74 rfl <| Ja ⟨rfl, rfl⟩, og hS fun _ _ hS => Jm XU3 rfl rfl (JJ (hS.mxrd (i := 2) rfl o61) o74) rfl <| Ja ⟨rfl, Jf _⟩, ?_, trivial⟩; intro w76 hE; have hE := hE rfl; have hS := hS.grow hE; intro RR; refine Jt0 (vs := is ([(gi (gl x16 z53) z40)] : LI)) Jn XE3 rfl rfl rfl rfl (JF _) rfl ?_; intro A77 k80 w78 hO81 hN82g hGw78; have hN82 : ∀ g, bl A77 = some g -> _ <= g := fun g hg => Nat.le_trans hE.size (hN82g g hg); exact Ja ⟨_, rfl, hGw78, ⟨A77, k80, rfl, hO81, hN82⟩, (fun _ => fun g hg => ⟨hN82g g hg, (hO81.bl_ge g hg).2⟩), (fun j h => by cases h)⟩
    intro X hX; have hX : X ∈ ([[], [2], [1], [1, 2], [0], [0, 2], [0, 1], [0, 1, 2]] : List (List Nat)) := hX; simp only [List.mem_cons, List.not_mem_nil, or_false] at hX; rcases hX with rfl | rfl | rfl | rfl | rfl | rfl | rfl | rfl
    .intro vals w83 hT hVs hAp hCp q_ hq_; have hS := hS.grow hT; obtain rfl : q_ = 3 := hq_.trans (by decide +kernel); obtain ⟨A77_12, k80_12, hv12, hO81_12, hN82_12⟩ := hVs 12 (by decide) (by decide); have hS := JX [] hS0 hS hO81_12 hN82_12 (fun s hs => by cases hs); refine Yf [(12, .slice A77_12 1 k80_12)] ⟨hv12, trivial⟩ <| Jg 13 rfl ?_; obtain ⟨o85, hv⟩ := hv; have hS := hS.pick [2, 0, 1, 3, 4, 5] rfl; have hl89 := hS.mxlen (i := 0) rfl; have hS := hS.mxTake o69; refine SL.append (cs := is (gl x51 z40)) (cs' := is ([(gi (gl x16 z53) z40)] : LI)) 0 (((gl x51 z40) ++ ([(gi (gl x16 z53) z40)] : LI)).length) (is ((gl x51 z40) ++ ([(gi (gl x16 z53) z40)] : LI))) hS rfl Jn XE3 (hS.rd (i := 2) rfl) (JF _) rfl rfl (apk o85).1 (apk o85).2 (J0 (hS.rd (i := 0) rfl) (hS.rd (i := 2) rfl)) (Jv _ _) rfl ?_; intro A86 k87 w88 hS; refine Ja <| Jg 14 rfl ?_; obtain ⟨o91, hv⟩ := hv; refine Je Jt Jq (hS.mxhout (q := 1) rfl) rfl rfl o91 rfl <| Ja <| Jg 15 rfl <| Js hS hl89 Jq o91 (hS.rd (i := 0) rfl).ilen.symm rfl rfl ?_; intro w92 hS; refine Ja <| JG ?_; have hS := hS.pick [2, 0, 3, 4, 5] rfl; exact ⟨(sll x51 z40 ((gl x51 z40) ++ ([(gi (gl x16 z53) z40)] : LI)), (up hs52 z40.toNat (A86, k87))), sp rfl, rfl, hv, hS⟩
    .intro vals w83 hT hVs hAp hCp q_ hq_; have hS := hS.grow hT; obtain rfl : q_ = 4 := hq_.trans (by decide +kernel); obtain ⟨A77_12, k80_12, hv12, hO81_12, hN82_12⟩ := hVs 12 (by decide) (by decide); have hS := JX [] hS0 hS hO81_12 hN82_12 (fun s hs => by cases hs); refine Yf [(12, .slice A77_12 1 k80_12)] ⟨hv12, trivial⟩ <| J3 2 13 rfl rfl ?_ ?_
     .refine Jb 2 <| Jg 13 rfl ?_; obtain ⟨o85, hv⟩ := hv; have hS := hS.pick [2, 0, 1, 3, 4, 5] rfl; have hl89 := hS.mxlen (i := 0) rfl; have hS := hS.mxTake o69; refine SL.append (cs := is (gl x51 z40)) (cs' := is ([(gi (gl x16 z53) z40)] : LI)) 0 (((gl x51 z40) ++ ([(gi (gl x16 z53) z40)] : LI)).length) (is ((gl x51 z40) ++ ([(gi (gl x16 z53) z40)] : LI))) hS rfl Jn XE3 (hS.rd (i := 2) rfl) (JF _) rfl rfl (apk o85).1 (apk o85).2 (J0 (hS.rd (i := 0) rfl) (hS.rd (i := 2) rfl)) (Jv _ _) rfl ?_; intro A86 k87 w88 hS; refine Ja <| Jg 14 rfl ?_; obtain ⟨o91, hv⟩ := hv; refine Je Jt Jq (hS.mxhout (q := 1) rfl) rfl rfl o91 rfl <| Ja <| Jg 15 rfl <| Js hS hl89 Jq o91 (hS.rd (i := 0) rfl).ilen.symm rfl rfl ?_; intro w92 hS; refine Ja <| JG ?_; have hS := hS.pick [2, 0, 3, 4, 5] rfl; exact ⟨(sll x51 z40 ((gl x51 z40) ++ ([(gi (gl x16 z53) z40)] : LI)), (up hs52 z40.toNat (A86, k87))), sp rfl, rfl, hv, hS⟩
     obtain ⟨o85, hv⟩ := hv; have hS := hS.pick [2, 0, 1, 3, 4, 5] rfl; have hl89 := hS.mxlen (i := 0) rfl; have hS := hS.mxTake o69; refine SL.append (cs := is (gl x51 z40)) (cs' := is ([(gi (gl x16 z53) z40)] : LI)) 0 (((gl x51 z40) ++ ([(gi (gl x16 z53) z40)] : LI)).length) (is ((gl x51 z40) ++ ([(gi (gl x16 z53) z40)] : LI))) hS rfl Jn XE3 (hS.rd (i := 2) rfl) (JF _) rfl rfl (apk o85).1 (apk o85).2 (J0 (hS.rd (i := 0) rfl) (hS.rd (i := 2) rfl)) (Jv _ _) rfl ?_; intro A86 k87 w88 hS; refine Ja <| Jg 2 rfl <| Jb 2 <| Jg 14 rfl ?_; obtain ⟨o91, hv⟩ := hv; refine Je Jt Jq (hS.mxhout (q := 1) rfl) rfl rfl o91 rfl <| Ja <| Jg 15 rfl <| Js hS hl89 Jq o91 (hS.rd (i := 0) rfl).ilen.symm rfl rfl ?_; intro w92 hS; refine Ja <| JG ?_; have hS := hS.pick [2, 0, 3, 4, 5] rfl; exact ⟨(sll x51 z40 ((gl x51 z40) ++ ([(gi (gl x16 z53) z40)] : LI)), (up hs52 z40.toNat (A86, k87))), sp rfl, rfl, hv, hS⟩
    .intro vals w83 hT hVs hAp hCp q_ hq_; have hS := hS.grow hT; obtain rfl : q_ = 4 := hq_.trans (by decide +kernel); obtain ⟨A77_12, k80_12, hv12, hO81_12, hN82_12⟩ := hVs 12 (by decide) (by decide); have hS := JX [] hS0 hS hO81_12 hN82_12 (fun s hs => by cases hs); refine Yf [(12, .slice A77_12 1 k80_12)] ⟨hv12, trivial⟩ <| J3 1 13 rfl rfl ?_ ?_
     .refine Jl 1 1 Jt hS rfl rfl rfl ⟨rfl, rfl⟩ <| Ja <| Jg 13 rfl ?_; obtain ⟨o85, hv⟩ := hv; have hS := hS.pick [2, 0, 1, 3, 4, 5] rfl; have hl89 := hS.mxlen (i := 0) rfl; have hS := hS.mxTake o69; refine SL.append (cs := is (gl x51 z40)) (cs' := is ([(gi (gl x16 z53) z40)] : LI)) 0 (((gl x51 z40) ++ ([(gi (gl x16 z53) z40)] : LI)).length) (is ((gl x51 z40) ++ ([(gi (gl x16 z53) z40)] : LI))) hS rfl Jn XE3 (hS.rd (i := 2) rfl) (JF _) rfl rfl (apk o85).1 (apk o85).2 (J0 (hS.rd (i := 0) rfl) (hS.rd (i := 2) rfl)) (Jv _ _) rfl ?_; intro A86 k87 w88 hS; refine Ja <| Jg 14 rfl ?_; obtain ⟨o91, hv⟩ := hv; refine Je Jt Jq (hS.mxhout (q := 1) rfl) rfl rfl o91 rfl <| Ja <| Jg 15 rfl <| Js hS hl89 Jq o91 (hS.rd (i := 0) rfl).ilen.symm rfl rfl ?_; intro w92 hS; refine Ja <| JG ?_; have hS := hS.pick [2, 0, 3, 4, 5] rfl; exact ⟨(sll x51 z40 ((gl x51 z40) ++ ([(gi (gl x16 z53) z40)] : LI)), (up hs52 z40.toNat (A86, k87))), sp rfl, rfl, hv, hS⟩
     obtain ⟨o85, hv⟩ := hv; have hS := hS.pick [2, 0, 1, 3, 4, 5] rfl; have hl89 := hS.mxlen (i := 0) rfl; have hS := hS.mxTake o69; refine SL.append (cs := is (gl x51 z40)) (cs' := is ([(gi (gl x16 z53) z40)] : LI)) 0 (((gl x51 z40) ++ ([(gi (gl x16 z53) z40)] : LI)).length) (is ((gl x51 z40) ++ ([(gi (gl x16 z53) z40)] : LI))) hS rfl Jn XE3 (hS.rd (i := 2) rfl) (JF _) rfl rfl (apk o85).1 (apk o85).2 (J0 (hS.rd (i := 0) rfl) (hS.rd (i := 2) rfl)) (Jv _ _) rfl ?_; intro A86 k87 w88 hS; refine Ja <| Jg 1 rfl <| Jl 3 1 Jt hS rfl rfl rfl ⟨rfl, rfl⟩ <| Ja <| Jg 14 rfl ?_; obtain ⟨o91, hv⟩ := hv; refine Je Jt Jq (hS.mxhout (q := 1) rfl) rfl rfl o91 rfl <| Ja <| Jg 15 rfl <| Js hS hl89 Jq o91 (hS.rd (i := 0) rfl).ilen.symm rfl rfl ?_; intro w92 hS; refine Ja <| JG ?_; have hS := hS.pick [2, 0, 3, 4, 5] rfl; exact ⟨(sll x51 z40 ((gl x51 z40) ++ ([(gi (gl x16 z53) z40)] : LI)), (up hs52 z40.toNat (A86, k87))), sp rfl, rfl, hv, hS⟩
    .intro vals w83 hT hVs hAp hCp q_ hq_; have hS := hS.grow hT; obtain rfl : q_ = 5 := hq_.trans (by decide +kernel); obtain ⟨A77_12, k80_12, hv12, hO81_12, hN82_12⟩ := hVs 12 (by decide) (by decide); have hS := JX [] hS0 hS hO81_12 hN82_12 (fun s hs => by cases hs); refine Yf [(12, .slice A77_12 1 k80_12)] ⟨hv12, trivial⟩ <| Jew 1 2 13 rfl rfl rfl ?_ ?_ ?_
     .refine Jl 1 1 Jt hS rfl rfl rfl ⟨rfl, rfl⟩ <| Ja <| J3 2 13 rfl rfl ?_ ?_
      .refine Jb 2 <| Jg 13 rfl ?_; obtain ⟨o85, hv⟩ := hv; have hS := hS.pick [2, 0, 1, 3, 4, 5] rfl; have hl89 := hS.mxlen (i := 0) rfl; have hS := hS.mxTake o69; refine SL.append (cs := is (gl x51 z40)) (cs' := is ([(gi (gl x16 z53) z40)] : LI)) 0 (((gl x51 z40) ++ ([(gi (gl x16 z53) z40)] : LI)).length) (is ((gl x51 z40) ++ ([(gi (gl x16 z53) z40)] : LI))) hS rfl Jn XE3 (hS.rd (i := 2) rfl) (JF _) rfl rfl (apk o85).1 (apk o85).2 (J0 (hS.rd (i := 0) rfl) (hS.rd (i := 2) rfl)) (Jv _ _) rfl ?_; intro A86 k87 w88 hS; refine Ja <| Jg 14 rfl ?_; obtain ⟨o91, hv⟩ := hv; refine Je Jt Jq (hS.mxhout (q := 1) rfl) rfl rfl o91 rfl <| Ja <| Jg 15 rfl <| Js hS hl89 Jq o91 (hS.rd (i := 0) rfl).ilen.symm rfl rfl ?_; intro w92 hS; refine Ja <| JG ?_; have hS := hS.pick [2, 0, 3, 4, 5] rfl; exact ⟨(sll x51 z40 ((gl x51 z40) ++ ([(gi (gl x16 z53) z40)] : LI)), (up hs52 z40.toNat (A86, k87))), sp rfl, rfl, hv, hS⟩
      obtain ⟨o85, hv⟩ := hv; have hS := hS.pick [2, 0, 1, 3, 4, 5] rfl; have hl89 := hS.mxlen (i := 0) rfl; have hS := hS.mxTake o69; refine SL.append (cs := is (gl x51 z40)) (cs' := is ([(gi (gl x16 z53) z40)] : LI)) 0 (((gl x51 z40) ++ ([(gi (gl x16 z53) z40)] : LI)).length) (is ((gl x51 z40) ++ ([(gi (gl x16 z53) z40)] : LI))) hS rfl Jn XE3 (hS.rd (i := 2) rfl) (JF _) rfl rfl (apk o85).1 (apk o85).2 (J0 (hS.rd (i := 0) rfl) (hS.rd (i := 2) rfl)) (Jv _ _) rfl ?_; intro A86 k87 w88 hS; refine Ja <| Jg 2 rfl <| Jb 2 <| Jg 14 rfl ?_; obtain ⟨o91, hv⟩ := hv; refine Je Jt Jq (hS.mxhout (q := 1) rfl) rfl rfl o91 rfl <| Ja <| Jg 15 rfl <| Js hS hl89 Jq o91 (hS.rd (i := 0) rfl).ilen.symm rfl rfl ?_; intro w92 hS; refine Ja <| JG ?_; have hS := hS.pick [2, 0, 3, 4, 5] rfl; exact ⟨(sll x51 z40 ((gl x51 z40) ++ ([(gi (gl x16 z53) z40)] : LI)), (up hs52 z40.toNat (A86, k87))), sp rfl, rfl, hv, hS⟩
     .refine Jb 2 <| J3 1 13 rfl rfl ?_ ?_
      .refine Jl 1 1 Jt hS rfl rfl rfl ⟨rfl, rfl⟩ <| Ja <| Jg 13 rfl ?_; obtain ⟨o85, hv⟩ := hv; have hS := hS.pick [2, 0, 1, 3, 4, 5] rfl; have hl89 := hS.mxlen (i := 0) rfl; have hS := hS.mxTake o69; refine SL.append (cs := is (gl x51 z40)) (cs' := is ([(gi (gl x16 z53) z40)] : LI)) 0 (((gl x51 z40) ++ ([(gi (gl x16 z53) z40)] : LI)).length) (is ((gl x51 z40) ++ ([(gi (gl x16 z53) z40)] : LI))) hS rfl Jn XE3 (hS.rd (i := 2) rfl) (JF _) rfl rfl (apk o85).1 (apk o85).2 (J0 (hS.rd (i := 0) rfl) (hS.rd (i := 2) rfl)) (Jv _ _) rfl ?_; intro A86 k87 w88 hS; refine Ja <| Jg 14 rfl ?_; obtain ⟨o91, hv⟩ := hv; refine Je Jt Jq (hS.mxhout (q := 1) rfl) rfl rfl o91 rfl <| Ja <| Jg 15 rfl <| Js hS hl89 Jq o91 (hS.rd (i := 0) rfl).ilen.symm rfl rfl ?_; intro w92 hS; refine Ja <| JG ?_; have hS := hS.pick [2, 0, 3, 4, 5] rfl; exact ⟨(sll x51 z40 ((gl x51 z40) ++ ([(gi (gl x16 z53) z40)] : LI)), (up hs52 z40.toNat (A86, k87))), sp rfl, rfl, hv, hS⟩
      obtain ⟨o85, hv⟩ := hv; have hS := hS.pick [2, 0, 1, 3, 4, 5] rfl; have hl89 := hS.mxlen (i := 0) rfl; have hS := hS.mxTake o69; refine SL.append (cs := is (gl x51 z40)) (cs' := is ([(gi (gl x16 z53) z40)] : LI)) 0 (((gl x51 z40) ++ ([(gi (gl x16 z53) z40)] : LI)).length) (is ((gl x51 z40) ++ ([(gi (gl x16 z53) z40)] : LI))) hS rfl Jn XE3 (hS.rd (i := 2) rfl) (JF _) rfl rfl (apk o85).1 (apk o85).2 (J0 (hS.rd (i := 0) rfl) (hS.rd (i := 2) rfl)) (Jv _ _) rfl ?_; intro A86 k87 w88 hS; refine Ja <| Jg 1 rfl <| Jl 3 1 Jt hS rfl rfl rfl ⟨rfl, rfl⟩ <| Ja <| Jg 14 rfl ?_; obtain ⟨o91, hv⟩ := hv; refine Je Jt Jq (hS.mxhout (q := 1) rfl) rfl rfl o91 rfl <| Ja <| Jg 15 rfl <| Js hS hl89 Jq o91 (hS.rd (i := 0) rfl).ilen.symm rfl rfl ?_; intro w92 hS; refine Ja <| JG ?_; have hS := hS.pick [2, 0, 3, 4, 5] rfl; exact ⟨(sll x51 z40 ((gl x51 z40) ++ ([(gi (gl x16 z53) z40)] : LI)), (up hs52 z40.toNat (A86, k87))), sp rfl, rfl, hv, hS⟩
     obtain ⟨o85, hv⟩ := hv; have hS := hS.pick [2, 0, 1, 3, 4, 5] rfl; have hl89 := hS.mxlen (i := 0) rfl; have hS := hS.mxTake o69; refine SL.append (cs := is (gl x51 z40)) (cs' := is ([(gi (gl x16 z53) z40)] : LI)) 0 (((gl x51 z40) ++ ([(gi (gl x16 z53) z40)] : LI)).length) (is ((gl x51 z40) ++ ([(gi (gl x16 z53) z40)] : LI))) hS rfl Jn XE3 (hS.rd (i := 2) rfl) (JF _) rfl rfl (apk o85).1 (apk o85).2 (J0 (hS.rd (i := 0) rfl) (hS.rd (i := 2) rfl)) (Jv _ _) rfl ?_; intro A86 k87 w88 hS; refine Ja <| J3 1 2 rfl rfl ?_ ?_
     .refine Jl 3 1 Jt hS rfl rfl rfl ⟨rfl, rfl⟩ <| Ja <| Jg 2 rfl <| Jb 2 <| Jg 14 rfl ?_; obtain ⟨o91, hv⟩ := hv; refine Je Jt Jq (hS.mxhout (q := 1) rfl) rfl rfl o91 rfl <| Ja <| Jg 15 rfl <| Js hS hl89 Jq o91 (hS.rd (i := 0) rfl).ilen.symm rfl rfl ?_; intro w92 hS; refine Ja <| JG ?_; have hS := hS.pick [2, 0, 3, 4, 5] rfl; exact ⟨(sll x51 z40 ((gl x51 z40) ++ ([(gi (gl x16 z53) z40)] : LI)), (up hs52 z40.toNat (A86, k87))), sp rfl, rfl, hv, hS⟩
     refine Jb 2 <| Jg 1 rfl <| Jl 3 1 Jt hS rfl rfl rfl ⟨rfl, rfl⟩ <| Ja <| Jg 14 rfl ?_; obtain ⟨o91, hv⟩ := hv; refine Je Jt Jq (hS.mxhout (q := 1) rfl) rfl rfl o91 rfl <| Ja <| Jg 15 rfl <| Js hS hl89 Jq o91 (hS.rd (i := 0) rfl).ilen.symm rfl rfl ?_; intro w92 hS; refine Ja <| JG ?_; have hS := hS.pick [2, 0, 3, 4, 5] rfl; exact ⟨(sll x51 z40 ((gl x51 z40) ++ ([(gi (gl x16 z53) z40)] : LI)), (up hs52 z40.toNat (A86, k87))), sp rfl, rfl, hv, hS⟩
    .intro vals w83 hT hVs hAp hCp q_ hq_; have hS := hS.grow hT; obtain rfl : q_ = 4 := hq_.trans (by decide +kernel); obtain ⟨A77_12, k80_12, hv12, hO81_12, hN82_12⟩ := hVs 12 (by decide) (by decide); have hS := JX [] hS0 hS hO81_12 hN82_12 (fun s hs => by cases hs); refine Yf [(12, .slice A77_12 1 k80_12)] ⟨hv12, trivial⟩ <| J3 0 13 rfl rfl ?_ ?_
     .refine Jd (off := 1) J2 rfl rfl <| Ja <| Jg 13 rfl ?_; obtain ⟨o85, hv⟩ := hv; have hS := hS.pick [2, 0, 1, 3, 4, 5] rfl; have hl89 := hS.mxlen (i := 0) rfl; have hS := hS.mxTake o69; refine SL.append (cs := is (gl x51 z40)) (cs' := is ([(gi (gl x16 z53) z40)] : LI)) 0 (((gl x51 z40) ++ ([(gi (gl x16 z53) z40)] : LI)).length) (is ((gl x51 z40) ++ ([(gi (gl x16 z53) z40)] : LI))) hS rfl Jn XE3 (hS.rd (i := 2) rfl) (JF _) rfl rfl (apk o85).1 (apk o85).2 (J0 (hS.rd (i := 0) rfl) (hS.rd (i := 2) rfl)) (Jv _ _) rfl ?_; intro A86 k87 w88 hS; refine Ja <| Jg 14 rfl ?_; obtain ⟨o91, hv⟩ := hv; refine Je Jt Jq (hS.mxhout (q := 1) rfl) rfl rfl o91 rfl <| Ja <| Jg 15 rfl <| Js hS hl89 Jq o91 (hS.rd (i := 0) rfl).ilen.symm rfl rfl ?_; intro w92 hS; refine Ja <| JG ?_; have hS := hS.pick [2, 0, 3, 4, 5] rfl; exact ⟨(sll x51 z40 ((gl x51 z40) ++ ([(gi (gl x16 z53) z40)] : LI)), (up hs52 z40.toNat (A86, k87))), sp rfl, rfl, hv, hS⟩
     obtain ⟨o85, hv⟩ := hv; have hS := hS.pick [2, 0, 1, 3, 4, 5] rfl; have hl89 := hS.mxlen (i := 0) rfl; have hS := hS.mxTake o69; refine SL.append (cs := is (gl x51 z40)) (cs' := is ([(gi (gl x16 z53) z40)] : LI)) 0 (((gl x51 z40) ++ ([(gi (gl x16 z53) z40)] : LI)).length) (is ((gl x51 z40) ++ ([(gi (gl x16 z53) z40)] : LI))) hS rfl Jn XE3 (hS.rd (i := 2) rfl) (JF _) rfl rfl (apk o85).1 (apk o85).2 (J0 (hS.rd (i := 0) rfl) (hS.rd (i := 2) rfl)) (Jv _ _) rfl ?_; intro A86 k87 w88 hS; refine Ja <| Jg 0 rfl <| Jd (off := 1) J2 rfl rfl <| Ja <| Jg 14 rfl ?_; obtain ⟨o91, hv⟩ := hv; refine Je Jt Jq (hS.mxhout (q := 1) rfl) rfl rfl o91 rfl <| Ja <| Jg 15 rfl <| Js hS hl89 Jq o91 (hS.rd (i := 0) rfl).ilen.symm rfl rfl ?_; intro w92 hS; refine Ja <| JG ?_; have hS := hS.pick [2, 0, 3, 4, 5] rfl; exact ⟨(sll x51 z40 ((gl x51 z40) ++ ([(gi (gl x16 z53) z40)] : LI)), (up hs52 z40.toNat (A86, k87))), sp rfl, rfl, hv, hS⟩
    .intro vals w83 hT hVs hAp hCp q_ hq_; have hS := hS.grow hT; obtain rfl : q_ = 5 := hq_.trans (by decide +kernel); obtain ⟨A77_12, k80_12, hv12, hO81_12, hN82_12⟩ := hVs 12 (by decide) (by decide); have hS := JX [] hS0 hS hO81_12 hN82_12 (fun s hs => by cases hs); refine Yf [(12, .slice A77_12 1 k80_12)] ⟨hv12, trivial⟩ <| Jew 0 2 13 rfl rfl rfl ?_ ?_ ?_
     .refine Jd (off := 1) J2 rfl rfl <| Ja <| J3 2 13 rfl rfl ?_ ?_
      .refine Jb 2 <| Jg 13 rfl ?_; obtain ⟨o85, hv⟩ := hv; have hS := hS.pick [2, 0, 1, 3, 4, 5] rfl; have hl89 := hS.mxlen (i := 0) rfl; have hS := hS.mxTake o69; refine SL.append (cs := is (gl x51 z40)) (cs' := is ([(gi (gl x16 z53) z40)] : LI)) 0 (((gl x51 z40) ++ ([(gi (gl x16 z53) z40)] : LI)).length) (is ((gl x51 z40) ++ ([(gi (gl x16 z53) z40)] : LI))) hS rfl Jn XE3 (hS.rd (i := 2) rfl) (JF _) rfl rfl (apk o85).1 (apk o85).2 (J0 (hS.rd (i := 0) rfl) (hS.rd (i := 2) rfl)) (Jv _ _) rfl ?_; intro A86 k87 w88 hS; refine Ja <| Jg 14 rfl ?_; obtain ⟨o91, hv⟩ := hv; refine Je Jt Jq (hS.mxhout (q := 1) rfl) rfl rfl o91 rfl <| Ja <| Jg 15 rfl <| Js hS hl89 Jq o91 (hS.rd (i := 0) rfl).ilen.symm rfl rfl ?_; intro w92 hS; refine Ja <| JG ?_; have hS := hS.pick [2, 0, 3, 4, 5] rfl; exact ⟨(sll x51 z40 ((gl x51 z40) ++ ([(gi (gl x16 z53) z40)] : LI)), (up hs52 z40.toNat (A86, k87))), sp rfl, rfl, hv, hS⟩
      obtain ⟨o85, hv⟩ := hv; have hS := hS.pick [2, 0, 1, 3, 4, 5] rfl; have hl89 := hS.mxlen (i := 0) rfl; have hS := hS.mxTake o69; refine SL.append (cs := is (gl x51 z40)) (cs' := is ([(gi (gl x16 z53) z40)] : LI)) 0 (((gl x51 z40) ++ ([(gi (gl x16 z53) z40)] : LI)).length) (is ((gl x51 z40) ++ ([(gi (gl x16 z53) z40)] : LI))) hS rfl Jn XE3 (hS.rd (i := 2) rfl) (JF _) rfl rfl (apk o85).1 (apk o85).2 (J0 (hS.rd (i := 0) rfl) (hS.rd (i := 2) rfl)) (Jv _ _) rfl ?_; intro A86 k87 w88 hS; refine Ja <| Jg 2 rfl <| Jb 2 <| Jg 14 rfl ?_; obtain ⟨o91, hv⟩ := hv; refine Je Jt Jq (hS.mxhout (q := 1) rfl) rfl rfl o91 rfl <| Ja <| Jg 15 rfl <| Js hS hl89 Jq o91 (hS.rd (i := 0) rfl).ilen.symm rfl rfl ?_; intro w92 hS; refine Ja <| JG ?_; have hS := hS.pick [2, 0, 3, 4, 5] rfl; exact ⟨(sll x51 z40 ((gl x51 z40) ++ ([(gi (gl x16 z53) z40)] : LI)), (up hs52 z40.toNat (A86, k87))), sp rfl, rfl, hv, hS⟩
     .refine Jb 2 <| J3 0 13 rfl rfl ?_ ?_
      .refine Jd (off := 1) J2 rfl rfl <| Ja <| Jg 13 rfl ?_; obtain ⟨o85, hv⟩ := hv; have hS := hS.pick [2, 0, 1, 3, 4, 5] rfl; have hl89 := hS.mxlen (i := 0) rfl; have hS := hS.mxTake o69; refine SL.append (cs := is (gl x51 z40)) (cs' := is ([(gi (gl x16 z53) z40)] : LI)) 0 (((gl x51 z40) ++ ([(gi (gl x16 z53) z40)] : LI)).length) (is ((gl x51 z40) ++ ([(gi (gl x16 z53) z40)] : LI))) hS rfl Jn XE3 (hS.rd (i := 2) rfl) (JF _) rfl rfl (apk o85).1 (apk o85).2 (J0 (hS.rd (i := 0) rfl) (hS.rd (i := 2) rfl)) (Jv _ _) rfl ?_; intro A86 k87 w88 hS; refine Ja <| Jg 14 rfl ?_; obtain ⟨o91, hv⟩ := hv; refine Je Jt Jq (hS.mxhout (q := 1) rfl) rfl rfl o91 rfl <| Ja <| Jg 15 rfl <| Js hS hl89 Jq o91 (hS.rd (i := 0) rfl).ilen.symm rfl rfl ?_; intro w92 hS; refine Ja <| JG ?_; have hS := hS.pick [2, 0, 3, 4, 5] rfl; exact ⟨(sll x51 z40 ((gl x51 z40) ++ ([(gi (gl x16 z53) z40)] : LI)), (up hs52 z40.toNat (A86, k87))), sp rfl, rfl, hv, hS⟩
      obtain ⟨o85, hv⟩ := hv; have hS := hS.pick [2, 0, 1, 3, 4, 5] rfl; have hl89 := hS.mxlen (i := 0) rfl; have hS := hS.mxTake o69; refine SL.append (cs := is (gl x51 z40)) (cs' := is ([(gi (gl x16 z53) z40)] : LI)) 0 (((gl x51 z40) ++ ([(gi (gl x16 z53) z40)] : LI)).length) (is ((gl x51 z40) ++ ([(gi (gl x16 z53) z40)] : LI))) hS rfl Jn XE3 (hS.rd (i := 2) rfl) (JF _) rfl rfl (apk o85).1 (apk o85).2 (J0 (hS.rd (i := 0) rfl) (hS.rd (i := 2) rfl)) (Jv _ _) rfl ?_; intro A86 k87 w88 hS; refine Ja <| Jg 0 rfl <| Jd (off := 1) J2 rfl rfl <| Ja <| Jg 14 rfl ?_; obtain ⟨o91, hv⟩ := hv; refine Je Jt Jq (hS.mxhout (q := 1) rfl) rfl rfl o91 rfl <| Ja <| Jg 15 rfl <| Js hS hl89 Jq o91 (hS.rd (i := 0) rfl).ilen.symm rfl rfl ?_; intro w92 hS; refine Ja <| JG ?_; have hS := hS.pick [2, 0, 3, 4, 5] rfl; exact ⟨(sll x51 z40 ((gl x51 z40) ++ ([(gi (gl x16 z53) z40)] : LI)), (up hs52 z40.toNat (A86, k87))), sp rfl, rfl, hv, hS⟩
     obtain ⟨o85, hv⟩ := hv; have hS := hS.pick [2, 0, 1, 3, 4, 5] rfl; have hl89 := hS.mxlen (i := 0) rfl; have hS := hS.mxTake o69; refine SL.append (cs := is (gl x51 z40)) (cs' := is ([(gi (gl x16 z53) z40)] : LI)) 0 (((gl x51 z40) ++ ([(gi (gl x16 z53) z40)] : LI)).length) (is ((gl x51 z40) ++ ([(gi (gl x16 z53) z40)] : LI))) hS rfl Jn XE3 (hS.rd (i := 2) rfl) (JF _) rfl rfl (apk o85).1 (apk o85).2 (J0 (hS.rd (i := 0) rfl) (hS.rd (i := 2) rfl)) (Jv _ _) rfl ?_; intro A86 k87 w88 hS; refine Ja <| J3 0 2 rfl rfl ?_ ?_
     .refine Jd (off := 1) J2 rfl rfl <| Ja <| Jg 2 rfl <| Jb 2 <| Jg 14 rfl ?_; obtain ⟨o91, hv⟩ := hv; refine Je Jt Jq (hS.mxhout (q := 1) rfl) rfl rfl o91 rfl <| Ja <| Jg 15 rfl <| Js hS hl89 Jq o91 (hS.rd (i := 0) rfl).ilen.symm rfl rfl ?_; intro w92 hS; refine Ja <| JG ?_; have hS := hS.pick [2, 0, 3, 4, 5] rfl; exact ⟨(sll x51 z40 ((gl x51 z40) ++ ([(gi (gl x16 z53) z40)] : LI)), (up hs52 z40.toNat (A86, k87))), sp rfl, rfl, hv, hS⟩
     refine Jb 2 <| Jg 0 rfl <| Jd (off := 1) J2 rfl rfl <| Ja <| Jg 14 rfl ?_; obtain ⟨o91, hv⟩ := hv; refine Je Jt Jq (hS.mxhout (q := 1) rfl) rfl rfl o91 rfl <| Ja <| Jg 15 rfl <| Js hS hl89 Jq o91 (hS.rd (i := 0) rfl).ilen.symm rfl rfl ?_; intro w92 hS; refine Ja <| JG ?_; have hS := hS.pick [2, 0, 3, 4, 5] rfl; exact ⟨(sll x51 z40 ((gl x51 z40) ++ ([(gi (gl x16 z53) z40)] : LI)), (up hs52 z40.toNat (A86, k87))), sp rfl, rfl, hv, hS⟩
    .intro vals w83 hT hVs hAp hCp q_ hq_; have hS := hS.grow hT; obtain rfl : q_ = 5 := hq_.trans (by decide +kernel); obtain ⟨A77_12, k80_12, hv12, hO81_12, hN82_12⟩ := hVs 12 (by decide) (by decide); have hS := JX [] hS0 hS hO81_12 hN82_12 (fun s hs => by cases hs); refine Yf [(12, .slice A77_12 1 k80_12)] ⟨hv12, trivial⟩ <| J3 0 13 rfl rfl ?_ ?_
     .refine Jd (off := 1) J2 rfl rfl <| Ja <| J3 1 13 rfl rfl ?_ ?_
      .refine Jl 1 1 Jt hS rfl rfl rfl ⟨rfl, rfl⟩ <| Ja <| Jg 13 rfl ?_; obtain ⟨o85, hv⟩ := hv; have hS := hS.pick [2, 0, 1, 3, 4, 5] rfl; have hl89 := hS.mxlen (i := 0) rfl; have hS := hS.mxTake o69; refine SL.append (cs := is (gl x51 z40)) (cs' := is ([(gi (gl x16 z53) z40)] : LI)) 0 (((gl x51 z40) ++ ([(gi (gl x16 z53) z40)] : LI)).length) (is ((gl x51 z40) ++ ([(gi (gl x16 z53) z40)] : LI))) hS rfl Jn XE3 (hS.rd (i := 2) rfl) (JF _) rfl rfl (apk o85).1 (apk o85).2 (J0 (hS.rd (i := 0) rfl) (hS.rd (i := 2) rfl)) (Jv _ _) rfl ?_; intro A86 k87 w88 hS; refine Ja <| Jg 14 rfl ?_; obtain ⟨o91, hv⟩ := hv; refine Je Jt Jq (hS.mxhout (q := 1) rfl) rfl rfl o91 rfl <| Ja <| Jg 15 rfl <| Js hS hl89 Jq o91 (hS.rd (i := 0) rfl).ilen.symm rfl rfl ?_; intro w92 hS; refine Ja <| JG ?_; have hS := hS.pick [2, 0, 3, 4, 5] rfl; exact ⟨(sll x51 z40 ((gl x51 z40) ++ ([(gi (gl x16 z53) z40)] : LI)), (up hs52 z40.toNat (A86, k87))), sp rfl, rfl, hv, hS⟩
      obtain ⟨o85, hv⟩ := hv; have hS := hS.pick [2, 0, 1, 3, 4, 5] rfl; have hl89 := hS.mxlen (i := 0) rfl; have hS := hS.mxTake o69; refine SL.append (cs := is (gl x51 z40)) (cs' := is ([(gi (gl x16 z53) z40)] : LI)) 0 (((gl x51 z40) ++ ([(gi (gl x16 z53) z40)] : LI)).length) (is ((gl x51 z40) ++ ([(gi (gl x16 z53) z40)] : LI))) hS rfl Jn XE3 (hS.rd (i := 2) rfl) (JF _) rfl rfl (apk o85).1 (apk o85).2 (J0 (hS.rd (i := 0) rfl) (hS.rd (i := 2) rfl)) (Jv _ _) rfl ?_; intro A86 k87 w88 hS; refine Ja <| Jg 1 rfl <| Jl 3 1 Jt hS rfl rfl rfl ⟨rfl, rfl⟩ <| Ja <| Jg 14 rfl ?_; obtain ⟨o91, hv⟩ := hv; refine Je Jt Jq (hS.mxhout (q := 1) rfl) rfl rfl o91 rfl <| Ja <| Jg 15 rfl <| Js hS hl89 Jq o91 (hS.rd (i := 0) rfl).ilen.symm rfl rfl ?_; intro w92 hS; refine Ja <| JG ?_; have hS := hS.pick [2, 0, 3, 4, 5] rfl; exact ⟨(sll x51 z40 ((gl x51 z40) ++ ([(gi (gl x16 z53) z40)] : LI)), (up hs52 z40.toNat (A86, k87))), sp rfl, rfl, hv, hS⟩
     obtain ⟨o85, hv⟩ := hv; have hS := hS.pick [2, 0, 1, 3, 4, 5] rfl; have hl89 := hS.mxlen (i := 0) rfl; have hS := hS.mxTake o69; refine SL.append (cs := is (gl x51 z40)) (cs' := is ([(gi (gl x16 z53) z40)] : LI)) 0 (((gl x51 z40) ++ ([(gi (gl x16 z53) z40)] : LI)).length) (is ((gl x51 z40) ++ ([(gi (gl x16 z53) z40)] : LI))) hS rfl Jn XE3 (hS.rd (i := 2) rfl) (JF _) rfl rfl (apk o85).1 (apk o85).2 (J0 (hS.rd (i := 0) rfl) (hS.rd (i := 2) rfl)) (Jv _ _) rfl ?_; intro A86 k87 w88 hS; refine Ja <| Jg 0 rfl <| Jd (off := 1) J2 rfl rfl <| Ja <| Jg 1 rfl <| Jl 3 1 Jt hS rfl rfl rfl ⟨rfl, rfl⟩ <| Ja <| Jg 14 rfl ?_; obtain ⟨o91, hv⟩ := hv; refine Je Jt Jq (hS.mxhout (q := 1) rfl) rfl rfl o91 rfl <| Ja <| Jg 15 rfl <| Js hS hl89 Jq o91 (hS.rd (i := 0) rfl).ilen.symm rfl rfl ?_; intro w92 hS; refine Ja <| JG ?_; have hS := hS.pick [2, 0, 3, 4, 5] rfl; exact ⟨(sll x51 z40 ((gl x51 z40) ++ ([(gi (gl x16 z53) z40)] : LI)), (up hs52 z40.toNat (A86, k87))), sp rfl, rfl, hv, hS⟩
    intro vals w83 hT hVs hAp hCp q_ hq_; have hS := hS.grow hT; obtain rfl : q_ = 6 := hq_.trans (by decide +kernel); obtain ⟨A77_12, k80_12, hv12, hO81_12, hN82_12⟩ := hVs 12 (by decide) (by decide); have hS := JX [] hS0 hS hO81_12 hN82_12 (fun s hs => by cases hs); refine Yf [(12, .slice A77_12 1 k80_12)] ⟨hv12, trivial⟩ <| Jew 0 2 13 rfl rfl rfl ?_ ?_ ?_
    .refine Jd (off := 1) J2 rfl rfl <| Ja <| Jew 1 2 13 rfl rfl rfl ?_ ?_ ?_
     .refine Jl 1 1 Jt hS rfl rfl rfl ⟨rfl, rfl⟩ <| Ja <| J3 2 13 rfl rfl ?_ ?_
      .refine Jb 2 <| Jg 13 rfl ?_; obtain ⟨o85, hv⟩ := hv; have hS := hS.pick [2, 0, 1, 3, 4, 5] rfl; have hl89 := hS.mxlen (i := 0) rfl; have hS := hS.mxTake o69; refine SL.append (cs := is (gl x51 z40)) (cs' := is ([(gi (gl x16 z53) z40)] : LI)) 0 (((gl x51 z40) ++ ([(gi (gl x16 z53) z40)] : LI)).length) (is ((gl x51 z40) ++ ([(gi (gl x16 z53) z40)] : LI))) hS rfl Jn XE3 (hS.rd (i := 2) rfl) (JF _) rfl rfl (apk o85).1 (apk o85).2 (J0 (hS.rd (i := 0) rfl) (hS.rd (i := 2) rfl)) (Jv _ _) rfl ?_; intro A86 k87 w88 hS; refine Ja <| Jg 14 rfl ?_; obtain ⟨o91, hv⟩ := hv; refine Je Jt Jq (hS.mxhout (q := 1) rfl) rfl rfl o91 rfl <| Ja <| Jg 15 rfl <| Js hS hl89 Jq o91 (hS.rd (i := 0) rfl).ilen.symm rfl rfl ?_; intro w92 hS; refine Ja <| JG ?_; have hS := hS.pick [2, 0, 3, 4, 5] rfl; exact ⟨(sll x51 z40 ((gl x51 z40) ++ ([(gi (gl x16 z53) z40)] : LI)), (up hs52 z40.toNat (A86, k87))), sp rfl, rfl, hv, hS⟩
      obtain ⟨o85, hv⟩ := hv; have hS := hS.pick [2, 0, 1, 3, 4, 5] rfl; have hl89 := hS.mxlen (i := 0) rfl; have hS := hS.mxTake o69; refine SL.append (cs := is (gl x51 z40)) (cs' := is ([(gi (gl x16 z53) z40)] : LI)) 0 (((gl x51 z40) ++ ([(gi (gl x16 z53) z40)] : LI)).length) (is ((gl x51 z40) ++ ([(gi (gl x16 z53) z40)] : LI))) hS rfl Jn XE3 (hS.rd (i := 2) rfl) (JF _) rfl rfl (apk o85).1 (apk o85).2 (J0 (hS.rd (i := 0) rfl) (hS.rd (i := 2) rfl)) (Jv _ _) rfl ?_; intro A86 k87 w88 hS; refine Ja <| Jg 2 rfl <| Jb 2 <| Jg 14 rfl ?_; obtain ⟨o91, hv⟩ := hv; refine Je Jt Jq (hS.mxhout (q := 1) rfl) rfl rfl o91 rfl <| Ja <| Jg 15 rfl <| Js hS hl89 Jq o91 (hS.rd (i := 0) rfl).ilen.symm rfl rfl ?_; intro w92 hS; refine Ja <| JG ?_; have hS := hS.pick [2, 0, 3, 4, 5] rfl; exact ⟨(sll x51 z40 ((gl x51 z40) ++ ([(gi (gl x16 z53) z40)] : LI)), (up hs52 z40.toNat (A86, k87))), sp rfl, rfl, hv, hS⟩
     .refine Jb 2 <| J3 1 13 rfl rfl ?_ ?_
      .refine Jl 1 1 Jt hS rfl rfl rfl ⟨rfl, rfl⟩ <| Ja <| Jg 13 rfl ?_; obtain ⟨o85, hv⟩ := hv; have hS := hS.pick [2, 0, 1, 3, 4, 5] rfl; have hl89 := hS.mxlen (i := 0) rfl; have hS := hS.mxTake o69; refine SL.append (cs := is (gl x51 z40)) (cs' := is ([(gi (gl x16 z53) z40)] : LI)) 0 (((gl x51 z40) ++ ([(gi (gl x16 z53) z40)] : LI)).length) (is ((gl x51 z40) ++ ([(gi (gl x16 z53) z40)] : LI))) hS rfl Jn XE3 (hS.rd (i := 2) rfl) (JF _) rfl rfl (apk o85).1 (apk o85).2 (J0 (hS.rd (i := 0) rfl) (hS.rd (i := 2) rfl)) (Jv _ _) rfl ?_; intro A86 k87 w88 hS; refine Ja <| Jg 14 rfl ?_; obtain ⟨o91, hv⟩ := hv; refine Je Jt Jq (hS.mxhout (q := 1) rfl) rfl rfl o91 rfl <| Ja <| Jg 15 rfl <| Js hS hl89 Jq o91 (hS.rd (i := 0) rfl).ilen.symm rfl rfl ?_; intro w92 hS; refine Ja <| JG ?_; have hS := hS.pick [2, 0, 3, 4, 5] rfl; exact ⟨(sll x51 z40 ((gl x51 z40) ++ ([(gi (gl x16 z53) z40)] : LI)), (up hs52 z40.toNat (A86, k87))), sp rfl, rfl, hv, hS⟩
      obtain ⟨o85, hv⟩ := hv; have hS := hS.pick [2, 0, 1, 3, 4, 5] rfl; have hl89 := hS.mxlen (i := 0) rfl; have hS := hS.mxTake o69; refine SL.append (cs := is (gl x51 z40)) (cs' := is ([(gi (gl x16 z53) z40)] : LI)) 0 (((gl x51 z40) ++ ([(gi (gl x16 z53) z40)] : LI)).length) (is ((gl x51 z40) ++ ([(gi (gl x16 z53) z40)] : LI))) hS rfl Jn XE3 (hS.rd (i := 2) rfl) (JF _) rfl rfl (apk o85).1 (apk o85).2 (J0 (hS.rd (i := 0) rfl) (hS.rd (i := 2) rfl)) (Jv _ _) rfl ?_; intro A86 k87 w88 hS; refine Ja <| Jg 1 rfl <| Jl 3 1 Jt hS rfl rfl rfl ⟨rfl, rfl⟩ <| Ja <| Jg 14 rfl ?_; obtain ⟨o91, hv⟩ := hv; refine Je Jt Jq (hS.mxhout (q := 1) rfl) rfl rfl o91 rfl <| Ja <| Jg 15 rfl <| Js hS hl89 Jq o91 (hS.rd (i := 0) rfl).ilen.symm rfl rfl ?_; intro w92 hS; refine Ja <| JG ?_; have hS := hS.pick [2, 0, 3, 4, 5] rfl; exact ⟨(sll x51 z40 ((gl x51 z40) ++ ([(gi (gl x16 z53) z40)] : LI)), (up hs52 z40.toNat (A86, k87))), sp rfl, rfl, hv, hS⟩
     obtain ⟨o85, hv⟩ := hv; have hS := hS.pick [2, 0, 1, 3, 4, 5] rfl; have hl89 := hS.mxlen (i := 0) rfl; have hS := hS.mxTake o69; refine SL.append (cs := is (gl x51 z40)) (cs' := is ([(gi (gl x16 z53) z40)] : LI)) 0 (((gl x51 z40) ++ ([(gi (gl x16 z53) z40)] : LI)).length) (is ((gl x51 z40) ++ ([(gi (gl x16 z53) z40)] : LI))) hS rfl Jn XE3 (hS.rd (i := 2) rfl) (JF _) rfl rfl (apk o85).1 (apk o85).2 (J0 (hS.rd (i := 0) rfl) (hS.rd (i := 2) rfl)) (Jv _ _) rfl ?_; intro A86 k87 w88 hS; refine Ja <| J3 1 2 rfl rfl ?_ ?_
     .refine Jl 3 1 Jt hS rfl rfl rfl ⟨rfl, rfl⟩ <| Ja <| Jg 2 rfl <| Jb 2 <| Jg 14 rfl ?_; obtain ⟨o91, hv⟩ := hv; refine Je Jt Jq (hS.mxhout (q := 1) rfl) rfl rfl o91 rfl <| Ja <| Jg 15 rfl <| Js hS hl89 Jq o91 (hS.rd (i := 0) rfl).ilen.symm rfl rfl ?_; intro w92 hS; refine Ja <| JG ?_; have hS := hS.pick [2, 0, 3, 4, 5] rfl; exact ⟨(sll x51 z40 ((gl x51 z40) ++ ([(gi (gl x16 z53) z40)] : LI)), (up hs52 z40.toNat (A86, k87))), sp rfl, rfl, hv, hS⟩
     refine Jb 2 <| Jg 1 rfl <| Jl 3 1 Jt hS rfl rfl rfl ⟨rfl, rfl⟩ <| Ja <| Jg 14 rfl ?_; obtain ⟨o91, hv⟩ := hv; refine Je Jt Jq (hS.mxhout (q := 1) rfl) rfl rfl o91 rfl <| Ja <| Jg 15 rfl <| Js hS hl89 Jq o91 (hS.rd (i := 0) rfl).ilen.symm rfl rfl ?_; intro w92 hS; refine Ja <| JG ?_; have hS := hS.pick [2, 0, 3, 4, 5] rfl; exact ⟨(sll x51 z40 ((gl x51 z40) ++ ([(gi (gl x16 z53) z40)] : LI)), (up hs52 z40.toNat (A86, k87))), sp rfl, rfl, hv, hS⟩
    .refine Jb 2 <| J3 0 13 rfl rfl ?_ ?_
     .refine Jd (off := 1) J2 rfl rfl <| Ja <| J3 1 13 rfl rfl ?_ ?_
      .refine Jl 1 1 Jt hS rfl rfl rfl ⟨rfl, rfl⟩ <| Ja <| Jg 13 rfl ?_; obtain ⟨o85, hv⟩ := hv; have hS := hS.pick [2, 0, 1, 3, 4, 5] rfl; have hl89 := hS.mxlen (i := 0) rfl; have hS := hS.mxTake o69; refine SL.append (cs := is (gl x51 z40)) (cs' := is ([(gi (gl x16 z53) z40)] : LI)) 0 (((gl x51 z40) ++ ([(gi (gl x16 z53) z40)] : LI)).length) (is ((gl x51 z40) ++ ([(gi (gl x16 z53) z40)] : LI))) hS rfl Jn XE3 (hS.rd (i := 2) rfl) (JF _) rfl rfl (apk o85).1 (apk o85).2 (J0 (hS.rd (i := 0) rfl) (hS.rd (i := 2) rfl)) (Jv _ _) rfl ?_; intro A86 k87 w88 hS; refine Ja <| Jg 14 rfl ?_; obtain ⟨o91, hv⟩ := hv; refine Je Jt Jq (hS.mxhout (q := 1) rfl) rfl rfl o91 rfl <| Ja <| Jg 15 rfl <| Js hS hl89 Jq o91 (hS.rd (i := 0) rfl).ilen.symm rfl rfl ?_; intro w92 hS; refine Ja <| JG ?_; have hS := hS.pick [2, 0, 3, 4, 5] rfl; exact ⟨(sll x51 z40 ((gl x51 z40) ++ ([(gi (gl x16 z53) z40)] : LI)), (up hs52 z40.toNat (A86, k87))), sp rfl, rfl, hv, hS⟩
      obtain ⟨o85, hv⟩ := hv; have hS := hS.pick [2, 0, 1, 3, 4, 5] rfl; have hl89 := hS.mxlen (i := 0) rfl; have hS := hS.mxTake o69; refine SL.append (cs := is (gl x51 z40)) (cs' := is ([(gi (gl x16 z53) z40)] : LI)) 0 (((gl x51 z40) ++ ([(gi (gl x16 z53) z40)] : LI)).length) (is ((gl x51 z40) ++ ([(gi (gl x16 z53) z40)] : LI))) hS rfl Jn XE3 (hS.rd (i := 2) rfl) (JF _) rfl rfl (apk o85).1 (apk o85).2 (J0 (hS.rd (i := 0) rfl) (hS.rd (i := 2) rfl)) (Jv _ _) rfl ?_; intro A86 k87 w88 hS; refine Ja <| Jg 1 rfl <| Jl 3 1 Jt hS rfl rfl rfl ⟨rfl, rfl⟩ <| Ja <| Jg 14 rfl ?_; obtain ⟨o91, hv⟩ := hv; refine Je Jt Jq (hS.mxhout (q := 1) rfl) rfl rfl o91 rfl <| Ja <| Jg 15 rfl <| Js hS hl89 Jq o91 (hS.rd (i := 0) rfl).ilen.symm rfl rfl ?_; intro w92 hS; refine Ja <| JG ?_; have hS := hS.pick [2, 0, 3, 4, 5] rfl; exact ⟨(sll x51 z40 ((gl x51 z40) ++ ([(gi (gl x16 z53) z40)] : LI)), (up hs52 z40.toNat (A86, k87))), sp rfl, rfl, hv, hS⟩
     obtain ⟨o85, hv⟩ := hv; have hS := hS.pick [2, 0, 1, 3, 4, 5] rfl; have hl89 := hS.mxlen (i := 0) rfl; have hS := hS.mxTake o69; refine SL.append (cs := is (gl x51 z40)) (cs' := is ([(gi (gl x16 z53) z40)] : LI)) 0 (((gl x51 z40) ++ ([(gi (gl x16 z53) z40)] : LI)).length) (is ((gl x51 z40) ++ ([(gi (gl x16 z53) z40)] : LI))) hS rfl Jn XE3 (hS.rd (i := 2) rfl) (JF _) rfl rfl (apk o85).1 (apk o85).2 (J0 (hS.rd (i := 0) rfl) (hS.rd (i := 2) rfl)) (Jv _ _) rfl ?_; intro A86 k87 w88 hS; refine Ja <| Jg 0 rfl <| Jd (off := 1) J2 rfl rfl <| Ja <| Jg 1 rfl <| Jl 3 1 Jt hS rfl rfl rfl ⟨rfl, rfl⟩ <| Ja <| Jg 14 rfl ?_; obtain ⟨o91, hv⟩ := hv; refine Je Jt Jq (hS.mxhout (q := 1) rfl) rfl rfl o91 rfl <| Ja <| Jg 15 rfl <| Js hS hl89 Jq o91 (hS.rd (i := 0) rfl).ilen.symm rfl rfl ?_; intro w92 hS; refine Ja <| JG ?_; have hS := hS.pick [2, 0, 3, 4, 5] rfl; exact ⟨(sll x51 z40 ((gl x51 z40) ++ ([(gi (gl x16 z53) z40)] : LI)), (up hs52 z40.toNat (A86, k87))), sp rfl, rfl, hv, hS⟩
    obtain ⟨o85, hv⟩ := hv; have hS := hS.pick [2, 0, 1, 3, 4, 5] rfl; have hl89 := hS.mxlen (i := 0) rfl; have hS := hS.mxTake o69; refine SL.append (cs := is (gl x51 z40)) (cs' := is ([(gi (gl x16 z53) z40)] : LI)) 0 (((gl x51 z40) ++ ([(gi (gl x16 z53) z40)] : LI)).length) (is ((gl x51 z40) ++ ([(gi (gl x16 z53) z40)] : LI))) hS rfl Jn XE3 (hS.rd (i := 2) rfl) (JF _) rfl rfl (apk o85).1 (apk o85).2 (J0 (hS.rd (i := 0) rfl) (hS.rd (i := 2) rfl)) (Jv _ _) rfl ?_; intro A86 k87 w88 hS; refine Ja <| J3 0 2 rfl rfl ?_ ?_
    .refine Jd (off := 1) J2 rfl rfl <| Ja <| J3 1 2 rfl rfl ?_ ?_
     .refine Jl 3 1 Jt hS rfl rfl rfl ⟨rfl, rfl⟩ <| Ja <| Jg 2 rfl <| Jb 2 <| Jg 14 rfl ?_; obtain ⟨o91, hv⟩ := hv; refine Je Jt Jq (hS.mxhout (q := 1) rfl) rfl rfl o91 rfl <| Ja <| Jg 15 rfl <| Js hS hl89 Jq o91 (hS.rd (i := 0) rfl).ilen.symm rfl rfl ?_; intro w92 hS; refine Ja <| JG ?_; have hS := hS.pick [2, 0, 3, 4, 5] rfl; exact ⟨(sll x51 z40 ((gl x51 z40) ++ ([(gi (gl x16 z53) z40)] : LI)), (up hs52 z40.toNat (A86, k87))), sp rfl, rfl, hv, hS⟩
     refine Jb 2 <| Jg 1 rfl <| Jl 3 1 Jt hS rfl rfl rfl ⟨rfl, rfl⟩ <| Ja <| Jg 14 rfl ?_; obtain ⟨o91, hv⟩ := hv; refine Je Jt Jq (hS.mxhout (q := 1) rfl) rfl rfl o91 rfl <| Ja <| Jg 15 rfl <| Js hS hl89 Jq o91 (hS.rd (i := 0) rfl).ilen.symm rfl rfl ?_; intro w92 hS; refine Ja <| JG ?_; have hS := hS.pick [2, 0, 3, 4, 5] rfl; exact ⟨(sll x51 z40 ((gl x51 z40) ++ ([(gi (gl x16 z53) z40)] : LI)), (up hs52 z40.toNat (A86, k87))), sp rfl, rfl, hv, hS⟩
    refine Jb 2 <| Jg 0 rfl <| Jd (off := 1) J2 rfl rfl <| Ja <| Jg 1 rfl <| Jl 3 1 Jt hS rfl rfl rfl ⟨rfl, rfl⟩ <| Ja <| Jg 14 rfl ?_; obtain ⟨o91, hv⟩ := hv; refine Je Jt Jq (hS.mxhout (q := 1) rfl) rfl rfl o91 rfl <| Ja <| Jg 15 rfl <| Js hS hl89 Jq o91 (hS.rd (i := 0) rfl).ilen.symm rfl rfl ?_; intro w92 hS; refine Ja <| JG ?_; have hS := hS.pick [2, 0, 3, 4, 5] rfl; exact ⟨(sll x51 z40 ((gl x51 z40) ++ ([(gi (gl x16 z53) z40)] : LI)), (up hs52 z40.toNat (A86, k87))), sp rfl, rfl, hv, hS⟩
   rintro ⟨x58, hs59⟩ w93 ⟨hv, hS⟩; have hv := hk95 x58 hv; refine JA ?_; obtain ⟨o94, hv⟩ := hv; refine WL.add (r := (z53 + 1)) rfl rfl (wr o94) rfl <| Jb 2 ?_; exact ⟨(x58, (z53 + 1), hs59), sp rfl, hv.2, rfl, hv.1, hS⟩
  have hv := hv.2 (oF c57); refine Jy <| JA ?_; obtain ⟨o96, hv⟩ := hv; refine WL.add (r := (z40 + 1)) rfl rfl (wr o96) rfl <| Jb 2 ?_; exact ⟨(x51, (z40 + 1), hs52), sp rfl, hv.2, rfl, hv.1, hS⟩
 have hv := hv.2 (oF c44); refine Jy <| Jc 2 <| JI 4 Qb Qe hS rfl ⟨rfl, rfl⟩ rfl <| JI 0 JZ QV hS rfl ⟨rfl, rfl⟩ rfl <| SL.call hS (Jsm (hS.ro hf) (hS.rl (i := 1) rfl) hv) XF52 rfl XN52 rfl rfl ?_; rintro _ _ w98 ⟨r99, r100, x101, c102, x103, r104, A105, k106, A108, k109, hs110, rfl, rfl, hv⟩ hGw98 hS; have hS := hS.n2; refine Jb 2 <| JH (cs := [nI r99, nI r100, nS A105 x101 k106, nI c102, nS A108 x103 k109]) 5 hS rfl Yd rfl rfl rfl rfl rfl ?_; intro w112 hS; refine Jb 2 <| W.ret ?_; have hS := hS.pick [1, 0, 2, 3, 4, 5, 6] rfl
 change St _ _ _ _ [_, _, _, _, _, _, _] at hS
 repeat with_reducible first | refine blk.ret ?_ | refine exits.retI ?_
 refine endC.mk ⟨[.agg #[nI r99, nI r100, nS A105 x101 k106, nI c102, nS A108 x103 k109], nI r104], ⟨_, _, _, rfl, rfl, JM (cs := [nI r99, nI r100, nS A105 x101 k106, nI c102, nS A108 x103 k109]) Yd Jbs rfl (JE (hS.own (i := 5) rfl)), ⟨_, _, rfl, rfl, rfl⟩⟩, ?_⟩; exact (hS.pick [1, 0] rfl).fin rfl ⟨r99, r100, x101, c102, x103, r104, A105, k106, A108, k109, hs110, rfl, rfl, hv⟩
end Go.Proofs.Ytjgpkljepgcekaa
namespace Go.Proofs.Ytjgpkljepgcekaa
open Go.RowKit
def ZS  (Q : Bool -> Prop) : Prop :=
  Zi (2 : Int) ([(0 : Int), (1 : Int)] : LI) (fun (x15, r16) => ((r16 = 0) -> ((((x15.length : Int) = (4 : Int)) -> ((0 <= (0 : Int) /\ (0 : Int) < (x15.length : Nat)) /\ ((((gi x15 0) = 0) -> ((0 <= (1 : Int) /\ (1 : Int) < (x15.length : Nat)) /\ ((((gi x15 1) = 0) -> ((0 <= (2 : Int) /\ (2 : Int) < (x15.length : Nat)) /\ ((((gi x15 2) = 0) -> ((0 <= (3 : Int) /\ (3 : Int) < (x15.length : Nat)) /\ (Q (decide ((gi x15 3) = 1))))) /\ (¬ ((gi x15 2) = 0) -> Q false)))) /\ (¬ ((gi x15 1) = 0) -> Q false)))) /\ (¬ ((gi x15 0) = 0) -> Q false)))) /\ (¬ ((x15.length : Int) = (4 : Int)) -> Q false))) /\ (¬ (r16 = 0) -> Q false))
theorem Jjg {w : World} {Q : Bool -> Prop}   (hv : ZS  Q) :
   Calls Try.prog 16 #[] w <| Rt w fun v Qr => ∃ (r0 : Bool), v = .bool r0 /\ Qr = [] /\ Q r0 := by
 refine Jk <| Ji (vs := []) [0] XF16 rfl rfl rfl rfl ?_; have hS := Jo w; unfold ZS at hv; refine Jc 6 <| Qo (vs := is ([(0 : Int), (1 : Int)] : LI)) hS Jn XE3 rfl rfl rfl rfl (JF _) rfl ?_; intro A11 w12 hS; refine SL.call hS (Jhd (hS.rd (i := 0) rfl) hv) XF26 rfl XN26 rfl rfl ?_; rintro _ _ w14 ⟨x15, r16, A17, k18, rfl, rfl, hv⟩ hGw14 hS; have hS := hS.n1; refine Jb 6 <| Jc 4 <| Jp rfl rfl ?_; by_cases g20 : r16 = 0
 .have hv := hv.1 g20; rw [decide_eq_true g20]; refine Jb 3 <| WL.len Jn rfl rfl <| Jb 3 <| Jp rfl rfl ?_; by_cases g21 : (x15.length : Int) = (4 : Int)
  .have hv := hv.1 g21; rw [decide_eq_true g21]; refine Jb 3 ?_; obtain ⟨o22, hv⟩ := hv; refine Je Jn XE3 (hS.rd (i := 0) rfl) rfl rfl o22 rfl <| WL.take rfl <| Jm XU3 rfl rfl (JJ (hS.rd (i := 0) rfl) o22) rfl <| Jb 3 <| Jp rfl rfl ?_; by_cases g23 : (gi x15 0) = 0
   .have hv := hv.1 g23; rw [decide_eq_true g23]; refine Jb 3 ?_; obtain ⟨o24, hv⟩ := hv; refine Je Jn XE3 (hS.rd (i := 0) rfl) rfl rfl o24 rfl <| WL.take rfl <| Jm XU3 rfl rfl (JJ (hS.rd (i := 0) rfl) o24) rfl <| Jb 3 <| Jp rfl rfl ?_; by_cases g25 : (gi x15 1) = 0
    .have hv := hv.1 g25; rw [decide_eq_true g25]; refine Jb 3 ?_; obtain ⟨o26, hv⟩ := hv; refine Je Jn XE3 (hS.rd (i := 0) rfl) rfl rfl o26 rfl <| WL.take rfl <| Jm XU3 rfl rfl (JJ (hS.rd (i := 0) rfl) o26) rfl <| Jb 3 <| Jp rfl rfl ?_; by_cases g27 : (gi x15 2) = 0
     .have hv := hv.1 g27; rw [decide_eq_true g27]; refine Jb 3 ?_; obtain ⟨o28, hv⟩ := hv; refine Je Jn XE3 (hS.rd (i := 0) rfl) rfl rfl o28 rfl <| WL.take rfl <| Jm XU3 rfl rfl (JJ (hS.rd (i := 0) rfl) o28) rfl <| Jb 5 <| W.ret <| ⟨_, rfl, Fin.nil ?_⟩
      exact (hS.pick [] rfl).fin rfl ⟨(decide ((gi x15 3) = 1)), rfl, rfl, hv⟩
     have hv := hv.2 g27; rw [decide_eq_false g27]; refine Jb 7 <| W.ret <| ⟨_, rfl, Fin.nil ?_⟩
     exact (hS.pick [] rfl).fin rfl ⟨false, rfl, rfl, hv⟩
    have hv := hv.2 g25; rw [decide_eq_false g25]; refine Jb 13 <| W.ret <| ⟨_, rfl, Fin.nil ?_⟩
    exact (hS.pick [] rfl).fin rfl ⟨false, rfl, rfl, hv⟩
   have hv := hv.2 g23; rw [decide_eq_false g23]; refine Jb 19 <| W.ret <| ⟨_, rfl, Fin.nil ?_⟩
   exact (hS.pick [] rfl).fin rfl ⟨false, rfl, rfl, hv⟩
  have hv := hv.2 g21; rw [decide_eq_false g21]; refine Jb 25 <| W.ret <| ⟨_, rfl, Fin.nil ?_⟩
  exact (hS.pick [] rfl).fin rfl ⟨false, rfl, rfl, hv⟩
 have hv := hv.2 g20; rw [decide_eq_false g20]; refine Jb 30 <| W.ret <| ⟨_, rfl, Fin.nil ?_⟩
 exact (hS.pick [] rfl).fin rfl ⟨false, rfl, rfl, hv⟩
end Go.Proofs.Ytjgpkljepgcekaa
namespace Go.Proofs.Ytjgpkljepgcekaa
open Go.RowKit
def ZN (Pf : Int) (Mf : Int) (mf : LI) (y : LI) (Q : LI -> Prop) : Prop :=
  Yg Pf Mf mf (fun r14 => (0 <= (y.length : Int) /\ (y.length : Int) * 8 <= 281474976710656 /\ (y.length : Int) <= 281474976710656) /\ (∃ (I25 : LI -> Int -> Prop) (μ26 : LI -> Int -> Nat), I25 (List.replicate (y.length : Int).toNat (0 : Int)) (0 : Int) /\ ∀ (x23 : LI) (z24 : Int), (I25 x23 z24 -> (((z24 < (y.length : Int)) -> (∃ J31 : LI -> Bool -> Prop, ((0 <= z24 /\ z24 < (y.length : Nat)) /\ ((((0 : Int) <= (gi y z24)) -> ((0 <= z24 /\ z24 < (y.length : Nat)) /\ ((((gi y z24) < r14) -> ((0 <= z24 /\ z24 < (y.length : Nat)) /\ ((0 <= z24 /\ z24 < ((y.length : Int).toNat : Nat)) /\ (J31 (si x23 z24 (gi y z24)) (decide ((gi y z24) < r14)))))) /\ (¬ ((gi y z24) < r14) -> (J31 x23 (decide ((gi y z24) < r14))))))) /\ (¬ ((0 : Int) <= (gi y z24)) -> J31 x23 false))) /\ ∀ (x29 : LI) (b30 : Bool), (J31 x29 b30 -> ((I64 (z24 + 1)) /\ (I25 x29 (z24 + 1) /\ μ26 x29 (z24 + 1) < μ26 x23 z24))))) /\ (¬ (z24 < (y.length : Int)) -> Q x23)))))
theorem Ji9 {w : World} {Q : LI -> Prop} {Pf : Int} {Mf : Int} {mf : LI} {y : LI} {Bf : Nat} {Af : Option Addr} {nf kf : Nat} (hf : Rd Bf w 1 Af nf kf (is mf)) {By : Nat} {Ay : Option Addr} {ny ky : Nat} (hy : Rd By w 1 Ay ny ky (is y)) (hv : ZN Pf Mf mf y Q) :
   Calls Try.prog 90 #[.agg #[.int .i64 Pf, .int .i64 Mf, .slice Af nf kf], .slice Ay ny ky] w <| Rt w fun v Qr => ∃ (x : LI)  (A : Option Addr) (c : Nat), v = .slice A x.length c /\ Qr = [.row 3 1 A x.length c (is x)] /\ Q x := by
 have hnf := hf.ilen; subst hnf; have hny := hy.ilen; subst hny; refine Jk <| Ji (vs := [.agg #[nI Pf, nI Mf, nS Af mf kf], nS Ay y ky]) [4] XF90 rfl rfl rfl rfl ?_; have hS := Jo w; unfold ZN at hv; refine Jc 2 <| JD (z := 3) (cs := [nI Pf, nI Mf, nS Af mf kf]) hS rfl rfl rfl rfl ?_; intro g11 w12 hS; refine Jb 2 <| Jc 2 <| JI 0 Qb Qe hS rfl ⟨rfl, rfl⟩ rfl <| SL.call hS (YV (hS.ro hf) hv) Jn5 rfl XN20 rfl rfl ?_; rintro _ _ w13 ⟨r14, rfl, rfl, hv⟩ hGw13 hS; have hS := hS.n0; refine Jb 2 <| Jc 3 <| WL.len Jn rfl rfl ?_; obtain ⟨o15, hv⟩ := hv; refine QA (J := (y.length : Int)) hS Jn XE3 rfl rfl o15 (QR _) rfl ?_; intro A16 w17 hS; refine Jb 2 <| Jc 5 <| W.block ?_; obtain ⟨I25, μ26, hv, hk42⟩ := hv; refine JB (σ := LI × Int) (fun q w1 => match q with | (x23, z24) => I25 x23 z24 /\ St TT w none w1 [.row 3 1 A16 ((y.length : Int).toNat) ((y.length : Int).toNat) (is x23), .row 24 3 (nA g11) 1 1 [nI Pf, nI Mf, nS Af mf kf]]) (fun (x23, z24) => [(1, nS Ay y ky), (4, .slice none 0 0), (5, nI r14), (6, .slice A16 ((y.length : Int).toNat) ((y.length : Int).toNat)), (7, nI z24)]) (fun (x23, z24) => μ26 x23 z24) (List.replicate (y.length : Int).toNat (0 : Int), (0 : Int)) ⟨hv, hS⟩ ⟨rfl, rfl, rfl, rfl, rfl, trivial⟩ ?_; rintro ⟨x23, z24⟩ w27 ⟨hv, hS⟩; have hv := hk42 x23 z24 hv; refine Jc 5 <| WL.len Jn rfl rfl <| Jb 2 <| Jh rfl (fun c28 => ?_) (fun c28 => ?_)
 .have hv := hv.1 (oT c28); refine Jj <| Jw ?_; obtain ⟨J31, hv, hk41⟩ := hv; refine Ql (σ := LI × Bool) (fun q w1 => match q with | (x29, b30) => J31 x29 b30 /\ St TT w none w1 [.row 3 1 A16 ((y.length : Int).toNat) ((y.length : Int).toNat) (is x29), .row 24 3 (nA g11) 1 1 [nI Pf, nI Mf, nS Af mf kf]]) (fun (x29, b30) => [(1, nS Ay y ky), (4, .slice none 0 0), (5, nI r14), (6, .slice A16 ((y.length : Int).toNat) ((y.length : Int).toNat)), (7, nI z24), (16, .bool (decide (z24 < (y.length : Int)))), (31, .bool b30)]) ?_ ?_
  .refine W.block ?_; refine Jc 4 ?_; obtain ⟨o32, hv⟩ := hv; refine Je Jn XE3 (hS.ro hy) rfl rfl o32 rfl <| Jm XU3 rfl rfl (JJ (hS.ro hy) o32) rfl <| Jgb rfl rfl rfl <| Jp rfl rfl ?_; by_cases g33 : (0 : Int) <= (gi y z24)
   .have hv := hv.1 g33; rw [decide_eq_true g33]; refine Jb 5 ?_; obtain ⟨o34, hv⟩ := hv; refine Je Jn XE3 (hS.ro hy) rfl rfl o34 rfl <| WL.take rfl <| Jm XU3 rfl rfl (JJ (hS.ro hy) o34) rfl <| Jb 6 <| Jh rfl (fun c35 => ?_) (fun c35 => ?_)
    .have hv := hv.1 (oT c35); refine Jc 5 ?_; obtain ⟨o36, hv⟩ := hv; refine Je Jn XE3 (hS.ro hy) rfl rfl o36 rfl <| Jm XU3 rfl rfl (JJ (hS.ro hy) o36) rfl ?_; obtain ⟨o37, hv⟩ := hv; refine Je Jn XE3 (hS.rd (i := 0) rfl) rfl rfl o37 rfl <| JC (cs' := is (si x23 z24 (gi y z24))) 0 z24.toNat hS rfl XE3 rfl rfl rfl (Q8 (hS.rd (i := 0) rfl) o37) (Qs _ _ _) ?_; intro w38 hS; refine Ja ?_; exact ⟨(si x23 z24 (gi y z24), (decide ((gi y z24) < r14))), sp rfl, rfl, hv, hS⟩
    have hv := hv.2 (oF c35); refine Jj ?_; exact ⟨(x23, (decide ((gi y z24) < r14))), sp rfl, rfl, hv, hS⟩
   have hv := hv.2 g33; rw [decide_eq_false g33]; refine Jb 8 <| QW rfl <| Jj ?_; exact ⟨(x23, false), sp rfl, rfl, hv, hS⟩
  rintro ⟨x29, b30⟩ w39 ⟨hv, hS⟩; have hv := hk41 x29 b30 hv; refine Jc 2 ?_; obtain ⟨o40, hv⟩ := hv; refine WL.add (r := (z24 + 1)) rfl rfl (wr o40) rfl <| Jb 2 ?_; exact ⟨(x29, (z24 + 1)), sp rfl, hv.2, rfl, hv.1, hS⟩
 have hv := hv.2 (oF c28); refine Jy <| Jc 5 <| W.ret ?_; have hm := (hS.rd (i := 0) rfl).ilen; have hS := hS.relen (i := 0) rfl hm.symm; refine ⟨_, rfl, Fin.nil ?_⟩; exact ⟨_, hS.ext, (hS.pick [0] rfl).rows, J1 (hS.pick [0] rfl).rows rfl, ⟨x23, A16, (y.length : Int).toNat, (by rw [hm]), rfl, hv⟩⟩
def YJ (Pf : Int) (Mf : Int) (mf : LI) (y : LI) (Q : LI -> Prop) : Prop :=
  ZN Pf Mf mf y (fun x14 => ∃ (I33 : LI -> Int -> Prop) (μ34 : LI -> Int -> Nat), I33 ([] : LI) (0 : Int) /\ ∀ (x29 : LI) (z32 : Int), (I33 x29 z32 -> (((z32 < (x14.length : Int)) -> (∃ J40 : LI -> Prop, ((0 <= z32 /\ z32 < (x14.length : Nat)) /\ ((((gi x14 z32) ≠ (0 : Int)) -> ((((x29.length : Nat) + (1 : Nat) : Int) * 8 <= 140737488355328) /\ (J40 (x29 ++ ([z32] : LI))))) /\ (¬ ((gi x14 z32) ≠ (0 : Int)) -> J40 x29))) /\ ∀ (x37 : LI), (J40 x37 -> ((I64 (z32 + 1)) /\ (I33 x37 (z32 + 1) /\ μ34 x37 (z32 + 1) < μ34 x29 z32))))) /\ (¬ (z32 < (x14.length : Int)) -> Q x29))))
theorem Jff {w : World} {Q : LI -> Prop} {Pf : Int} {Mf : Int} {mf : LI} {y : LI} {Bf : Nat} {Af : Option Addr} {nf kf : Nat} (hf : Rd Bf w 1 Af nf kf (is mf)) {By : Nat} {Ay : Option Addr} {ny ky : Nat} (hy : Rd By w 1 Ay ny ky (is y)) (hv : YJ Pf Mf mf y Q) :
   Calls Try.prog 54 #[.agg #[.int .i64 Pf, .int .i64 Mf, .slice Af nf kf], .slice Ay ny ky] w <| Rt w fun v Qr => ∃ (x : LI)  (A : Option Addr) (c : Nat), v = .slice A x.length c /\ Qr = [.row 3 1 A x.length c (is x)] /\ Q x := by
 have hnf := hf.ilen; subst hnf; have hny := hy.ilen; subst hny; refine Jk <| Ji (vs := [.agg #[nI Pf, nI Mf, nS Af mf kf], nS Ay y ky]) [4] XF54 rfl rfl rfl rfl ?_; have hS := Jo w; unfold YJ at hv; refine Jc 2 <| JD (z := 3) (cs := [nI Pf, nI Mf, nS Af mf kf]) hS rfl rfl rfl rfl ?_; intro g11 w12 hS; refine Jb 2 <| Jc 2 <| JI 0 Qb Qe hS rfl ⟨rfl, rfl⟩ rfl <| Jp rfl rfl <| SL.call hS (Ji9 (hS.ro hf) (hS.ro hy) hv) XF90 rfl XN90 rfl rfl ?_; rintro _ _ w13 ⟨x14, A15, k16, rfl, rfl, hv⟩ hGw13 hS; have hS := hS.n1; refine Jb 2 <| Jc 2 <| Qo (vs := is ([] : LI)) hS Jn XE3 rfl rfl rfl rfl (JF _) rfl ?_; intro A18 w19 hS; refine Jb 2 <| Jc 5 <| W.block ?_; obtain ⟨I33, μ34, hv, hk53⟩ := hv; have hm0 : 0 = ([] : LI).length := (hS.rd (i := 0) rfl).ilen.symm; have hS := hS.relen (i := 0) rfl hm0
 change St _ _ _ _ [_, _, _] at hS
 refine JB (σ := LI × Int × Option Addr × Nat) (fun q w1 => match q with | (x29, z32, A30, k31) => I33 x29 z32 /\ St TT w none w1 [nR 3 A30 x29 k31, nR 3 A15 x14 k16, .row 24 3 (nA g11) 1 1 [nI Pf, nI Mf, nS Af mf kf]]) (fun (x29, z32, A30, k31) => [(4, .slice none 0 0), (5, nS A15 x14 k16), (6, nS A30 x29 k31), (7, nI z32)]) (fun (x29, z32, A30, k31) => μ34 x29 z32) (([] : LI), (0 : Int), A18, 0) ⟨hv, hS⟩ ⟨rfl, rfl, (sm (by first | rfl | assumption | omega)), rfl, trivial⟩ ?_; rintro ⟨x29, z32, A30, k31⟩ w35 ⟨hv, hS⟩; have hv := hk53 x29 z32 hv; refine Jc 5 <| WL.len Jn rfl rfl <| Jb 2 <| Jh rfl (fun c36 => ?_) (fun c36 => ?_)
 .have hv := hv.1 (oT c36); refine Jj <| Jw ?_; obtain ⟨J40, hv, hk52⟩ := hv; refine Ql (σ := LI × Option Addr × Nat) (fun q w1 => match q with | (x37, A38, k39) => J40 x37 /\ St TT w none w1 [nR 3 A38 x37 k39, nR 3 A15 x14 k16, .row 24 3 (nA g11) 1 1 [nI Pf, nI Mf, nS Af mf kf]]) (fun (x37, A38, k39) => [(4, .slice none 0 0), (5, nS A15 x14 k16), (6, nS A38 x37 k39), (7, nI z32), (15, .bool (decide (z32 < (x14.length : Int)))), (22, .bool (decide ((gi x14 z32) ≠ (0 : Int))))]) ?_ ?_
  .refine W.block ?_; refine Jc 4 ?_; obtain ⟨o41, hv⟩ := hv; refine Je Jn XE3 (hS.rd (i := 1) rfl) rfl rfl o41 rfl <| Jm XU3 rfl rfl (JJ (hS.rd (i := 1) rfl) o41) rfl <| Jb 2 <| Jh rfl (fun c42 => ?_) (fun c42 => ?_)
   .have hv := hv.1 (oT c42); refine Jc 3 <| Qo (vs := is ([z32] : LI)) hS Jn XE3 rfl rfl rfl rfl (JF _) rfl ?_; intro A43 w44 hS; obtain ⟨o46, hv⟩ := hv; refine SL.append (cs := is x29) (cs' := is ([z32] : LI)) 1 ((x29 ++ ([z32] : LI)).length) (is (x29 ++ ([z32] : LI))) hS rfl Jn XE3 (hS.rd (i := 0) rfl) (JF _) rfl rfl (apk o46).1 (apk o46).2 (J0 (hS.rd (i := 1) rfl) (hS.rd (i := 0) rfl)) (Jv _ _) rfl ?_; intro A47 k48 w49 hS; refine Jb 2 ?_; have hS := hS.pick [1, 2, 3] rfl; exact ⟨(x29 ++ ([z32] : LI), A47, k48), sp rfl, rfl, hv, hS⟩
   have hv := hv.2 (oF c42); refine Jj ?_; exact ⟨(x29, A30, k31), sp rfl, rfl, hv, hS⟩
  rintro ⟨x37, A38, k39⟩ w50 ⟨hv, hS⟩; have hv := hk52 x37 hv; refine Jc 2 ?_; obtain ⟨o51, hv⟩ := hv; refine WL.add (r := (z32 + 1)) rfl rfl (wr o51) rfl <| Jb 2 ?_; exact ⟨(x37, (z32 + 1), A38, k39), sp rfl, hv.2, rfl, hv.1, hS⟩
 have hv := hv.2 (oF c36); refine Jy <| Jc 5 <| W.ret <| ⟨_, rfl, Fin.nil ?_⟩
 exact (hS.pick [0] rfl).fin rfl ⟨x29, A30, k31, rfl, rfl, hv⟩
def Q4 (Pf : Int) (Mf : Int) (mf : LI) (y : LI) (Q : Int -> Prop) : Prop :=
  YJ Pf Mf mf y (fun x14 => Q (x14.length : Int))
theorem Jb0 {w : World} {Q : Int -> Prop} {Pf : Int} {Mf : Int} {mf : LI} {y : LI} {Bf : Nat} {Af : Option Addr} {nf kf : Nat} (hf : Rd Bf w 1 Af nf kf (is mf)) {By : Nat} {Ay : Option Addr} {ny ky : Nat} (hy : Rd By w 1 Ay ny ky (is y)) (hv : Q4 Pf Mf mf y Q) :
  Calls Try.prog 23 #[.agg #[.int .i64 Pf, .int .i64 Mf, .slice Af nf kf], .slice Ay ny ky] w <| Rt w fun v Qr => ∃ (r0 : Int), v = .int .i64 r0 /\ Qr = [] /\ Q r0 := by
 have hnf := hf.ilen; subst hnf; have hny := hy.ilen; subst hny; refine Jk <| Ji (vs := [.agg #[nI Pf, nI Mf, nS Af mf kf], nS Ay y ky]) [4] XF23 rfl rfl rfl rfl ?_; have hS := Jo w; unfold Q4 at hv; refine Jc 2 <| JD (z := 3) (cs := [nI Pf, nI Mf, nS Af mf kf]) hS rfl rfl rfl rfl ?_; intro g11 w12 hS; refine Jb 2 <| Jc 2 <| JI 0 Qb Qe hS rfl ⟨rfl, rfl⟩ rfl <| Jp rfl rfl <| SL.call hS (Jff (hS.ro hf) (hS.ro hy) hv) XF54 rfl XN54 rfl rfl ?_; rintro _ _ w13 ⟨x14, A15, k16, rfl, rfl, hv⟩ hGw13 hS; have hS := hS.n1; refine WL.len Jn rfl rfl <| Jb 2 <| W.ret <| ⟨_, rfl, Fin.nil ?_⟩
 exact (hS.pick [] rfl).fin rfl ⟨(x14.length : Int), rfl, rfl, hv⟩
def ZM (Pf : Int) (Mf : Int) (mf : LI) (r : Int) (Q : LL × Int -> Prop) : Prop :=
  Ja9 Pf Mf mf (fun r14 => ((r14 ≠ 0) -> (Q (([] : LL), (1 : Int)))) /\ (¬ (r14 ≠ 0) -> (((r < 1) -> (Q (([] : LL), (6 : Int)))) /\ (¬ (r < 1) -> (Yg Pf Mf mf (fun r20 => ∃ (I30 : Int -> Int -> Int -> Prop) (μ31 : Int -> Int -> Int -> Nat), I30 0 (1 : Int) (0 : Int) /\ ∀ (z27 : Int) (z28 : Int) (z29 : Int), (I30 z27 z28 z29 -> (((z29 < r) -> ((I64 (z27 + z28)) /\ ((((64 : Int) < (z27 + z28)) -> (Q (([] : LL), (4 : Int)))) /\ (¬ ((64 : Int) < (z27 + z28)) -> ((I64 (z28 * r20)) /\ ((I64 (z29 + 1)) /\ (I30 (z27 + z28) (z28 * r20) (z29 + 1) /\ μ31 (z27 + z28) (z28 * r20) (z29 + 1) < μ31 z27 z28 z29))))))) /\ (¬ (z29 < r) -> (∃ (I57 : LL -> Int -> Prop) (μ58 : LL -> Int -> Nat), I57 ([] : LL) (1 : Int) /\ ∀ (x52 : LL) (z56 : Int), (I57 x52 z56 -> (((z56 < z28) -> (∃ J72 : LL -> Int -> Int -> Int -> Int -> Bool -> Bool -> Bool -> Prop, ((0 <= r /\ r * 8 <= 281474976710656 /\ r <= 281474976710656) /\ ((I64 (r - 1)) /\ (∃ (I87 : LI -> Int -> Int -> Prop) (μ88 : LI -> Int -> Int -> Nat), I87 (List.replicate r.toNat (0 : Int)) z56 (r - 1) /\ ∀ (x84 : LI) (z85 : Int) (z86 : Int), (I87 x84 z85 z86 -> ((((0 : Int) <= z86) -> ((r20 ≠ 0) /\ ((0 <= z86 /\ z86 < (r.toNat : Nat)) /\ ((r20 ≠ 0 /\ I64 (z85.tdiv r20)) /\ ((I64 (z86 - 1)) /\ (I87 (si x84 z86 (z85.tmod r20)) (z85.tdiv r20) (z86 - 1) /\ μ88 (si x84 z86 (z85.tmod r20)) (z85.tdiv r20) (z86 - 1) < μ88 x84 z85 z86)))))) /\ (¬ ((0 : Int) <= z86) -> ((I64 (r - 1)) /\ (∃ (I103 : Int -> Int -> Prop) (μ104 : Int -> Int -> Nat), I103 0 (r - 1) /\ ∀ (z101 : Int) (z102 : Int), (I103 z101 z102 -> ((((0 : Int) <= z102) -> (∃ J108 : Int -> Prop, ((0 <= z102 /\ z102 < (r.toNat : Nat)) /\ ((((gi x84 z102) ≠ (0 : Int)) -> ((0 <= z102 /\ z102 < (r.toNat : Nat)) /\ (J108 (gi x84 z102)))) /\ (¬ ((gi x84 z102) ≠ (0 : Int)) -> J108 z101))) /\ ∀ (z107 : Int), (J108 z107 -> ((I64 (z102 - 1)) /\ (I103 z107 (z102 - 1) /\ μ104 z107 (z102 - 1) < μ104 z101 z102))))) /\ (¬ ((0 : Int) <= z102) -> (((z101 = 1) -> ((((x52.length : Nat) + (1 : Nat) : Int) * 24 <= 140737488355328) /\ (J72 (x52 ++ [x84]) z85 z86 z101 z102 (decide ((0 : Int) <= z86)) (decide ((0 : Int) <= z102)) (decide (z101 = 1))))) /\ (¬ (z101 = 1) -> (J72 x52 z85 z86 z101 z102 (decide ((0 : Int) <= z86)) (decide ((0 : Int) <= z102)) (decide (z101 = 1)))))))))))))))) /\ ∀ (x61 : LL) (z65 : Int) (z66 : Int) (z67 : Int) (z68 : Int) (b69 : Bool) (b70 : Bool) (b71 : Bool), (J72 x61 z65 z66 z67 z68 b69 b70 b71 -> ((I64 (z56 + 1)) /\ (I57 x61 (z56 + 1) /\ μ58 x61 (z56 + 1) < μ58 x52 z56))))) /\ (¬ (z56 < z28) -> (Q (x52, (0 : Int))))))))))))))))
theorem Ji8 {w : World} {Q : LL × Int -> Prop} {Pf : Int} {Mf : Int} {mf : LI} {r : Int} {Bf : Nat} {Af : Option Addr} {nf kf : Nat} (hf : Rd Bf w 1 Af nf kf (is mf)) (hv : ZM Pf Mf mf r Q) :
   Calls Try.prog 14 #[.agg #[.int .i64 Pf, .int .i64 Mf, .slice Af nf kf], .int .i64 r] w <| Rt w fun v Qr => ∃ (r0 : LL) (r1 : Int) (A0 : Option Addr) (k0 : Nat) (hs0 : Hs), v = .tuple #[.slice A0 r0.length k0, .int .i64 r1] /\ Qr = [mx 22 3 A0 r0.length k0 hs0 r0] /\ Q (r0, r1) := by
 have hnf := hf.ilen; subst hnf; refine Jk <| Ji (vs := [.agg #[nI Pf, nI Mf, nS Af mf kf], nI r]) [4, 5] XF14 rfl rfl rfl rfl ?_; have hS := Jo w; unfold ZM at hv; refine Jc 2 <| JD (z := 3) (cs := [nI Pf, nI Mf, nS Af mf kf]) hS rfl rfl rfl rfl ?_; intro g11 w12 hS; refine Jb 3 <| Jc 3 <| JI 0 Qb Qe hS rfl ⟨rfl, rfl⟩ rfl <| SL.call hS (Jm3 (hS.ro hf) hv) XF46 rfl XN46 rfl rfl ?_; rintro _ _ w13 ⟨r14, rfl, rfl, hv⟩ hGw13 hS; have hS := hS.n0; refine Jb 2 <| Jh rfl (fun c15 => ?_) (fun c15 => ?_)
 .have hv := hv.1 (oT c15); refine Jc 5 <| W.ret ?_; have hS := hS.mxNil 22 3; have hm0 := hS.mxlen (i := 0) rfl; have hS := hS.relenMx (i := 0) rfl hm0.symm
  change St _ _ _ _ [_, _] at hS
  refine ⟨_, rfl, Fin.nil ?_⟩; exact ⟨_, hS.ext, (hS.pick [0] rfl).rows, J1 (hS.pick [0] rfl).rows rfl, ⟨([] : LL), (1 : Int), none, 0, (fun _ => (none, 0)), (by (try unfold nS); first | (rw [show (Value.slice none 0 0) = Value.slice none (([] : LL)).length 0 from sm0 hm0.symm]; done) | (rw [show (Value.slice none 0 0) = Value.slice none (([] : LL)).length 0 from sm0 hm0.symm]; rfl)), rfl, hv⟩⟩
 have hv := hv.2 (oF c15); refine Jj <| Jc 6 <| Jh rfl (fun c17 => ?_) (fun c17 => ?_)
 .have hv := hv.1 (oT c17); refine Jc 5 <| W.ret ?_; have hS := hS.mxNil 22 3; have hm0 := hS.mxlen (i := 0) rfl; have hS := hS.relenMx (i := 0) rfl hm0.symm
  change St _ _ _ _ [_, _] at hS
  refine ⟨_, rfl, Fin.nil ?_⟩; exact ⟨_, hS.ext, (hS.pick [0] rfl).rows, J1 (hS.pick [0] rfl).rows rfl, ⟨([] : LL), (6 : Int), none, 0, (fun _ => (none, 0)), (by (try unfold nS); first | (rw [show (Value.slice none 0 0) = Value.slice none (([] : LL)).length 0 from sm0 hm0.symm]; done) | (rw [show (Value.slice none 0 0) = Value.slice none (([] : LL)).length 0 from sm0 hm0.symm]; rfl)), rfl, hv⟩⟩
 have hv := hv.2 (oF c17); refine Jj <| Jc 2 <| JI 0 Qb Qe hS rfl ⟨rfl, rfl⟩ rfl <| SL.call hS (YV (hS.ro hf) hv) Jn5 rfl XN20 rfl rfl ?_; rintro _ _ w19 ⟨r20, rfl, rfl, hv⟩ hGw19 hS; have hS := hS.n0; refine Jb 2 <| Jc 13 <| W.block ?_; obtain ⟨I30, μ31, hv, hk129⟩ := hv; refine JB (σ := Int × Int × Int) (fun q w1 => match q with | (z27, z28, z29) => I30 z27 z28 z29 /\ St TT w none w1 [.row 24 3 (nA g11) 1 1 [nI Pf, nI Mf, nS Af mf kf]]) (fun (z27, z28, z29) => [(1, nI r), (4, .slice none 0 0), (5, nI 0), (6, nI r20), (7, nI z27), (8, nI z28), (9, nI z29)]) (fun (z27, z28, z29) => μ31 z27 z28 z29) ((0 : Int), (1 : Int), (0 : Int)) ⟨hv, hS⟩ ⟨rfl, rfl, rfl, rfl, rfl, rfl, rfl, trivial⟩ ?_; rintro ⟨z27, z28, z29⟩ w32 ⟨hv, hS⟩; have hv := hk129 z27 z28 z29 hv; refine Jc 7 <| Jh rfl (fun c33 => ?_) (fun c33 => ?_)
 .have hv := hv.1 (oT c33); refine Jj <| Jw <| W.block <| Jc 4 ?_; obtain ⟨o34, hv⟩ := hv; refine WL.add (r := (z27 + z28)) rfl rfl (wr o34) rfl <| Jb 2 <| Jc 6 <| Jh rfl (fun c35 => ?_) (fun c35 => ?_)
  .have hv := hv.1 (oT c35); refine Jc 5 <| W.ret ?_; have hS := hS.mxNil 22 3; have hm0 := hS.mxlen (i := 0) rfl; have hS := hS.relenMx (i := 0) rfl hm0.symm
   change St _ _ _ _ [_, _] at hS
   refine ⟨_, rfl, Fin.nil ?_⟩; exact ⟨_, hS.ext, (hS.pick [0] rfl).rows, J1 (hS.pick [0] rfl).rows rfl, ⟨([] : LL), (4 : Int), none, 0, (fun _ => (none, 0)), (by (try unfold nS); first | (rw [show (Value.slice none 0 0) = Value.slice none (([] : LL)).length 0 from sm0 hm0.symm]; done) | (rw [show (Value.slice none 0 0) = Value.slice none (([] : LL)).length 0 from sm0 hm0.symm]; rfl)), rfl, hv⟩⟩
  have hv := hv.2 (oF c35); refine Jj <| Jc 3 ?_; obtain ⟨o37, hv⟩ := hv; refine WL.mul (r := (z28 * r20)) rfl rfl (wr o37) rfl <| Jb 2 <| Jc 2 ?_; obtain ⟨o38, hv⟩ := hv; refine WL.add (r := (z29 + 1)) rfl rfl (wr o38) rfl <| Jb 2 ?_; exact ⟨((z27 + z28), (z28 * r20), (z29 + 1)), sp rfl, hv.2, rfl, hv.1, hS⟩
 have hv := hv.2 (oF c33); refine Jy <| Jc 2 <| Qo (vs := []) hS Jt Jq rfl rfl rfl rfl (by simp [Value.oneCell']) rfl ?_; intro A39 w40 hS; have hS := Jrp (L := []) (eI := 3) [] [] (by simp [Jz, Jnf]) (by simp [inr, Jnf]) hS
 change St _ _ _ _ [_, _] at hS
 refine Jb 2 <| Jc 5 <| W.block ?_; obtain ⟨I57, μ58, hv, hk128⟩ := hv; have hm0 : 0 = ([] : LL).length := (hS.mxlen (i := 0) rfl).symm; have hS := hS.relenMx (i := 0) rfl hm0
 change St _ _ _ _ [_, _] at hS
 refine JB (σ := LL × Int × Option Addr × Nat × Hs) (fun q w1 => match q with | (x52, z56, A53, k54, hs55) => I57 x52 z56 /\ St TT w none w1 [mx 22 3 A53 x52.length k54 hs55 x52, .row 24 3 (nA g11) 1 1 [nI Pf, nI Mf, nS Af mf kf]]) (fun (x52, z56, A53, k54, hs55) => [(1, nI r), (4, .slice none 0 0), (5, nI 0), (6, nI r20), (8, nI z28), (10, nS A53 x52 k54), (11, nI z56)]) (fun (x52, z56, A53, k54, hs55) => μ58 x52 z56) (([] : LL), (1 : Int), A39, 0, (Jnf [])) ⟨hv, hS⟩ ⟨rfl, rfl, rfl, rfl, rfl, (sm (by first | rfl | assumption | omega)), rfl, trivial⟩ ?_; rintro ⟨x52, z56, A53, k54, hs55⟩ w59 ⟨hv, hS⟩; have hv := hk128 x52 z56 hv; refine Jc 7 <| Jh rfl (fun c60 => ?_) (fun c60 => ?_)
 .have hv := hv.1 (oT c60); refine Jj <| Jw ?_; obtain ⟨J72, hv, hk127⟩ := hv; refine Ql (σ := LL × Int × Int × Int × Int × Bool × Bool × Bool × Option Addr × Nat × Hs) (fun q w1 => match q with | (x61, z65, z66, z67, z68, b69, b70, b71, A62, k63, hs64) => J72 x61 z65 z66 z67 z68 b69 b70 b71 /\ St TT w none w1 [mx 22 3 A62 x61.length k63 hs64 x61, .row 24 3 (nA g11) 1 1 [nI Pf, nI Mf, nS Af mf kf]]) (fun (x61, z65, z66, z67, z68, b69, b70, b71, A62, k63, hs64) => [(1, nI r), (4, .slice none 0 0), (5, nI 0), (6, nI r20), (8, nI z28), (10, nS A62 x61 k63), (11, nI z56), (13, nI z65), (14, nI z66), (15, nI z67), (16, nI z68), (40, .bool (decide (z56 < z28))), (49, .bool b69), (64, .bool b70), (77, .bool b71)]) ?_ ?_
  .refine W.block ?_; refine Jc 3 ?_; obtain ⟨o73, hv⟩ := hv; refine QA (J := r) hS Jn XE3 rfl rfl o73 (QR _) rfl ?_; intro A74 w75 hS; refine Jb 2 <| Jc 9 ?_; obtain ⟨o77, hv⟩ := hv; refine WL.sub (r := (r - 1)) rfl rfl (wr o77) rfl <| Jb 2 <| W.block ?_; obtain ⟨I87, μ88, hv, hk124⟩ := hv; refine JB (σ := LI × Int × Int) (fun q w1 => match q with | (x84, z85, z86) => I87 x84 z85 z86 /\ St TT w none w1 [.row 3 1 A74 r.toNat r.toNat (is x84), mx 22 3 A53 x52.length k54 hs55 x52, .row 24 3 (nA g11) 1 1 [nI Pf, nI Mf, nS Af mf kf]]) (fun (x84, z85, z86) => [(1, nI r), (4, .slice none 0 0), (5, nI 0), (6, nI r20), (8, nI z28), (10, nS A53 x52 k54), (11, nI z56), (12, .slice A74 r.toNat r.toNat), (13, nI z85), (14, nI z86), (40, .bool (decide (z56 < z28)))]) (fun (x84, z85, z86) => μ88 x84 z85 z86) (List.replicate r.toNat (0 : Int), z56, (r - 1)) ⟨hv, hS⟩ ⟨rfl, rfl, rfl, rfl, rfl, rfl, rfl, rfl, rfl, rfl, rfl, trivial⟩ ?_; rintro ⟨x84, z85, z86⟩ w89 ⟨hv, hS⟩; have hv := hk124 x84 z85 z86 hv; refine Jc 6 <| Jh rfl (fun c90 => ?_) (fun c90 => ?_)
   .have hv := hv.1 (oT c90); refine Jj <| Jw <| W.block <| Jc 6 ?_; obtain ⟨o91, hv⟩ := hv; refine Yl (r := (z85.tmod r20)) rfl rfl o91 rfl rfl ?_; obtain ⟨o92, hv⟩ := hv; refine Je Jn XE3 (hS.rd (i := 0) rfl) rfl rfl o92 rfl <| JC (cs' := is (si x84 z86 (z85.tmod r20))) 0 z86.toNat hS rfl XE3 rfl rfl rfl (Q8 (hS.rd (i := 0) rfl) o92) (Qs _ _ _) ?_; intro w93 hS; refine Ja <| Jc 3 ?_; obtain ⟨o94, hv⟩ := hv; refine Jd0 (r := (z85.tdiv r20)) rfl rfl o94.1 (wr o94.2) rfl <| Jb 2 <| Jc 2 ?_; obtain ⟨o95, hv⟩ := hv; refine WL.sub (r := (z86 - 1)) rfl rfl (wr o95) rfl <| Jb 2 ?_; exact ⟨(si x84 z86 (z85.tmod r20), (z85.tdiv r20), (z86 - 1)), sp rfl, hv.2, rfl, hv.1, hS⟩
   have hv := hv.2 (oF c90); refine Jy <| Jc 8 ?_; obtain ⟨o96, hv⟩ := hv; refine WL.sub (r := (r - 1)) rfl rfl (wr o96) rfl <| Jb 2 <| W.block ?_; obtain ⟨I103, μ104, hv, hk123⟩ := hv; refine JB (σ := Int × Int) (fun q w1 => match q with | (z101, z102) => I103 z101 z102 /\ St TT w none w1 [.row 3 1 A74 r.toNat r.toNat (is x84), mx 22 3 A53 x52.length k54 hs55 x52, .row 24 3 (nA g11) 1 1 [nI Pf, nI Mf, nS Af mf kf]]) (fun (z101, z102) => [(1, nI r), (4, .slice none 0 0), (5, nI 0), (6, nI r20), (8, nI z28), (10, nS A53 x52 k54), (11, nI z56), (12, .slice A74 r.toNat r.toNat), (13, nI z85), (14, nI z86), (15, nI z101), (16, nI z102), (40, .bool (decide (z56 < z28))), (49, .bool (decide ((0 : Int) <= z86)))]) (fun (z101, z102) => μ104 z101 z102) ((0 : Int), (r - 1)) ⟨hv, hS⟩ ⟨rfl, rfl, rfl, rfl, rfl, rfl, rfl, rfl, rfl, rfl, rfl, rfl, rfl, rfl, trivial⟩ ?_; rintro ⟨z101, z102⟩ w105 ⟨hv, hS⟩; have hv := hk123 z101 z102 hv; refine Jc 6 <| Jh rfl (fun c106 => ?_) (fun c106 => ?_)
   .have hv := hv.1 (oT c106); refine Jj <| Jw ?_; obtain ⟨J108, hv, hk114⟩ := hv; refine Ql (σ := Int) (fun z107 w1 => J108 z107 /\ St TT w none w1 [.row 3 1 A74 r.toNat r.toNat (is x84), mx 22 3 A53 x52.length k54 hs55 x52, .row 24 3 (nA g11) 1 1 [nI Pf, nI Mf, nS Af mf kf]]) (fun z107 => [(1, nI r), (4, .slice none 0 0), (5, nI 0), (6, nI r20), (8, nI z28), (10, nS A53 x52 k54), (11, nI z56), (12, .slice A74 r.toNat r.toNat), (13, nI z85), (14, nI z86), (15, nI z107), (16, nI z102), (40, .bool (decide (z56 < z28))), (49, .bool (decide ((0 : Int) <= z86))), (64, .bool (decide ((0 : Int) <= z102))), (71, .bool (decide ((gi x84 z102) ≠ (0 : Int))))]) ?_ ?_
    .refine W.block ?_; refine Jc 4 ?_; obtain ⟨o109, hv⟩ := hv; refine Je Jn XE3 (hS.rd (i := 0) rfl) rfl rfl o109 rfl <| Jm XU3 rfl rfl (JJ (hS.rd (i := 0) rfl) o109) rfl <| Jb 2 <| Jh rfl (fun c110 => ?_) (fun c110 => ?_)
     .have hv := hv.1 (oT c110); refine Jc 3 ?_; obtain ⟨o111, hv⟩ := hv; refine Je Jn XE3 (hS.rd (i := 0) rfl) rfl rfl o111 rfl <| Jm XU3 rfl rfl (JJ (hS.rd (i := 0) rfl) o111) rfl <| Jb 2 ?_; exact ⟨(gi x84 z102), sp rfl, rfl, hv, hS⟩
     have hv := hv.2 (oF c110); refine Jj ?_; exact ⟨z101, sp rfl, rfl, hv, hS⟩
    rintro z107 w112 ⟨hv, hS⟩; have hv := hk114 z107 hv; refine Jc 2 ?_; obtain ⟨o113, hv⟩ := hv; refine WL.sub (r := (z102 - 1)) rfl rfl (wr o113) rfl <| Jb 2 ?_; exact ⟨(z107, (z102 - 1)), sp rfl, hv.2, rfl, hv.1, hS⟩
   have hv := hv.2 (oF c106); refine Jy <| Jc 5 <| Jh rfl (fun c115 => ?_) (fun c115 => ?_)
   .have hv := hv.1 (oT c115); refine Jc 3 <| Qo (vs := [.slice A74 r.toNat r.toNat]) hS Jt Jq rfl rfl rfl rfl (by simp [Value.oneCell']) rfl ?_; intro A116 w117 hS; obtain ⟨o119, hv⟩ := hv; have hS := hS.pick [2, 0, 1, 3] rfl; have hS := hS.pick [1, 2, 0, 3] rfl; have hS := Jih (hS.rd (i := 1) rfl).ilen.symm hS
    change St _ _ _ _ [_, _, _] at hS
    refine Jb7 hS Jt Jq rfl rfl (apk o119).1 (apk o119).2 rfl ?_; intro A120 k121 w122 hS; refine Jb 2 ?_; exact ⟨(x52 ++ [x84], z85, z86, z101, z102, (decide ((0 : Int) <= z86)), (decide ((0 : Int) <= z102)), (decide (z101 = 1)), A120, k121, (Jcb x52.length hs55 (fun _ => (A74, r.toNat)))), sp rfl, rfl, hv, hS⟩
   have hv := hv.2 (oF c115); refine Jj ?_; have hS := hS.pick [1, 2] rfl; exact ⟨(x52, z85, z86, z101, z102, (decide ((0 : Int) <= z86)), (decide ((0 : Int) <= z102)), (decide (z101 = 1)), A53, k54, hs55), sp rfl, rfl, hv, hS⟩
  rintro ⟨x61, z65, z66, z67, z68, b69, b70, b71, A62, k63, hs64⟩ w125 ⟨hv, hS⟩; have hv := hk127 x61 z65 z66 z67 z68 b69 b70 b71 hv; refine Jc 2 ?_; obtain ⟨o126, hv⟩ := hv; refine WL.add (r := (z56 + 1)) rfl rfl (wr o126) rfl <| Jb 2 ?_; exact ⟨(x61, (z56 + 1), A62, k63, hs64), sp rfl, hv.2, rfl, hv.1, hS⟩
 have hv := hv.2 (oF c60); refine Jy <| Jc 6 <| W.ret <| ⟨_, rfl, Fin.nil ?_⟩
 exact (hS.pick [0] rfl).fin rfl ⟨x52, (0 : Int), A53, k54, hs55, rfl, rfl, hv⟩
end Go.Proofs.Ytjgpkljepgcekaa
namespace Go.Proofs.Ytjgpkljepgcekaa
open Go.RowKit
def Jai (Pf : Int) (Mf : Int) (mf : LI) (r : Int) (y : LI) (Q : Bool -> Prop) : Prop :=
  ZS  (fun r14 => (((!r14) = true) -> Q false) /\ ((!r14) = false -> (ZT Pf Mf mf r (fun (r17, r18, x19, c20, x21, r22) => ZM Pf Mf mf r (fun (x34, r35) => ((r35 ≠ 0) -> (Q (decide (r22 = r35)))) /\ (¬ (r35 ≠ 0) -> (((r22 ≠ 0) -> Q false) /\ (¬ (r22 ≠ 0) -> ((((x21.length : Int) ≠ r) -> Q false) /\ (¬ ((x21.length : Int) ≠ r) -> (Y4 r17 r18 x19 c20 x21 y (fun (x44, r45) => Jd2 Pf Mf mf y r (fun r50 => ((r50 ≠ 0) -> (Q (decide (r45 ≠ 0)))) /\ (¬ (r50 ≠ 0) -> (((r45 ≠ 0) -> Q false) /\ (¬ (r45 ≠ 0) -> (Q4 Pf Mf mf x44 (fun r54 => ∃ (I61 : Int -> Int -> Prop) (μ62 : Int -> Int -> Nat), I61 1 (1 : Int) /\ ∀ (z59 : Int) (z60 : Int), (I61 z59 z60 -> (((z60 < r) -> (Yg Pf Mf mf (fun r66 => (I64 (z59 * r66)) /\ ((I64 (z60 + 1)) /\ (I61 (z59 * r66) (z60 + 1) /\ μ62 (z59 * r66) (z60 + 1) < μ62 z59 z60))))) /\ (¬ (z60 < r) -> (((r54 = 0) -> (Q4 Pf Mf mf y (fun r71 => ((r71 = 0) -> Q true) /\ (¬ (r71 = 0) -> (Q (decide (r54 = z59))))))) /\ (¬ (r54 = 0) -> (Q (decide (r54 = z59))))))))))))))))))))))))))
theorem Jhc {w : World} {Q : Bool -> Prop} {Pf : Int} {Mf : Int} {mf : LI} {r : Int} {y : LI} {Bf : Nat} {Af : Option Addr} {nf kf : Nat} (hf : Rd Bf w 1 Af nf kf (is mf)) {By : Nat} {Ay : Option Addr} {ny ky : Nat} (hy : Rd By w 1 Ay ny ky (is y)) (hv : Jai Pf Mf mf r y Q) :
   Calls Try.prog 5 #[.agg #[.int .i64 Pf, .int .i64 Mf, .slice Af nf kf], .int .i64 r, .slice Ay ny ky] w <| Rt w fun v Qr => ∃ (r0 : Bool), v = .bool r0 /\ Qr = [] /\ Q r0 := by
 have hnf := hf.ilen; subst hnf; have hny := hy.ilen; subst hny; refine Jk <| Ji (vs := [.agg #[nI Pf, nI Mf, nS Af mf kf], nI r, nS Ay y ky]) [6] XF5 rfl rfl rfl rfl ?_; have hS := Jo w; unfold Jai at hv; refine Jc 2 <| JD (z := 3) (cs := [nI Pf, nI Mf, nS Af mf kf]) hS rfl rfl rfl rfl ?_; intro g11 w12 hS; refine Jb 2 <| Jc 3 <| SL.call hS (Jjg  hv) XF16 rfl XN16 rfl rfl ?_; rintro _ _ w13 ⟨r14, rfl, rfl, hv⟩ hGw13 hS; have hS := hS.n0; refine Jb 2 <| Jh rfl (fun c15 => ?_) (fun c15 => ?_)
 .have hv := hv.1 (c15); refine Jc 4 <| W.ret <| ⟨_, rfl, Fin.nil ?_⟩
  exact (hS.pick [] rfl).fin rfl ⟨false, rfl, rfl, hv⟩
 have hv := hv.2 (c15); refine Jj <| Jc 2 <| JI 0 Qb Qe hS rfl ⟨rfl, rfl⟩ rfl <| Jp rfl rfl <| SL.call hS (Jjh (hS.ro hf) hv) XF21 rfl XN21 rfl rfl ?_; rintro _ _ w16 ⟨r17, r18, x19, c20, x21, r22, A23, k24, A26, k27, hs28, rfl, rfl, hv⟩ hGw16 hS; have hS := hS.n2; refine Jb 3 <| SL.alloc (cs := [nI 0, nI 0, .slice none 0 0, nI 0, .slice none 0 0]) hS Yd rfl rfl ?_; intro g30 w31 hS; refine JH (cs := [nI r17, nI r18, nS A23 x19 k24, nI c20, nS A26 x21 k27]) 0 hS rfl Yd rfl rfl rfl rfl rfl ?_; intro w32 hS; refine Jb 2 <| Jc 2 <| JI 3 Qb Qe hS rfl ⟨rfl, rfl⟩ rfl <| Jp rfl rfl <| SL.call hS (Ji8 (hS.ro hf) hv) XF14 rfl XN14 rfl rfl ?_; rintro _ _ w33 ⟨x34, r35, A36, k37, hs38, rfl, rfl, hv⟩ hGw33 hS; have hS := hS.n1; refine Jb 6 <| Jc 6 <| Jh rfl (fun c40 => ?_) (fun c40 => ?_)
 .have hv := hv.1 (oT c40); refine Jc 7 <| W.ret <| ⟨_, rfl, Fin.nil ?_⟩
  exact (hS.pick [] rfl).fin rfl ⟨(decide (r22 = r35)), rfl, rfl, hv⟩
 have hv := hv.2 (oF c40); refine Jj <| Jc 5 <| Jp rfl rfl ?_; by_cases g41 : r22 ≠ 0
 .have hv := hv.1 g41; rw [decide_eq_true g41]; refine Jb 7 <| Qa rfl <| Jc 4 <| W.ret <| ⟨_, rfl, Fin.nil ?_⟩
  exact (hS.pick [] rfl).fin rfl ⟨false, rfl, rfl, hv⟩
 have hv := hv.2 g41; rw [decide_eq_false g41]; refine WL.take rfl <| Jd (off := 4) Jkm rfl rfl <| WL.take rfl <| Jl 1 4 Jt hS rfl rfl rfl ⟨rfl, rfl⟩ <| WL.take rfl <| WL.len Jt rfl rfl <| Jb 6 <| Jh rfl (fun c42 => ?_) (fun c42 => ?_)
 .have hv := hv.1 (oT c42); refine Jc 4 <| W.ret <| ⟨_, rfl, Fin.nil ?_⟩
  exact (hS.pick [] rfl).fin rfl ⟨false, rfl, rfl, hv⟩
 have hv := hv.2 (oF c42); refine Jj <| Jc 2 <| JI 1 Yd Jbs hS rfl ⟨rfl, rfl⟩ rfl <| Jp rfl rfl <| SL.call hS (Jjf (hS.rd (i := 2) rfl) (hS.rl (i := 3) rfl) (hS.ro hy) hv) XF22 rfl XN22 rfl rfl ?_; rintro _ _ w43 ⟨x44, r45, A46, k47, rfl, rfl, hv⟩ hGw43 hS; have hS := hS.n1; refine Jb 6 <| Jc 3 <| JI 5 Qb Qe hS rfl ⟨rfl, rfl⟩ rfl <| Jb 2 <| SL.call hS (Jm2 (hS.ro hf) (hS.ro hy) hv) XF18 rfl XN18 rfl rfl ?_; rintro _ _ w49 ⟨r50, rfl, rfl, hv⟩ hGw49 hS; have hS := hS.n0; refine Jb 2 <| Jh rfl (fun c51 => ?_) (fun c51 => ?_)
 .have hv := hv.1 (oT c51); refine Jc 6 <| W.ret <| ⟨_, rfl, Fin.nil ?_⟩
  exact (hS.pick [] rfl).fin rfl ⟨(decide (r45 ≠ 0)), rfl, rfl, hv⟩
 have hv := hv.2 (oF c51); refine Jj <| Jc 6 <| Jh rfl (fun c52 => ?_) (fun c52 => ?_)
 .have hv := hv.1 (oT c52); refine Jc 4 <| W.ret <| ⟨_, rfl, Fin.nil ?_⟩
  exact (hS.pick [] rfl).fin rfl ⟨false, rfl, rfl, hv⟩
 have hv := hv.2 (oF c52); refine Jj <| Jc 2 <| JI 5 Qb Qe hS rfl ⟨rfl, rfl⟩ rfl <| Jp rfl rfl <| SL.call hS (Jb0 (hS.ro hf) (hS.rd (i := 0) rfl) hv) XF23 rfl XN23 rfl rfl ?_; rintro _ _ w53 ⟨r54, rfl, rfl, hv⟩ hGw53 hS; have hS := hS.n0; refine Jb 2 <| Jc 9 <| W.block ?_; obtain ⟨I61, μ62, hv, hk73⟩ := hv; refine JB (σ := Int × Int) (fun q w1 => match q with | (z59, z60) => I61 z59 z60 /\ St TT w none w1 [nR 3 A46 x44 k47, mx 22 3 A36 x34.length k37 hs38 x34, .row 33 5 (nA g30) 1 1 [nI r17, nI r18, nS A23 x19 k24, nI c20, nS A26 x21 k27], nR 3 A23 x19 k24, mx 22 3 A26 x21.length k27 hs28 x21, .row 24 3 (nA g11) 1 1 [nI Pf, nI Mf, nS Af mf kf]]) (fun (z59, z60) => [(1, nI r), (2, nS Ay y ky), (3, nP g11), (6, .bool false), (13, nI r54), (14, nI z59), (15, nI z60)]) (fun (z59, z60) => μ62 z59 z60) ((1 : Int), (1 : Int)) ⟨hv, hS⟩ ⟨rfl, rfl, rfl, rfl, rfl, rfl, rfl, trivial⟩ ?_; rintro ⟨z59, z60⟩ w63 ⟨hv, hS⟩; have hv := hk73 z59 z60 hv; refine Jc 7 <| Jh rfl (fun c64 => ?_) (fun c64 => ?_)
 .have hv := hv.1 (oT c64); refine Jj <| Jw <| W.block <| Jc 2 <| JI 5 Qb Qe hS rfl ⟨rfl, rfl⟩ rfl <| SL.call hS (YV (hS.ro hf) hv) Jn5 rfl XN20 rfl rfl ?_; rintro _ _ w65 ⟨r66, rfl, rfl, hv⟩ hGw65 hS; have hS := hS.n0; obtain ⟨o67, hv⟩ := hv; refine WL.mul (r := (z59 * r66)) rfl rfl (wr o67) rfl <| Jb 2 <| Jc 2 ?_; obtain ⟨o68, hv⟩ := hv; refine WL.add (r := (z60 + 1)) rfl rfl (wr o68) rfl <| Jb 2 ?_; exact ⟨((z59 * r66), (z60 + 1)), sp rfl, hv.2, rfl, hv.1, hS⟩
 have hv := hv.2 (oF c64); refine Jy <| Jc 4 <| Jp rfl rfl ?_; by_cases g69 : r54 = 0
 .have hv := hv.1 g69; rw [decide_eq_true g69]; refine WL.take rfl <| JI 5 Qb Qe hS rfl ⟨rfl, rfl⟩ rfl <| Jb 3 <| SL.call hS (Jb0 (hS.ro hf) (hS.ro hy) hv) XF23 rfl XN23 rfl rfl ?_; rintro _ _ w70 ⟨r71, rfl, rfl, hv⟩ hGw70 hS; have hS := hS.n0; refine Jb 3 <| Jp rfl rfl ?_; by_cases g72 : r71 = 0
  .have hv := hv.1 g72; rw [decide_eq_true g72]; refine Jb 6 <| W.ret <| ⟨_, rfl, Fin.nil ?_⟩
   exact (hS.pick [] rfl).fin rfl ⟨true, rfl, rfl, hv⟩
  have hv := hv.2 g72; rw [decide_eq_false g72]; refine Jb 9 <| W.ret <| ⟨_, rfl, Fin.nil ?_⟩
  exact (hS.pick [] rfl).fin rfl ⟨(decide (r54 = z59)), rfl, rfl, hv⟩
 have hv := hv.2 g69; rw [decide_eq_false g69]; refine Jb 15 <| W.ret <| ⟨_, rfl, Fin.nil ?_⟩
 exact (hS.pick [] rfl).fin rfl ⟨(decide (r54 = z59)), rfl, rfl, hv⟩
end Go.Proofs.Ytjgpkljepgcekaa
namespace Go.Proofs.Ytjgpkljepgcekaa
open Go.RowKit
/-! ### append of zeros onto nil; lists joined -/
section
variable {P : Program} {n : Nat} {ro : Option Nat} {df : List Deferred} {N : JV} {L : Fr} {w w0 : World} {ops : Array Oper} {rest : List Oper}
variable {d : Nat} {ty : TypeId} {pos : String} {af : Array Edge} {X : World -> Prop} {mr : Option Nat} {R : List Rw}
end
end Go.Proofs.Ytjgpkljepgcekaa
namespace Go.Proofs.Ytjgpkljepgcekaa
open Go.RowKit
end Go.Proofs.Ytjgpkljepgcekaa
namespace Go.Proofs.Ytjgpkljepgcekaa
open Go.RowKit
end Go.Proofs.Ytjgpkljepgcekaa
namespace Go.Proofs.Ytjgpkljepgcekaa
open Go.RowKit
end Go.Proofs.Ytjgpkljepgcekaa
namespace Go.Proofs.Ytjgpkljepgcekaa
abbrev Vec := Nat -> Int
def tX (m : Nat) (c : Vec) (v : Vec) : Vec := fun i => if i < m then (if i = 0 then 0 else v (i - 1)) - c i * v (m - 1) else 0
def JW (u v : Vec) : Vec := fun i => u i + v i
def vsm (a : Int) (v : Vec) : Vec := fun i => a * v i
def vz : Vec := fun _ => 0
def e0 : Vec := fun i => if i = 0 then 1 else 0
def tXn (m : Nat) (c : Vec) : Nat -> Vec -> Vec
  | 0, v => v
  | n + 1, v => tX m c (tXn m c n v)
def opr (m : Nat) (c b : Vec) : Nat -> Vec -> Vec
  | 0, _ => vz
  | n + 1, v => JW (opr m c b n v) (vsm (b n) (tXn m c n v))
def Yi (m : Nat) (c a b : Vec) : Vec := opr m c b m a
section
variable (m : Nat) (c : Vec)
theorem tX_add (u v : Vec) : tX m c (JW u v) = JW (tX m c u) (tX m c v) := by
 funext i; simp only [tX, JW]; split
 .split <;> grind
 .rfl
theorem tX_sm (a : Int) (v : Vec) : tX m c (vsm a v) = vsm a (tX m c v) := by
 funext i; simp only [tX, vsm]; split
 .split <;> grind
 .grind
theorem tX_z : tX m c vz = vz := by funext i; simp [tX, vz]
theorem Jcx (u : Vec) : JW u vz = u := by funext i; simp [JW, vz]
theorem z_vadd (u : Vec) : JW vz u = u := by funext i; simp [JW, vz]
theorem Jef (u v : Vec) : JW u v = JW v u := by funext i; simp only [JW]; omega
theorem Jcy (u v w : Vec) : JW (JW u v) w = JW u (JW v w) := by funext i; simp only [JW]; omega
theorem Jkt (a : Int) (u v : Vec) : vsm a (JW u v) = JW (vsm a u) (vsm a v) := by funext i; simp only [JW, vsm]; grind
theorem vsm_sm (a b : Int) (u : Vec) : vsm a (vsm b u) = vsm (a * b) u := by funext i; simp only [vsm]; grind
theorem vsm_z (a : Int) : vsm a vz = vz := by funext i; simp [vsm, vz]
theorem Je3 (n : Nat) (u v : Vec) : tXn m c n (JW u v) = JW (tXn m c n u) (tXn m c n v) := by
 induction n with
 | zero => rfl
 | succ n ih => simp only [tXn, ih, tX_add]
theorem Jiv (n : Nat) (a : Int) (v : Vec) : tXn m c n (vsm a v) = vsm a (tXn m c n v) := by
 induction n with
 | zero => rfl
 | succ n ih => simp only [tXn, ih, tX_sm]
theorem Joy (n : Nat) : tXn m c n vz = vz := by
 induction n with
 | zero => rfl
 | succ n ih => simp only [tXn, ih, tX_z]
theorem Joz (n : Nat) (v : Vec) : tXn m c n (tX m c v) = tX m c (tXn m c n v) := by
 induction n with
 | zero => rfl
 | succ n ih => simp only [tXn, ih]
theorem Jr6 (n k : Nat) (v : Vec) : tXn m c n (tXn m c k v) = tXn m c (n + k) v := by
 induction n with
 | zero => simp [tXn]
 | succ n ih => rw [Nat.succ_add]; simp only [tXn, ih]
variable (b : Vec)
theorem Jlh (n : Nat) (u v : Vec) : opr m c b n (JW u v) = JW (opr m c b n u) (opr m c b n v) := by
 induction n with
 | zero => simp [opr, Jcx]
 | succ n ih => simp only [opr, ih, Je3, Jkt]; funext i; simp only [JW]; omega
theorem Ji6 (n : Nat) (a : Int) (v : Vec) : opr m c b n (vsm a v) = vsm a (opr m c b n v) := by
 induction n with
 | zero => simp [opr, vsm_z]
 | succ n ih => simp only [opr, ih, Jiv, Jkt, vsm_sm]; rw [Int.mul_comm (b n) a]
theorem opr_z (n : Nat) : opr m c b n vz = vz := by
 induction n with
 | zero => rfl
 | succ n ih => simp only [opr, ih, Joy, vsm_z, Jcx]
theorem Jlg (n k : Nat) (v : Vec) : opr m c b n (tXn m c k v) = tXn m c k (opr m c b n v) := by
 induction n with
 | zero => simp [opr, Joy]
 | succ n ih => simp only [opr, ih, Je3, Jiv, Jr6]; rw [Nat.add_comm n k]
theorem Jg2 (d : Vec) (n k : Nat) (v : Vec) : opr m c b n (opr m c d k v) = opr m c d k (opr m c b n v) := by
 induction n with
 | zero => simp only [opr, opr_z]
 | succ n ih => simp only [opr, ih, Jlh, Ji6, Jlg]
theorem Jpm (d : Vec) (n : Nat) (v : Vec) : opr m c (JW b d) n v = JW (opr m c b n v) (opr m c d n v) := by
 induction n with
 | zero => simp [opr, Jcx]
 | succ n ih => simp only [opr, ih]; funext i; simp only [JW, vsm]; grind
end
def vei (k : Nat) : Vec := fun i => if i = k then 1 else 0
theorem Jo0 {m : Nat} {c : Vec} : ∀ {k : Nat}, k < m -> tXn m c k e0 = vei k
 | 0, _ => rfl
 | k + 1, h => by
  have ih : tXn m c k e0 = vei k := Jo0 (by omega); simp only [tXn, ih]; funext i; simp only [tX, vei]; split
  .rw [if_neg (show ¬ m - 1 = k by omega)]; by_cases h0 : i = 0
   .subst h0; simp
   .simp only [h0, if_false]; by_cases h1 : i = k + 1
    .subst h1; simp
    .rw [if_neg (by omega), if_neg h1]; simp
  .rw [if_neg (by omega)]
theorem Jpn {m : Nat} {c a : Vec} : ∀ {n : Nat}, n <= m -> ∀ i, opr m c a n e0 i = if i < n then a i else 0
  | 0, _, i => by simp [opr, vz]
  | n + 1, h, i => by
    simp only [opr, JW, vsm]
    rw [Jpn (n := n) (by omega) i, Jo0 (by omega)]
    simp only [vei]
    by_cases h1 : i = n
    . subst h1; simp
    . by_cases h2 : i < n
      . simp [h2, h1, show i < n + 1 by omega]
      . simp [h2, h1, show ¬ i < n + 1 by omega]
def Sup (m : Nat) (v : Vec) : Prop := ∀ i, m <= i -> v i = 0
theorem Zq {m : Nat} {c a : Vec} (h : Sup m a) : opr m c a m e0 = a := by
 funext i; rw [Jpn (Nat.le_refl m)]; split
 .rfl
 .exact (h i (by omega)).symm
theorem Sup.z {m : Nat} : Sup m vz := fun _ _ => rfl
theorem Sup.tX {m : Nat} {c v : Vec} : Sup m (tX m c v) := fun i h => by simp [Go.Proofs.Ytjgpkljepgcekaa.tX, show ¬ i < m by omega]
theorem Sup.add {m : Nat} {u v : Vec} (hu : Sup m u) (hv : Sup m v) : Sup m (JW u v) := fun i h => by simp [JW, hu i h, hv i h]
theorem Sup.sm {m : Nat} {a : Int} {v : Vec} (hv : Sup m v) : Sup m (vsm a v) := fun i h => by simp [vsm, hv i h]
theorem Sup.tXn {m : Nat} {c v : Vec} (hv : Sup m v) : ∀ n, Sup m (tXn m c n v)
 | 0 => hv
 | _ + 1 => Sup.tX
theorem Sup.opr {m : Nat} {c b v : Vec} (hv : Sup m v) : ∀ n, Sup m (opr m c b n v)
 | 0 => Sup.z
 | n + 1 => (Sup.opr hv n).add (hv.tXn n).sm
theorem ZD {m : Nat} {c a b : Vec} (ha : Sup m a) (hb : Sup m b) : Yi m c a b = Yi m c b a := by
 unfold Yi
 calc opr m c b m a = opr m c b m (opr m c a m e0) := by rw [Zq ha]
  _ = opr m c a m (opr m c b m e0) := Jg2 ..
  _ = opr m c a m b := by rw [Zq hb]
theorem Jis {m : Nat} {c a b d : Vec} (ha : Sup m a) (hb : Sup m b) (hd : Sup m d) : Yi m c (Yi m c a b) d = Yi m c a (Yi m c b d) := by
 rw [ZD (a := a) (b := Yi m c b d) ha (Sup.opr hb m)]; show opr m c d m (opr m c b m a) = opr m c a m (opr m c d m b); rw [<- Jg2 m c d a m m b]; show opr m c d m (Yi m c a b) = opr m c d m (Yi m c b a); rw [ZD ha hb]
theorem Joo {m : Nat} {c a b d : Vec} : Yi m c a (JW b d) = JW (Yi m c a b) (Yi m c a d) := Jpm ..
theorem Jon {m : Nat} {c a : Vec} (hm : 0 < m) : Yi m c a e0 = a := by
 have key : ∀ n, 0 < n -> opr m c e0 n a = a := by
  intro n
  induction n with
  | zero => intro h; omega
  | succ n ih =>
   intro _; rcases Nat.eq_zero_or_pos n with h | h
   .subst h; funext i; simp [opr, e0, JW, vsm, vz, tXn]
   .simp only [opr, ih h]; funext i; simp [e0, JW, vsm, show n ≠ 0 by omega]
 exact key m hm
def vcg (p : Int) (u v : Vec) : Prop := ∀ i, u i % p = v i % p
section
variable {p : Int} {m : Nat} {c c' u u' v v' b b' : Vec}
theorem vcg.refl (u : Vec) : vcg p u u := fun _ => rfl
theorem vcg.symm (h : vcg p u v) : vcg p v u := fun i => (h i).symm
theorem vcg.trans {w : Vec} (h : vcg p u v) (k : vcg p v w) : vcg p u w := fun i => (h i).trans (k i)
theorem Jde {a a' d d' : Int} (h : a % p = a' % p) (k : d % p = d' % p) : (a * d) % p = (a' * d') % p := by
 rw [Int.mul_emod, h, k, <- Int.mul_emod]
theorem Jki {a a' d d' : Int} (h : a % p = a' % p) (k : d % p = d' % p) : (a + d) % p = (a' + d') % p := by
 rw [Int.add_emod, h, k, <- Int.add_emod]
theorem Jiw {a a' d d' : Int} (h : a % p = a' % p) (k : d % p = d' % p) : (a - d) % p = (a' - d') % p := by
 rw [Int.sub_emod, h, k, <- Int.sub_emod]
theorem vcg.add (h : vcg p u u') (k : vcg p v v') : vcg p (JW u v) (JW u' v') := fun i => Jki (h i) (k i)
theorem vcg.sm {a a' : Int} (ha : a % p = a' % p) (h : vcg p u u') : vcg p (vsm a u) (vsm a' u') := fun i => Jde ha (h i)
theorem vcg.tX (hc : vcg p c c') (h : vcg p u u') : vcg p (tX m c u) (tX m c' u') := fun i => by
 simp only [Go.Proofs.Ytjgpkljepgcekaa.tX]; split
 .split
  .exact Jiw rfl (Jde (hc i) (h _))
  .exact Jiw (h _) (Jde (hc i) (h _))
 .rfl
theorem vcg.tXn (hc : vcg p c c') (h : vcg p u u') : ∀ n, vcg p (tXn m c n u) (tXn m c' n u')
 | 0 => h
 | n + 1 => vcg.tX hc (vcg.tXn hc h n)
theorem vcg.opr (hc : vcg p c c') (hb : vcg p b b') (h : vcg p u u') : ∀ n, vcg p (opr m c b n u) (opr m c' b' n u')
 | 0 => .refl _
 | n + 1 => (vcg.opr hc hb h n).add (vcg.sm (hb n) (vcg.tXn hc h n))
theorem vcg.mul (hc : vcg p c c') (h : vcg p u u') (hb : vcg p b b') : vcg p (Yi m c u b) (Yi m c' u' b') := vcg.opr hc hb h m
end
end Go.Proofs.Ytjgpkljepgcekaa
namespace Go.Proofs.Ytjgpkljepgcekaa
def dv (p x : Nat) : Vec := fun i => ((x / p ^ i % p : Nat) : Int)
def vl (p : Nat) : Nat -> Vec -> Int
  | 0, _ => 0
  | n + 1, v => v 0 + (p : Int) * vl p n (fun i => v (i + 1))
def Cn (p n : Nat) (v : Vec) : Prop := ∀ i, i < n -> 0 <= v i /\ v i < p
def nm (p m : Nat) (v : Vec) : Nat := (vl p m (fun i => v i % (p : Int))).toNat
theorem Zd (p x i : Nat) : dv p x (i + 1) = dv p (x / p) i := by
 simp only [dv]; rw [Nat.pow_succ', <- Nat.div_div_eq_div_mul]
theorem YF (p x : Nat) : dv p x 0 = ((x % p : Nat) : Int) := by simp [dv]
theorem Cn.tl {p n : Nat} {v : Vec} (h : Cn p (n + 1) v) : Cn p n (fun i => v (i + 1)) := fun i hi => h (i + 1) (by omega)
theorem Jkw {p : Nat} (hp : 0 < p) : ∀ {n : Nat} {v : Vec}, Cn p n v -> 0 <= vl p n v /\ vl p n v < ((p ^ n : Nat) : Int)
 | 0, v, _ => by simp [vl]
 | n + 1, v, h => by
  have ih := Jkw hp h.tl; have h0 := h 0 (by omega); simp only [vl]; have h1 : (p : Int) * vl p n (fun i => v (i + 1)) <= p * (((p ^ n : Nat) : Int) - 1) := Int.mul_le_mul_of_nonneg_left (by omega) (by omega); have h2 : 0 <= (p : Int) * vl p n (fun i => v (i + 1)) := Int.mul_nonneg (by omega) ih.1; have h3 : ((p ^ (n + 1) : Nat) : Int) = p * ((p ^ n : Nat) : Int) := by rw [Nat.pow_succ']; push_cast; rfl
  have h4 : (p : Int) * (((p ^ n : Nat) : Int) - 1) = p * ((p ^ n : Nat) : Int) - p := by rw [Int.mul_sub, Int.mul_one]
  omega
theorem Jcw {p : Nat} : ∀ {n : Nat} {u v : Vec}, (∀ i, i < n -> u i = v i) -> vl p n u = vl p n v
 | 0, _, _, _ => rfl
 | n + 1, u, v, h => by simp only [vl]; rw [h 0 (by omega), Jcw (n := n) fun i hi => h (i + 1) (by omega)]
theorem Jop {p : Nat} (hp : 0 < p) : ∀ {n x : Nat}, x < p ^ n -> vl p n (dv p x) = x
 | 0, x, h => by simp at h; subst h; rfl
 | n + 1, x, h => by
  simp only [vl]; have : (fun i => dv p x (i + 1)) = dv p (x / p) := by funext i; exact Zd p x i
  rw [this, Jop hp (n := n) (by rw [Nat.div_lt_iff_lt_mul hp, <- Nat.pow_succ]; exact h), YF]; have := Nat.mod_add_div x p; have h2 : ((x % p + p * (x / p) : Nat) : Int) = (x : Int) := by rw [this]
  push_cast at h2 ⊢; exact h2
theorem dv_vl {p : Nat} (hp : 0 < p) : ∀ {n : Nat} {v : Vec}, Cn p n v -> ∀ i, i < n -> dv p (vl p n v).toNat i = v i
 | 0, _, _, i, hi => by omega
 | n + 1, v, h, i, hi => by
  have ih := Jkw hp h.tl; have h0 := h 0 (by omega); obtain ⟨t, ht⟩ := Int.eq_ofNat_of_zero_le ih.1; obtain ⟨a, ha⟩ := Int.eq_ofNat_of_zero_le h0.1; have hv : (vl p (n + 1) v).toNat = a + p * t := by
   simp only [vl]; rw [ht, ha]; have : (a : Int) + (p : Int) * (t : Int) = ((a + p * t : Nat) : Int) := by push_cast; rfl
   rw [this]; rfl
  have hap : a < p := by have := h0.2; rw [ha] at this; omega
  rw [hv]; cases i with
  | zero => rw [YF, Nat.add_mul_mod_self_left, Nat.mod_eq_of_lt hap, ha]
  | succ i =>
   rw [Zd]; have h2 : (a + p * t) / p = t := by rw [Nat.add_mul_div_left _ _ hp, Nat.div_eq_of_lt hap, Nat.zero_add]
   have ih2 := dv_vl hp h.tl i (by omega); rw [ht] at ih2; rw [h2]; exact ih2
section
variable {p m : Nat}
theorem md_cn (hp : 0 < p) (v : Vec) (n : Nat) : Cn p n (fun i => v i % (p : Int)) := fun i _ => ⟨Int.emod_nonneg _ (by omega), Int.emod_lt_of_pos _ (by omega)⟩
theorem Jau (hp : 0 < p) (v : Vec) : nm p m v < p ^ m := by
 have := Jkw hp (md_cn hp v m); unfold nm; omega
theorem Jlx (hp : 0 < p) (v : Vec) {i : Nat} (hi : i < m) : dv p (nm p m v) i = v i % (p : Int) := dv_vl hp (md_cn hp v m) i hi
theorem Jer (hp : 0 < p) (x n : Nat) : Cn p n (dv p x) := fun i _ => by
 have := Nat.mod_lt (x / p ^ i) hp; simp only [dv]; omega
theorem Jqe {x i : Nat} (hx : x < p ^ m) (hi : m <= i) : dv p x i = 0 := by
 rcases Nat.eq_zero_or_pos p with rfl | hp
 .simp only [dv]; cases m with
  | zero =>
   have : x = 0 := by simpa using hx
   subst this; simp
  | succ m => simp at hx
 .have : x / p ^ i = 0 := Nat.div_eq_of_lt (Nat.lt_of_lt_of_le hx (Nat.pow_le_pow_right hp hi)); simp [dv, this]
theorem Yj {x : Nat} (hx : x < p ^ m) : Sup m (dv p x) := fun i hi => Jqe hx hi
theorem Z7 (x i : Nat) : dv p x i % (p : Int) = dv p x i := by
 simp only [dv]; rw [<- Int.natCast_emod, Nat.mod_mod]
theorem Z1 (hp : 0 < p) {x : Nat} (hx : x < p ^ m) : nm p m (dv p x) = x := by
 unfold nm; rw [Jcw (v := dv p x) fun i _ => Z7 x i, Jop hp hx]; rfl
theorem Jpu {u v : Vec} (h : ∀ i, i < m -> u i % (p : Int) = v i % (p : Int)) : nm p m u = nm p m v := by
 unfold nm; rw [Jcw h]
theorem Y9 {u v : Vec} (h : vcg p u v) : nm p m u = nm p m v := Jpu fun i _ => h i
theorem Jh5 (hp : 0 < p) {v : Vec} (hv : Sup m v) : vcg p (dv p (nm p m v)) v := fun i => by
 rcases Nat.lt_or_ge i m with h | h
 .rw [Jlx hp v h, Int.emod_emod]
 .rw [Jqe (Jau hp v) h, hv i h]
theorem nm_eq (hp : 0 < p) {x : Nat} {v : Vec} (hx : x < p ^ m) (h : ∀ i, i < m -> dv p x i = v i % (p : Int)) : nm p m v = x := by
 rw [<- Z1 hp hx]; exact Jpu fun i hi => by rw [h i hi, Int.emod_emod]
end
def JN (p m x y : Nat) : Nat := nm p m (JW (dv p x) (dv p y))
def Yp (p m x : Nat) : Nat := nm p m (vsm (-1) (dv p x))
def Jr (p m : Nat) (c : Vec) (x y : Nat) : Nat := nm p m (Yi m c (dv p x) (dv p y))
section
variable {p m : Nat} {c : Vec}
theorem Jlv (hp : 0 < p) (x y : Nat) : JN p m x y < p ^ m := Jau hp _
theorem Jck (hp : 0 < p) (x : Nat) : Yp p m x < p ^ m := Jau hp _
theorem Jfw (hp : 0 < p) (x y : Nat) : Jr p m c x y < p ^ m := Jau hp _
theorem Jf0 (hp : 0 < p) {x y : Nat} (hx : x < p ^ m) (hy : y < p ^ m) : vcg p (dv p (JN p m x y)) (JW (dv p x) (dv p y)) := Jh5 hp ((Yj hx).add (Yj hy))
theorem Jta (hp : 0 < p) {x : Nat} (hx : x < p ^ m) : vcg p (dv p (Yp p m x)) (vsm (-1) (dv p x)) := Jh5 hp (Yj hx).sm
theorem Jom {a b : Vec} (ha : Sup m a) : Sup m (Yi m c a b) := Sup.opr ha m
theorem Jaz (hp : 0 < p) {x y : Nat} (hx : x < p ^ m) : vcg p (dv p (Jr p m c x y)) (Yi m c (dv p x) (dv p y)) := Jh5 hp (Jom (Yj hx))
theorem Jnk (x y : Nat) : JN p m x y = JN p m y x := by unfold JN; rw [Jef]
theorem Jj0 (hp : 0 < p) {x y z : Nat} (hx : x < p ^ m) (hy : y < p ^ m) (hz : z < p ^ m) : JN p m (JN p m x y) z = JN p m x (JN p m y z) := by
 show nm p m (JW (dv p (JN p m x y)) (dv p z)) = nm p m (JW (dv p x) (dv p (JN p m y z))); rw [Y9 ((Jf0 hp hx hy).add (vcg.refl _)), Y9 ((vcg.refl (p := p) (dv p x)).add (Jf0 hp hy hz)), Jcy]
theorem Jdp (p : Nat) : dv p 0 = vz := by funext i; simp [dv, vz]
theorem Jnj (hp : 0 < p) {x : Nat} (hx : x < p ^ m) : JN p m x 0 = x := by unfold JN; rw [Jdp, Jcx, Z1 hp hx]
theorem Zx (hp : 0 < p) {x : Nat} (hx : x < p ^ m) : JN p m x (Yp p m x) = 0 := by
 show nm p m (JW (dv p x) (dv p (Yp p m x))) = 0; rw [Y9 ((vcg.refl (p := p) (dv p x)).add (Jta hp hx))]; have : JW (dv p x) (vsm (-1) (dv p x)) = vz := by funext i; simp only [JW, vsm, vz]; omega
 rw [this, <- Jdp p, Z1 hp (by exact Nat.pow_pos hp)]
theorem Jep {x y : Nat} (hx : x < p ^ m) (hy : y < p ^ m) : Jr p m c x y = Jr p m c y x := by
 unfold Jr; rw [ZD (Yj hx) (Yj hy)]
theorem Jjy (hp : 0 < p) {x y z : Nat} (hx : x < p ^ m) (hy : y < p ^ m) (hz : z < p ^ m) : Jr p m c (Jr p m c x y) z = Jr p m c x (Jr p m c y z) := by
 show nm p m (Yi m c (dv p (Jr p m c x y)) (dv p z)) = nm p m (Yi m c (dv p x) (dv p (Jr p m c y z))); rw [Y9 (vcg.mul (vcg.refl c) (Jaz hp hx) (vcg.refl _)), Y9 (vcg.mul (vcg.refl c) (vcg.refl (dv p x)) (Jaz hp hy)), Jis (Yj hx) (Yj hy) (Yj hz)]
theorem Jfz (hp : 2 <= p) : dv p 1 = e0 := by
 funext i; cases i with
 | zero => rw [YF, Nat.mod_eq_of_lt (by omega)]; rfl
 | succ i =>
  have : (1 : Nat) / p ^ (i + 1) = 0 := Nat.div_eq_of_lt (Nat.one_lt_pow (by omega) (by omega)); simp [dv, this, e0]
theorem Jdl (hp : 2 <= p) (hm : 0 < m) {x : Nat} (hx : x < p ^ m) : Jr p m c x 1 = x := by
 unfold Jr; rw [Jfz hp, Jon hm, Z1 (by omega) hx]
theorem Jng (hp : 0 < p) {x : Nat} (hx : x < p ^ m) : Jr p m c x 0 = 0 := by
 rw [Jep hx (Nat.pow_pos hp)]; unfold Jr; rw [Jdp]; have : Yi m c vz (dv p x) = vz := opr_z ..; rw [this, <- Jdp p, Z1 hp (Nat.pow_pos hp)]
theorem Jp8 (hp : 0 < p) {x y z : Nat} (hx : x < p ^ m) (hy : y < p ^ m) (hz : z < p ^ m) : Jr p m c x (JN p m y z) = JN p m (Jr p m c x y) (Jr p m c x z) := by
 show nm p m (Yi m c (dv p x) (dv p (JN p m y z))) = nm p m (JW (dv p (Jr p m c x y)) (dv p (Jr p m c x z))); rw [Y9 (vcg.mul (vcg.refl c) (vcg.refl (dv p x)) (Jf0 hp hy hz)), Y9 ((Jaz (c := c) hp hx).add (Jaz hp hx)), Joo]
end
structure CR (q : Nat) (A M : Nat -> Nat -> Nat) : Prop where
  q2 : 2 <= q
  Al : ∀ x y, A x y < q
  Ml : ∀ x y, M x y < q
  Ac : ∀ x y, A x y = A y x
  Aa : ∀ {x y z}, x < q -> y < q -> z < q -> A (A x y) z = A x (A y z)
  Az : ∀ {x}, x < q -> A x 0 = x
  An : ∀ {x}, x < q -> ∃ y, y < q /\ A x y = 0
  Mc : ∀ {x y}, x < q -> y < q -> M x y = M y x
  Ma : ∀ {x y z}, x < q -> y < q -> z < q -> M (M x y) z = M x (M y z)
  M1 : ∀ {x}, x < q -> M x 1 = x
  M0 : ∀ {x}, x < q -> M x 0 = 0
  Md : ∀ {x y z}, x < q -> y < q -> z < q -> M x (A y z) = A (M x y) (M x z)
theorem Jkr {p m : Nat} (c : Vec) (hp : 2 <= p) (hm : 0 < m) : CR (p ^ m) (JN p m) (Jr p m c) where
 q2 := Nat.le_trans hp (by have := Nat.pow_le_pow_right (n := p) (by omega) hm; simpa using this)
 Al := Jlv (by omega)
 Ml := Jfw (by omega)
 Ac := Jnk
 Aa := Jj0 (by omega)
 Az := Jnj (by omega)
 An := fun {x} hx => ⟨Yp p m x, Jck (by omega) x, Zx (by omega) hx⟩
 Mc := Jep
 Ma := Jjy (by omega)
 M1 := Jdl hp hm
 M0 := Jng (by omega)
 Md := Jp8 (by omega)
end Go.Proofs.Ytjgpkljepgcekaa
namespace Go.Proofs.Ytjgpkljepgcekaa
def pw (M : Nat -> Nat -> Nat) (g : Nat) : Nat -> Nat
  | 0 => 1
  | k + 1 => M (pw M g k) g
theorem php : ∀ (n : Nat) (f : Nat -> Nat), (∀ i, i < n + 1 -> f i < n) -> ∃ i j, i < j /\ j < n + 1 /\ f i = f j
 | 0, f, h => absurd (h 0 (by omega)) (by omega)
 | n + 1, f, h => by
  by_cases hc : ∃ i, i < n + 1 /\ f i = f (n + 1)
  .obtain ⟨i, hi, he⟩ := hc; exact ⟨i, n + 1, hi, by omega, he⟩
  .have hv := h (n + 1) (by omega); obtain ⟨i, j, hij, hj, he⟩ := php n (fun i => if f i = n then f (n + 1) else f i) (fun i hi => by
    have hne : f i ≠ f (n + 1) := fun e => hc ⟨i, hi, e⟩; have := h i (by omega); show (if f i = n then f (n + 1) else f i) < n; split
    .omega
    .omega)
   refine ⟨i, j, hij, by omega, ?_⟩; have hi1 : f i ≠ f (n + 1) := fun e => hc ⟨i, by omega, e⟩; have hj1 : f j ≠ f (n + 1) := fun e => hc ⟨j, by omega, e⟩; split at he <;> split at he <;> omega
theorem Jgq {n : Nat} {f : Nat -> Nat} (hb : ∀ i, i < n -> f i < n) (hi : ∀ i j, i < j -> j < n -> f i ≠ f j) {y : Nat} (hy : y < n) : ∃ i, i < n /\ f i = y := by
 obtain ⟨i, j, hij, hj, he⟩ := php n (fun i => if i < n then f i else y) (fun i _ => by
  show (if i < n then f i else y) < n; split
  .rename_i h; exact hb i h
  .exact hy)
 rcases Nat.lt_or_ge j n with h | h
 .rw [if_pos h, if_pos (show i < n by omega)] at he; exact absurd he (hi i j hij h)
 .rw [if_neg (show ¬ j < n by omega), if_pos (show i < n by omega)] at he; exact ⟨i, by omega, he⟩
section
variable {q : Nat} {A M : Nat -> Nat -> Nat} (R : CR q A M)
include R
namespace CR
theorem one_lt : 1 < q := R.q2
theorem pos : 0 < q := by have := R.q2; omega
theorem I1 {x : Nat} (hx : x < q) : M 1 x = x := by rw [R.Mc R.one_lt hx, R.M1 hx]
theorem Z0 {x : Nat} (hx : x < q) : M 0 x = 0 := by rw [R.Mc R.pos hx, R.M0 hx]
theorem zA {x : Nat} (hx : x < q) : A 0 x = x := by rw [R.Ac, R.Az hx]
theorem pw_lt (g : Nat) : ∀ k, pw M g k < q
 | 0 => R.one_lt
 | k + 1 => R.Ml _ _
theorem pw_one {g : Nat} (hg : g < q) : pw M g 1 = g := R.I1 hg
theorem pw_add {g : Nat} (hg : g < q) (i : Nat) : ∀ j, pw M g (i + j) = M (pw M g i) (pw M g j)
 | 0 => (R.M1 (R.pw_lt g i)).symm
 | j + 1 => by
  show M (pw M g (i + j)) g = M (pw M g i) (M (pw M g j) g); rw [pw_add hg i j, R.Ma (R.pw_lt g i) (R.pw_lt g j) hg]
theorem pw_pw {g : Nat} (hg : g < q) (i : Nat) : ∀ j, pw M (pw M g i) j = pw M g (i * j)
 | 0 => rfl
 | j + 1 => by
  show M (pw M (pw M g i) j) (pw M g i) = _; rw [pw_pw hg i j, <- R.pw_add hg]; rfl
theorem one_pw : ∀ j, pw M 1 j = 1
 | 0 => rfl
 | j + 1 => by show M (pw M 1 j) 1 = 1; rw [one_pw j, R.M1 R.one_lt]
theorem zero_pw {n : Nat} (h : 0 < n) : pw M 0 n = 0 := by
 cases n with
 | zero => omega
 | succ n => exact R.M0 (R.pw_lt 0 n)
end CR
end
structure Gn (q : Nat) (M : Nat -> Nat -> Nat) (g : Nat) : Prop where
  lt : g < q
  one : pw M g (q - 1) = 1
  no : ∀ k, 0 < k -> k < q - 1 -> pw M g k ≠ 1
namespace Gn
variable {q g : Nat} {A M : Nat -> Nat -> Nat}
theorem per (G : Gn q M g) (R : CR q A M) (i k : Nat) : pw M g (i + (q - 1) * k) = pw M g i := by
 rw [R.pw_add G.lt, <- R.pw_pw G.lt, G.one, R.one_pw, R.M1 (R.pw_lt g i)]
theorem ne0 (G : Gn q M g) (R : CR q A M) (k : Nat) : pw M g k ≠ 0 := fun h => by
 have h1 := G.per R 0 (k + 1); have hq := R.q2; rw [Nat.zero_add] at h1; have : (q - 1) * (k + 1) = k + ((q - 1) * (k + 1) - k) := by
  have : k + 1 <= (q - 1) * (k + 1) := Nat.le_mul_of_pos_left _ (by omega); omega
 rw [this, R.pw_add G.lt, h, R.Z0 (R.pw_lt g _)] at h1; exact absurd h1 (by show ¬ (0 : Nat) = 1; omega)
theorem inj (G : Gn q M g) (R : CR q A M) {i j : Nat} (hij : i < j) (hj : j < q - 1) : pw M g i ≠ pw M g j := fun h => by
 have e1 : M (pw M g i) (pw M g (q - 1 - i)) = 1 := by rw [<- R.pw_add G.lt, show i + (q - 1 - i) = q - 1 by omega, G.one]
 have e2 : M (pw M g j) (pw M g (q - 1 - i)) = pw M g (j - i) := by
  rw [<- R.pw_add G.lt, show j + (q - 1 - i) = (j - i) + (q - 1) * 1 by omega, G.per R]
 rw [h] at e1; exact G.no (j - i) (by omega) (by omega) (e2.symm.trans e1)
theorem surj (G : Gn q M g) (R : CR q A M) {x : Nat} (h0 : 0 < x) (hx : x < q) : ∃ k, k < q - 1 /\ pw M g k = x := by
 obtain ⟨i, hi, he⟩ := Jgq (n := q - 1) (f := fun k => pw M g k - 1) (fun i hi => by
  have := R.pw_lt g i; have := G.ne0 R i; show pw M g i - 1 < q - 1; omega) (fun i j hij hj he => by
  have h1 := G.ne0 R i; have h2 := G.ne0 R j; exact G.inj R hij hj (by omega)) (y := x - 1) (by omega)
 have := G.ne0 R i; exact ⟨i, hi, by omega⟩
open Classical in
noncomputable def lg (q : Nat) (M : Nat -> Nat -> Nat) (g x : Nat) : Nat := if h : ∃ k, k < q - 1 /\ pw M g k = x then Classical.choose h else 0
theorem xone (G : Gn q M g) (R : CR q A M) {x : Nat} (h0 : 0 < x) (hx : x < q) : pw M x (q - 1) = 1 := by
  obtain ⟨k, hk, rfl⟩ := G.surj R h0 hx
  rw [R.pw_pw G.lt, Nat.mul_comm, <- R.pw_pw G.lt, G.one, R.one_pw]
end Gn
end Go.Proofs.Ytjgpkljepgcekaa
namespace Go.Proofs.Ytjgpkljepgcekaa
structure IsLf (n d : Nat) : Prop where
  two : 2 <= d
  dvd : n % d = 0
  min : ∀ e, 2 <= e -> n % e = 0 -> d <= e
def Jqi : Nat -> Nat -> Nat
  | _, 0 => 1
  | 0, _ + 1 => 0
  | n + 1, k + 1 => Jqi n k + Jqi n (k + 1)
section
variable {q : Nat} {A M : Nat -> Nat -> Nat} (R : CR q A M)
include R
namespace CR
theorem Aac {a b c : Nat} (ha : a < q) (hb : b < q) (hc : c < q) : A (A a b) c = A (A a c) b := by
 rw [R.Aa ha hb hc, R.Ac b c, <- R.Aa ha hc hb]
theorem A4 {a b c d : Nat} (ha : a < q) (hb : b < q) (hc : c < q) (hd : d < q) : A (A a b) (A c d) = A (A a c) (A b d) := by
 rw [<- R.Aa (R.Al a b) hc hd, R.Aac ha hb hc, R.Aa (R.Al a c) hb hd]
end CR
end
end Go.Proofs.Ytjgpkljepgcekaa
