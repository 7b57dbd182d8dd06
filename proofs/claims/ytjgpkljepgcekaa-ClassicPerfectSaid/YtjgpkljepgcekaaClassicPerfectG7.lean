/- Contracts of functions of the program, and what they lean on: D34, D36, Xq, Cd, D33, D37, Dt, Fa, Fb, Fg, Fp, Fk, Fc, V1, V2, V3. -/
import Derived.Test.YtjgpkljepgcekaaClassicPerfectG6
import Derived.Lib.AppendZeros
set_option linter.unusedSimpArgs false
set_option linter.unusedVariables false
set_option maxRecDepth 4000
set_option maxHeartbeats 4000000
namespace Go.Proofs.Ytjgpkljepgcekaa
open Go.RowKit
def Jae (Pf : Int) (Mf : Int) (mf : LI) (r : Int) (Q : LL × Int -> Prop) : Prop :=
  Jb4 Pf Mf mf (fun r14 => ((r14 ≠ 0) -> (Q (([] : LL), (1 : Int)))) /\ (¬ (r14 ≠ 0) -> (((r < 1) -> (Q (([] : LL), (6 : Int)))) /\ (¬ (r < 1) -> (YG Pf Mf mf (fun r20 => ∃ (I30 : Int -> Int -> Int -> Prop) (μ31 : Int -> Int -> Int -> Nat), I30 0 (1 : Int) (0 : Int) /\ ∀ (z27 : Int) (z28 : Int) (z29 : Int), (I30 z27 z28 z29 -> (((z29 < r) -> ((I64 (z27 + z28)) /\ ((((64 : Int) < (z27 + z28)) -> (Q (([] : LL), (4 : Int)))) /\ (¬ ((64 : Int) < (z27 + z28)) -> ((I64 (z28 * r20)) /\ ((I64 (z29 + 1)) /\ (I30 (z27 + z28) (z28 * r20) (z29 + 1) /\ μ31 (z27 + z28) (z28 * r20) (z29 + 1) < μ31 z27 z28 z29))))))) /\ (¬ (z29 < r) -> (∃ (I57 : LL -> Int -> Prop) (μ58 : LL -> Int -> Nat), I57 ([] : LL) (1 : Int) /\ ∀ (x52 : LL) (z56 : Int), (I57 x52 z56 -> (((z56 < z28) -> (∃ J72 : LL -> Int -> Int -> Int -> Int -> Bool -> Bool -> Bool -> Prop, ((0 <= r /\ r * 8 <= 281474976710656 /\ r <= 281474976710656) /\ ((I64 (r - 1)) /\ (∃ (I87 : LI -> Int -> Int -> Prop) (μ88 : LI -> Int -> Int -> Nat), I87 (List.replicate r.toNat (0 : Int)) z56 (r - 1) /\ ∀ (x84 : LI) (z85 : Int) (z86 : Int), (I87 x84 z85 z86 -> ((((0 : Int) <= z86) -> ((r20 ≠ 0) /\ ((0 <= z86 /\ z86 < (r.toNat : Nat)) /\ ((r20 ≠ 0 /\ I64 (z85.tdiv r20)) /\ ((I64 (z86 - 1)) /\ (I87 (si x84 z86 (z85.tmod r20)) (z85.tdiv r20) (z86 - 1) /\ μ88 (si x84 z86 (z85.tmod r20)) (z85.tdiv r20) (z86 - 1) < μ88 x84 z85 z86)))))) /\ (¬ ((0 : Int) <= z86) -> ((I64 (r - 1)) /\ (∃ (I103 : Int -> Int -> Prop) (μ104 : Int -> Int -> Nat), I103 0 (r - 1) /\ ∀ (z101 : Int) (z102 : Int), (I103 z101 z102 -> ((((0 : Int) <= z102) -> (∃ J108 : Int -> Prop, ((0 <= z102 /\ z102 < (r.toNat : Nat)) /\ ((((gi x84 z102) ≠ (0 : Int)) -> ((0 <= z102 /\ z102 < (r.toNat : Nat)) /\ (J108 (gi x84 z102)))) /\ (¬ ((gi x84 z102) ≠ (0 : Int)) -> J108 z101))) /\ ∀ (z107 : Int), (J108 z107 -> ((I64 (z102 - 1)) /\ (I103 z107 (z102 - 1) /\ μ104 z107 (z102 - 1) < μ104 z101 z102))))) /\ (¬ ((0 : Int) <= z102) -> (((z101 = 1) -> ((((x52.length : Nat) + (1 : Nat) : Int) * 24 <= 140737488355328) /\ (J72 (x52 ++ [x84]) z85 z86 z101 z102 (decide ((0 : Int) <= z86)) (decide ((0 : Int) <= z102)) (decide (z101 = 1))))) /\ (¬ (z101 = 1) -> (J72 x52 z85 z86 z101 z102 (decide ((0 : Int) <= z86)) (decide ((0 : Int) <= z102)) (decide (z101 = 1)))))))))))))))) /\ ∀ (x61 : LL) (z65 : Int) (z66 : Int) (z67 : Int) (z68 : Int) (b69 : Bool) (b70 : Bool) (b71 : Bool), (J72 x61 z65 z66 z67 z68 b69 b70 b71 -> ((I64 (z56 + 1)) /\ (I57 x61 (z56 + 1) /\ μ58 x61 (z56 + 1) < μ58 x52 z56))))) /\ (¬ (z56 < z28) -> (Q (x52, (0 : Int))))))))))))))))
theorem Jku {w : World} {Q : LL × Int -> Prop} {Pf : Int} {Mf : Int} {mf : LI} {r : Int} {Bf : Nat} {Af : Option Addr} {nf kf : Nat} (hf : Rd Bf w 1 Af nf kf (is mf)) (hv : Jae Pf Mf mf r Q) :
   Calls Try.prog 14 #[.agg #[.int .i64 Pf, .int .i64 Mf, .slice Af nf kf], .int .i64 r] w <| Rt w fun v Qr => ∃ (r0 : LL) (r1 : Int) (A0 : Option Addr) (k0 : Nat) (hs0 : Hs), v = .tuple #[.slice A0 r0.length k0, .int .i64 r1] /\ Qr = [mx 22 3 A0 r0.length k0 hs0 r0] /\ Q (r0, r1) := by
 have hnf := hf.ilen; subst hnf; refine Jk <| Ji (vs := [.agg #[nI Pf, nI Mf, nS Af mf kf], nI r]) [4, 5] XF14 rfl rfl rfl rfl ?_; have hS := Jo w; unfold Jae at hv; refine Jc 2 <| JF (z := 3) (cs := [nI Pf, nI Mf, nS Af mf kf]) hS rfl rfl rfl rfl ?_; intro g11 w12 hS; refine Jb 3 <| Jc 3 <| JH 0 Qj Ql hS rfl ⟨rfl, rfl⟩ rfl <| SL.call hS (Joq (hS.ro hf) hv) XF46 rfl XN46 rfl rfl ?_; rintro _ _ w13 ⟨r14, rfl, rfl, hv⟩ hGw13 hS; have hS := hS.n0; refine Jb 2 <| Jh rfl (fun c15 => ?_) (fun c15 => ?_)
 .have hv := hv.1 (oT c15); refine Jc 5 <| W.ret ?_; have hS := hS.mxNil 22 3; have hm0 := hS.mxlen (i := 0) rfl; have hS := hS.relenMx (i := 0) rfl hm0.symm
  change St _ _ _ _ [_, _] at hS
  refine ⟨_, rfl, Fin.nil ?_⟩; exact ⟨_, hS.ext, (hS.pick [0] rfl).rows, JX (hS.pick [0] rfl).rows rfl, ⟨([] : LL), (1 : Int), none, 0, (fun _ => (none, 0)), (by (try unfold nS); first | (rw [show (Value.slice none 0 0) = Value.slice none (([] : LL)).length 0 from sm0 hm0.symm]; done) | (rw [show (Value.slice none 0 0) = Value.slice none (([] : LL)).length 0 from sm0 hm0.symm]; rfl)), rfl, hv⟩⟩
 have hv := hv.2 (oF c15); refine Jj <| Jc 6 <| Jh rfl (fun c17 => ?_) (fun c17 => ?_)
 .have hv := hv.1 (oT c17); refine Jc 5 <| W.ret ?_; have hS := hS.mxNil 22 3; have hm0 := hS.mxlen (i := 0) rfl; have hS := hS.relenMx (i := 0) rfl hm0.symm
  change St _ _ _ _ [_, _] at hS
  refine ⟨_, rfl, Fin.nil ?_⟩; exact ⟨_, hS.ext, (hS.pick [0] rfl).rows, JX (hS.pick [0] rfl).rows rfl, ⟨([] : LL), (6 : Int), none, 0, (fun _ => (none, 0)), (by (try unfold nS); first | (rw [show (Value.slice none 0 0) = Value.slice none (([] : LL)).length 0 from sm0 hm0.symm]; done) | (rw [show (Value.slice none 0 0) = Value.slice none (([] : LL)).length 0 from sm0 hm0.symm]; rfl)), rfl, hv⟩⟩
 have hv := hv.2 (oF c17); refine Jj <| Jc 2 <| JH 0 Qj Ql hS rfl ⟨rfl, rfl⟩ rfl <| SL.call hS (Z5 (hS.ro hf) hv) XF20 rfl XN20 rfl rfl ?_; rintro _ _ w19 ⟨r20, rfl, rfl, hv⟩ hGw19 hS; have hS := hS.n0; refine Jb 2 <| Jc 13 <| W.block ?_; obtain ⟨I30, μ31, hv, hk129⟩ := hv; refine JC (σ := Int × Int × Int) (fun q w1 => match q with | (z27, z28, z29) => I30 z27 z28 z29 /\ St TT w none w1 [.row 24 3 (nA g11) 1 1 [nI Pf, nI Mf, nS Af mf kf]]) (fun (z27, z28, z29) => [(1, nI r), (4, .slice none 0 0), (5, nI 0), (6, nI r20), (7, nI z27), (8, nI z28), (9, nI z29)]) (fun (z27, z28, z29) => μ31 z27 z28 z29) ((0 : Int), (1 : Int), (0 : Int)) ⟨hv, hS⟩ ⟨rfl, rfl, rfl, rfl, rfl, rfl, rfl, trivial⟩ ?_; rintro ⟨z27, z28, z29⟩ w32 ⟨hv, hS⟩; have hv := hk129 z27 z28 z29 hv; refine Jc 7 <| Jh rfl (fun c33 => ?_) (fun c33 => ?_)
 .have hv := hv.1 (oT c33); refine Jj <| Jy <| W.block <| Jc 4 ?_; obtain ⟨o34, hv⟩ := hv; refine WL.add (r := (z27 + z28)) rfl rfl (wr o34) rfl <| Jb 2 <| Jc 6 <| Jh rfl (fun c35 => ?_) (fun c35 => ?_)
  .have hv := hv.1 (oT c35); refine Jc 5 <| W.ret ?_; have hS := hS.mxNil 22 3; have hm0 := hS.mxlen (i := 0) rfl; have hS := hS.relenMx (i := 0) rfl hm0.symm
   change St _ _ _ _ [_, _] at hS
   refine ⟨_, rfl, Fin.nil ?_⟩; exact ⟨_, hS.ext, (hS.pick [0] rfl).rows, JX (hS.pick [0] rfl).rows rfl, ⟨([] : LL), (4 : Int), none, 0, (fun _ => (none, 0)), (by (try unfold nS); first | (rw [show (Value.slice none 0 0) = Value.slice none (([] : LL)).length 0 from sm0 hm0.symm]; done) | (rw [show (Value.slice none 0 0) = Value.slice none (([] : LL)).length 0 from sm0 hm0.symm]; rfl)), rfl, hv⟩⟩
  have hv := hv.2 (oF c35); refine Jj <| Jc 3 ?_; obtain ⟨o37, hv⟩ := hv; refine WL.mul (r := (z28 * r20)) rfl rfl (wr o37) rfl <| Jb 2 <| Jc 2 ?_; obtain ⟨o38, hv⟩ := hv; refine WL.add (r := (z29 + 1)) rfl rfl (wr o38) rfl <| Jb 2 ?_; exact ⟨((z27 + z28), (z28 * r20), (z29 + 1)), sp rfl, hv.2, rfl, hv.1, hS⟩
 have hv := hv.2 (oF c33); refine Jv <| Jc 2 <| J9 (vs := []) hS Js Jq rfl rfl rfl rfl (by simp [Value.oneCell']) rfl ?_; intro A39 w40 hS; have hS := Jtf (L := []) (eI := 3) [] [] (by simp [JD, Jo3]) (by simp [inr, Jo3]) hS
 change St _ _ _ _ [_, _] at hS
 refine Jb 2 <| Jc 5 <| W.block ?_; obtain ⟨I57, μ58, hv, hk128⟩ := hv; have hm0 : 0 = ([] : LL).length := (hS.mxlen (i := 0) rfl).symm; have hS := hS.relenMx (i := 0) rfl hm0
 change St _ _ _ _ [_, _] at hS
 refine JC (σ := LL × Int × Option Addr × Nat × Hs) (fun q w1 => match q with | (x52, z56, A53, k54, hs55) => I57 x52 z56 /\ St TT w none w1 [mx 22 3 A53 x52.length k54 hs55 x52, .row 24 3 (nA g11) 1 1 [nI Pf, nI Mf, nS Af mf kf]]) (fun (x52, z56, A53, k54, hs55) => [(1, nI r), (4, .slice none 0 0), (5, nI 0), (6, nI r20), (8, nI z28), (10, nS A53 x52 k54), (11, nI z56)]) (fun (x52, z56, A53, k54, hs55) => μ58 x52 z56) (([] : LL), (1 : Int), A39, 0, (Jo3 [])) ⟨hv, hS⟩ ⟨rfl, rfl, rfl, rfl, rfl, (sm (by first | rfl | assumption | omega)), rfl, trivial⟩ ?_; rintro ⟨x52, z56, A53, k54, hs55⟩ w59 ⟨hv, hS⟩; have hv := hk128 x52 z56 hv; refine Jc 7 <| Jh rfl (fun c60 => ?_) (fun c60 => ?_)
 .have hv := hv.1 (oT c60); refine Jj <| Jy ?_; obtain ⟨J72, hv, hk127⟩ := hv; refine Qt (σ := LL × Int × Int × Int × Int × Bool × Bool × Bool × Option Addr × Nat × Hs) (fun q w1 => match q with | (x61, z65, z66, z67, z68, b69, b70, b71, A62, k63, hs64) => J72 x61 z65 z66 z67 z68 b69 b70 b71 /\ St TT w none w1 [mx 22 3 A62 x61.length k63 hs64 x61, .row 24 3 (nA g11) 1 1 [nI Pf, nI Mf, nS Af mf kf]]) (fun (x61, z65, z66, z67, z68, b69, b70, b71, A62, k63, hs64) => [(1, nI r), (4, .slice none 0 0), (5, nI 0), (6, nI r20), (8, nI z28), (10, nS A62 x61 k63), (11, nI z56), (13, nI z65), (14, nI z66), (15, nI z67), (16, nI z68), (40, .bool (decide (z56 < z28))), (49, .bool b69), (64, .bool b70), (77, .bool b71)]) ?_ ?_
  .refine W.block ?_; refine Jc 3 ?_; obtain ⟨o73, hv⟩ := hv; refine Qy (J := r) hS Jn XE3 rfl rfl o73 (Q4 _) rfl ?_; intro A74 w75 hS; refine Jb 2 <| Jc 9 ?_; obtain ⟨o77, hv⟩ := hv; refine WL.sub (r := (r - 1)) rfl rfl (wr o77) rfl <| Jb 2 <| W.block ?_; obtain ⟨I87, μ88, hv, hk124⟩ := hv; refine JC (σ := LI × Int × Int) (fun q w1 => match q with | (x84, z85, z86) => I87 x84 z85 z86 /\ St TT w none w1 [.row 3 1 A74 r.toNat r.toNat (is x84), mx 22 3 A53 x52.length k54 hs55 x52, .row 24 3 (nA g11) 1 1 [nI Pf, nI Mf, nS Af mf kf]]) (fun (x84, z85, z86) => [(1, nI r), (4, .slice none 0 0), (5, nI 0), (6, nI r20), (8, nI z28), (10, nS A53 x52 k54), (11, nI z56), (12, .slice A74 r.toNat r.toNat), (13, nI z85), (14, nI z86), (40, .bool (decide (z56 < z28)))]) (fun (x84, z85, z86) => μ88 x84 z85 z86) (List.replicate r.toNat (0 : Int), z56, (r - 1)) ⟨hv, hS⟩ ⟨rfl, rfl, rfl, rfl, rfl, rfl, rfl, rfl, rfl, rfl, rfl, trivial⟩ ?_; rintro ⟨x84, z85, z86⟩ w89 ⟨hv, hS⟩; have hv := hk124 x84 z85 z86 hv; refine Jc 6 <| Jh rfl (fun c90 => ?_) (fun c90 => ?_)
   .have hv := hv.1 (oT c90); refine Jj <| Jy <| W.block <| Jc 6 ?_; obtain ⟨o91, hv⟩ := hv; refine Yu (r := (z85.tmod r20)) rfl rfl o91 rfl rfl ?_; obtain ⟨o92, hv⟩ := hv; refine Je Jn XE3 (hS.rd (i := 0) rfl) rfl rfl o92 rfl <| Jw (cs' := is (si x84 z86 (z85.tmod r20))) 0 z86.toNat hS rfl XE3 rfl rfl rfl (QN (hS.rd (i := 0) rfl) o92) (Qq _ _ _) ?_; intro w93 hS; refine Ja <| Jc 3 ?_; obtain ⟨o94, hv⟩ := hv; refine Jew (r := (z85.tdiv r20)) rfl rfl o94.1 (wr o94.2) rfl <| Jb 2 <| Jc 2 ?_; obtain ⟨o95, hv⟩ := hv; refine WL.sub (r := (z86 - 1)) rfl rfl (wr o95) rfl <| Jb 2 ?_; exact ⟨(si x84 z86 (z85.tmod r20), (z85.tdiv r20), (z86 - 1)), sp rfl, hv.2, rfl, hv.1, hS⟩
   have hv := hv.2 (oF c90); refine Jv <| Jc 8 ?_; obtain ⟨o96, hv⟩ := hv; refine WL.sub (r := (r - 1)) rfl rfl (wr o96) rfl <| Jb 2 <| W.block ?_; obtain ⟨I103, μ104, hv, hk123⟩ := hv; refine JC (σ := Int × Int) (fun q w1 => match q with | (z101, z102) => I103 z101 z102 /\ St TT w none w1 [.row 3 1 A74 r.toNat r.toNat (is x84), mx 22 3 A53 x52.length k54 hs55 x52, .row 24 3 (nA g11) 1 1 [nI Pf, nI Mf, nS Af mf kf]]) (fun (z101, z102) => [(1, nI r), (4, .slice none 0 0), (5, nI 0), (6, nI r20), (8, nI z28), (10, nS A53 x52 k54), (11, nI z56), (12, .slice A74 r.toNat r.toNat), (13, nI z85), (14, nI z86), (15, nI z101), (16, nI z102), (40, .bool (decide (z56 < z28))), (49, .bool (decide ((0 : Int) <= z86)))]) (fun (z101, z102) => μ104 z101 z102) ((0 : Int), (r - 1)) ⟨hv, hS⟩ ⟨rfl, rfl, rfl, rfl, rfl, rfl, rfl, rfl, rfl, rfl, rfl, rfl, rfl, rfl, trivial⟩ ?_; rintro ⟨z101, z102⟩ w105 ⟨hv, hS⟩; have hv := hk123 z101 z102 hv; refine Jc 6 <| Jh rfl (fun c106 => ?_) (fun c106 => ?_)
   .have hv := hv.1 (oT c106); refine Jj <| Jy ?_; obtain ⟨J108, hv, hk114⟩ := hv; refine Qt (σ := Int) (fun z107 w1 => J108 z107 /\ St TT w none w1 [.row 3 1 A74 r.toNat r.toNat (is x84), mx 22 3 A53 x52.length k54 hs55 x52, .row 24 3 (nA g11) 1 1 [nI Pf, nI Mf, nS Af mf kf]]) (fun z107 => [(1, nI r), (4, .slice none 0 0), (5, nI 0), (6, nI r20), (8, nI z28), (10, nS A53 x52 k54), (11, nI z56), (12, .slice A74 r.toNat r.toNat), (13, nI z85), (14, nI z86), (15, nI z107), (16, nI z102), (40, .bool (decide (z56 < z28))), (49, .bool (decide ((0 : Int) <= z86))), (64, .bool (decide ((0 : Int) <= z102))), (71, .bool (decide ((gi x84 z102) ≠ (0 : Int))))]) ?_ ?_
    .refine W.block ?_; refine Jc 4 ?_; obtain ⟨o109, hv⟩ := hv; refine Je Jn XE3 (hS.rd (i := 0) rfl) rfl rfl o109 rfl <| Jl XU3 rfl rfl (JM (hS.rd (i := 0) rfl) o109) rfl <| Jb 2 <| Jh rfl (fun c110 => ?_) (fun c110 => ?_)
     .have hv := hv.1 (oT c110); refine Jc 3 ?_; obtain ⟨o111, hv⟩ := hv; refine Je Jn XE3 (hS.rd (i := 0) rfl) rfl rfl o111 rfl <| Jl XU3 rfl rfl (JM (hS.rd (i := 0) rfl) o111) rfl <| Jb 2 ?_; exact ⟨(gi x84 z102), sp rfl, rfl, hv, hS⟩
     have hv := hv.2 (oF c110); refine Jj ?_; exact ⟨z101, sp rfl, rfl, hv, hS⟩
    rintro z107 w112 ⟨hv, hS⟩; have hv := hk114 z107 hv; refine Jc 2 ?_; obtain ⟨o113, hv⟩ := hv; refine WL.sub (r := (z102 - 1)) rfl rfl (wr o113) rfl <| Jb 2 ?_; exact ⟨(z107, (z102 - 1)), sp rfl, hv.2, rfl, hv.1, hS⟩
   have hv := hv.2 (oF c106); refine Jv <| Jc 5 <| Jh rfl (fun c115 => ?_) (fun c115 => ?_)
   .have hv := hv.1 (oT c115); refine Jc 3 <| J9 (vs := [.slice A74 r.toNat r.toNat]) hS Js Jq rfl rfl rfl rfl (by simp [Value.oneCell']) rfl ?_; intro A116 w117 hS; obtain ⟨o119, hv⟩ := hv; have hS := hS.pick [2, 0, 1, 3] rfl; have hS := hS.pick [1, 2, 0, 3] rfl; have hS := QH (hS.rd (i := 1) rfl).ilen.symm hS
    change St _ _ _ _ [_, _, _] at hS
    refine Qg hS Js Jq rfl rfl (apk o119).1 (apk o119).2 rfl ?_; intro A120 k121 w122 hS; refine Jb 2 ?_; exact ⟨(x52 ++ [x84], z85, z86, z101, z102, (decide ((0 : Int) <= z86)), (decide ((0 : Int) <= z102)), (decide (z101 = 1)), A120, k121, (YW x52.length hs55 (fun _ => (A74, r.toNat)))), sp rfl, rfl, hv, hS⟩
   have hv := hv.2 (oF c115); refine Jj ?_; have hS := hS.pick [1, 2] rfl; exact ⟨(x52, z85, z86, z101, z102, (decide ((0 : Int) <= z86)), (decide ((0 : Int) <= z102)), (decide (z101 = 1)), A53, k54, hs55), sp rfl, rfl, hv, hS⟩
  rintro ⟨x61, z65, z66, z67, z68, b69, b70, b71, A62, k63, hs64⟩ w125 ⟨hv, hS⟩; have hv := hk127 x61 z65 z66 z67 z68 b69 b70 b71 hv; refine Jc 2 ?_; obtain ⟨o126, hv⟩ := hv; refine WL.add (r := (z56 + 1)) rfl rfl (wr o126) rfl <| Jb 2 ?_; exact ⟨(x61, (z56 + 1), A62, k63, hs64), sp rfl, hv.2, rfl, hv.1, hS⟩
 have hv := hv.2 (oF c60); refine Jv <| Jc 6 <| W.ret <| ⟨_, rfl, Fin.nil ?_⟩
 exact (hS.pick [0] rfl).fin rfl ⟨x52, (0 : Int), A53, k54, hs55, rfl, rfl, hv⟩
end Go.Proofs.Ytjgpkljepgcekaa
namespace Go.Proofs.Ytjgpkljepgcekaa
open Go.RowKit
def Jbc (Pf : Int) (Mf : Int) (mf : LI) (r : Int) (y : LI) (Q : Bool -> Prop) : Prop :=
  Jaj  (fun r14 => (((!r14) = true) -> Q false) /\ ((!r14) = false -> (Jam Pf Mf mf r (fun (r17, r18, x19, c20, x21, r22) => Jae Pf Mf mf r (fun (x34, r35) => ((r35 ≠ 0) -> (Q (decide (r22 = r35)))) /\ (¬ (r35 ≠ 0) -> (((r22 ≠ 0) -> Q false) /\ (¬ (r22 ≠ 0) -> ((((21 : Int) < c20) -> Q true) /\ (¬ ((21 : Int) < c20) -> (Jey Pf Mf mf y c20 (fun r44 => ((r44 ≠ 0) -> Q true) /\ (¬ (r44 ≠ 0) -> (Jba r17 r18 x19 c20 x21 y (fun (r47, r48) => ((r48 ≠ 0) -> Q false) /\ (¬ (r48 ≠ 0) -> (∃ J51 : Int -> Prop, (((r47 = true) -> (J51 1)) /\ (r47 = false -> (J51 0))) /\ ∀ (z50 : Int), (J51 z50 -> ((((0 : Nat) + (y.length : Nat) : Int) * 8 <= 140737488355328) /\ (∃ (I70 : LI -> Int -> Int -> Prop) (μ71 : LI -> Int -> Int -> Nat), I70 (([] : LI) ++ y) z50 0 /\ ∀ (x67 : LI) (z68 : Int) (z69 : Int), (I70 x67 z68 z69 -> (((z69 < c20) -> (∃ (I83 : LI -> Int -> Int -> Prop) (μ84 : LI -> Int -> Int -> Nat), I83 x67 z68 0 /\ ∀ (x80 : LI) (z81 : Int) (z82 : Int), (I83 x80 z81 z82 -> (YG Pf Mf mf (fun r87 => ((z82 < r87) -> (∃ J91 : LI -> Int -> Prop, ((0 <= z69 /\ z69 < (y.length : Nat)) /\ (((z82 = (gi y z69)) -> J91 x80 z81) /\ (¬ (z82 = (gi y z69)) -> ((0 <= z69 /\ z69 < ((([] : LI) ++ y).length : Nat)) /\ (Jba r17 r18 x19 c20 x21 (si x80 z69 z82) (fun (r97, r98) => ((r98 ≠ 0) -> Q false) /\ (¬ (r98 ≠ 0) -> (((r97 = true) -> ((I64 (z81 + 1)) /\ (J91 (si x80 z69 z82) (z81 + 1)))) /\ (r97 = false -> (J91 (si x80 z69 z82) z81)))))))))) /\ ∀ (x89 : LI) (z90 : Int), (J91 x89 z90 -> ((I64 (z82 + 1)) /\ (I83 x89 z90 (z82 + 1) /\ μ84 x89 z90 (z82 + 1) < μ84 x80 z81 z82))))) /\ (¬ (z82 < r87) -> ((0 <= z69 /\ z69 < (y.length : Nat)) /\ ((0 <= z69 /\ z69 < ((([] : LI) ++ y).length : Nat)) /\ ((I64 (z69 + 1)) /\ (I70 (si x80 z69 (gi y z69)) z81 (z69 + 1) /\ μ71 (si x80 z69 (gi y z69)) z81 (z69 + 1) < μ71 x67 z68 z69)))))))))) /\ (¬ (z69 < c20) -> (Q (decide (z68 = 1))))))))))))))))))))))))))
theorem Jip {w : World} {Q : Bool -> Prop} {Pf : Int} {Mf : Int} {mf : LI} {r : Int} {y : LI} {Bf : Nat} {Af : Option Addr} {nf kf : Nat} (hf : Rd Bf w 1 Af nf kf (is mf)) {By : Nat} {Ay : Option Addr} {ny ky : Nat} (hy : Rd By w 1 Ay ny ky (is y)) (hv : Jbc Pf Mf mf r y Q) :
   Calls Try.prog 4 #[.agg #[.int .i64 Pf, .int .i64 Mf, .slice Af nf kf], .int .i64 r, .slice Ay ny ky] w <| Rt w fun v Qr => ∃ (r0 : Bool), v = .bool r0 /\ Qr = [] /\ Q r0 := by
 have hnf := hf.ilen; subst hnf; have hny := hy.ilen; subst hny; refine Jk <| Ji (vs := [.agg #[nI Pf, nI Mf, nS Af mf kf], nI r, nS Ay y ky]) [6] XF4 rfl rfl rfl rfl ?_; have hS := Jo w; unfold Jbc at hv; refine Jc 2 <| JF (z := 3) (cs := [nI Pf, nI Mf, nS Af mf kf]) hS rfl rfl rfl rfl ?_; intro g11 w12 hS; refine Jb 2 <| Jc 3 <| SL.call hS (Jk0  hv) XF16 rfl XN16 rfl rfl ?_; rintro _ _ w13 ⟨r14, rfl, rfl, hv⟩ hGw13 hS; have hS := hS.n0; refine Jb 2 <| Jh rfl (fun c15 => ?_) (fun c15 => ?_)
 .have hv := hv.1 (c15); refine Jc 4 <| W.ret <| ⟨_, rfl, Fin.nil ?_⟩
  exact (hS.pick [] rfl).fin rfl ⟨false, rfl, rfl, hv⟩
 have hv := hv.2 (c15); refine Jj <| Jc 2 <| JH 0 Qj Ql hS rfl ⟨rfl, rfl⟩ rfl <| Jp rfl rfl <| SL.call hS (Jk3 (hS.ro hf) hv) XF17 rfl XN17 rfl rfl ?_; rintro _ _ w16 ⟨r17, r18, x19, c20, x21, r22, A23, k24, A26, k27, hs28, rfl, rfl, hv⟩ hGw16 hS; have hS := hS.n2; refine Jb 3 <| SL.alloc (cs := [nI 0, nI 0, .slice none 0 0, nI 0, .slice none 0 0]) hS Qs rfl rfl ?_; intro g30 w31 hS; refine JA (cs := [nI r17, nI r18, nS A23 x19 k24, nI c20, nS A26 x21 k27]) 0 hS rfl Qs rfl rfl rfl rfl rfl ?_; intro w32 hS; refine Jb 2 <| Jc 2 <| JH 3 Qj Ql hS rfl ⟨rfl, rfl⟩ rfl <| Jp rfl rfl <| SL.call hS (Jku (hS.ro hf) hv) XF14 rfl XN14 rfl rfl ?_; rintro _ _ w33 ⟨x34, r35, A36, k37, hs38, rfl, rfl, hv⟩ hGw33 hS; have hS := hS.n1; refine Jb 6 <| Jc 6 <| Jh rfl (fun c40 => ?_) (fun c40 => ?_)
 .have hv := hv.1 (oT c40); refine Jc 7 <| W.ret <| ⟨_, rfl, Fin.nil ?_⟩
  exact (hS.pick [] rfl).fin rfl ⟨(decide (r22 = r35)), rfl, rfl, hv⟩
 have hv := hv.2 (oF c40); refine Jj <| Jc 6 <| Jh rfl (fun c41 => ?_) (fun c41 => ?_)
 .have hv := hv.1 (oT c41); refine Jc 4 <| W.ret <| ⟨_, rfl, Fin.nil ?_⟩
  exact (hS.pick [] rfl).fin rfl ⟨false, rfl, rfl, hv⟩
 have hv := hv.2 (oF c41); refine Jj <| Jc 3 <| Jd (off := 3) Jct rfl rfl <| Jm 1 3 XU3 hS rfl rfl rfl ⟨rfl, rfl⟩ <| Jhh rfl rfl rfl <| Jp rfl rfl ?_; by_cases g42 : (21 : Int) < c20
 .have hv := hv.1 g42; rw [decide_eq_true g42]; refine Jb 8 <| Qm rfl <| Jc 4 <| W.ret <| ⟨_, rfl, Fin.nil ?_⟩
  exact (hS.pick [] rfl).fin rfl ⟨true, rfl, rfl, hv⟩
 have hv := hv.2 g42; rw [decide_eq_false g42]; refine WL.take rfl <| JH 4 Qj Ql hS rfl ⟨rfl, rfl⟩ rfl <| Jb 3 <| Jd (off := 3) Jct rfl rfl <| WL.take rfl <| Jm 1 3 XU3 hS rfl rfl rfl ⟨rfl, rfl⟩ <| WL.take rfl <| SL.call hS (Jop (hS.ro hf) (hS.ro hy) hv) XF18 rfl XN18 rfl rfl ?_; rintro _ _ w43 ⟨r44, rfl, rfl, hv⟩ hGw43 hS; have hS := hS.n0; refine Jb 4 <| Jh rfl (fun c45 => ?_) (fun c45 => ?_)
 .have hv := hv.1 (oT c45); refine Jc 4 <| W.ret <| ⟨_, rfl, Fin.nil ?_⟩
  exact (hS.pick [] rfl).fin rfl ⟨true, rfl, rfl, hv⟩
 have hv := hv.2 (oF c45); refine Jj <| Jc 6 <| JH 1 Qs YK hS rfl ⟨rfl, rfl⟩ rfl <| Jp rfl rfl <| SL.call hS (Jm2 (hS.rd (i := 2) rfl) (hS.rl (i := 3) rfl) (hS.ro hy) hv) XF19 rfl XN19 rfl rfl ?_; rintro _ _ w46 ⟨r47, r48, rfl, rfl, hv⟩ hGw46 hS; have hS := hS.n0; refine Jb 6 <| Jc 6 <| Jh rfl (fun c49 => ?_) (fun c49 => ?_)
 .have hv := hv.1 (oT c49); refine Jc 4 <| W.ret <| ⟨_, rfl, Fin.nil ?_⟩
  exact (hS.pick [] rfl).fin rfl ⟨false, rfl, rfl, hv⟩
 have hv := hv.2 (oF c49); refine Jj <| Jc 5 ?_; obtain ⟨J51, hv, hk111⟩ := hv; refine Qt (σ := Int) (fun z50 w1 => J51 z50 /\ St TT w none w1 [mx 22 3 A36 x34.length k37 hs38 x34, .row 33 5 (nA g30) 1 1 [nI r17, nI r18, nS A23 x19 k24, nI c20, nS A26 x21 k27], nR 3 A23 x19 k24, mx 22 3 A26 x21.length k27 hs28 x21, .row 24 3 (nA g11) 1 1 [nI Pf, nI Mf, nS Af mf kf]]) (fun z50 => [(2, nS Ay y ky), (3, nP g11), (6, .bool false), (7, nP g30), (11, nI z50)]) ?_ ?_
 .refine Jh rfl (fun c52 => ?_) (fun c52 => ?_)
  .have hv := hv.1 (c52); refine Jc 2 <| WL.add (r := (1 : Int)) rfl rfl (by decide) rfl <| Jb 2 ?_; exact ⟨(1 : Int), sp rfl, rfl, hv, hS⟩
  have hv := hv.2 (c52); refine Jj ?_; exact ⟨(0 : Int), sp rfl, rfl, hv, hS⟩
 rintro z50 w53 ⟨hv, hS⟩; have hv := hk111 z50 hv; refine Jc 2 <| J9 (vs := is ([] : LI)) hS Jn XE3 rfl rfl rfl rfl (JK _) rfl ?_; intro A54 w55 hS; refine Jp rfl rfl ?_; obtain ⟨o57, hv⟩ := hv; refine SL.append (cs := is ([] : LI)) (cs' := is y) 0 ((([] : LI) ++ y).length) (is (([] : LI) ++ y)) hS rfl Jn XE3 (hS.ro hy) (JK _) rfl rfl (apk o57).1 (apk o57).2 (Qa (hS.rd (i := 0) rfl) (hS.ro hy)) (JB _ _) rfl ?_; intro A58 k59 w60 hS; refine Jb 2 <| Jc 5 <| W.block ?_; obtain ⟨I70, μ71, hv, hk110⟩ := hv; refine JC (σ := LI × Int × Int) (fun q w1 => match q with | (x67, z68, z69) => I70 x67 z68 z69 /\ St TT w none w1 [.row 3 1 A58 ((([] : LI) ++ y).length) k59 (is x67), mx 22 3 A36 x34.length k37 hs38 x34, .row 33 5 (nA g30) 1 1 [nI r17, nI r18, nS A23 x19 k24, nI c20, nS A26 x21 k27], nR 3 A23 x19 k24, mx 22 3 A26 x21.length k27 hs28 x21, .row 24 3 (nA g11) 1 1 [nI Pf, nI Mf, nS Af mf kf]]) (fun (x67, z68, z69) => [(2, nS Ay y ky), (3, nP g11), (6, .bool false), (7, nP g30), (11, nI z68), (14, .slice A58 ((([] : LI) ++ y).length) k59), (15, nI z69)]) (fun (x67, z68, z69) => μ71 x67 z68 z69) (([] : LI) ++ y, z50, (0 : Int)) ⟨hv, hS⟩ ⟨rfl, rfl, rfl, rfl, rfl, rfl, rfl, trivial⟩ ?_; rintro ⟨x67, z68, z69⟩ w72 ⟨hv, hS⟩; have hv := hk110 x67 z68 z69 hv; refine Jc 4 <| Jd (off := 3) Jct rfl rfl <| Jm 2 3 XU3 hS rfl rfl rfl ⟨rfl, rfl⟩ <| Jb 2 <| Jh rfl (fun c73 => ?_) (fun c73 => ?_)
 .have hv := hv.1 (oT c73); refine Jj <| Jy <| W.block <| Jc 5 <| W.block ?_; obtain ⟨I83, μ84, hv, hk109⟩ := hv; refine JC (σ := LI × Int × Int) (fun q w1 => match q with | (x80, z81, z82) => I83 x80 z81 z82 /\ St TT w none w1 [.row 3 1 A58 ((([] : LI) ++ y).length) k59 (is x80), mx 22 3 A36 x34.length k37 hs38 x34, .row 33 5 (nA g30) 1 1 [nI r17, nI r18, nS A23 x19 k24, nI c20, nS A26 x21 k27], nR 3 A23 x19 k24, mx 22 3 A26 x21.length k27 hs28 x21, .row 24 3 (nA g11) 1 1 [nI Pf, nI Mf, nS Af mf kf]]) (fun (x80, z81, z82) => [(2, nS Ay y ky), (3, nP g11), (6, .bool false), (7, nP g30), (11, nI z81), (14, .slice A58 ((([] : LI) ++ y).length) k59), (15, nI z69), (16, nI z82), (68, .bool (decide (z69 < c20)))]) (fun (x80, z81, z82) => μ84 x80 z81 z82) (x67, z68, (0 : Int)) ⟨hv, hS⟩ ⟨rfl, rfl, rfl, rfl, rfl, rfl, rfl, rfl, rfl, trivial⟩ ?_; rintro ⟨x80, z81, z82⟩ w85 ⟨hv, hS⟩; have hv := hk109 x80 z81 z82 hv; refine Jc 4 <| JH 5 Qj Ql hS rfl ⟨rfl, rfl⟩ rfl <| SL.call hS (Z5 (hS.ro hf) hv) XF20 rfl XN20 rfl rfl ?_; rintro _ _ w86 ⟨r87, rfl, rfl, hv⟩ hGw86 hS; have hS := hS.n0; refine Jb 2 <| Jh rfl (fun c88 => ?_) (fun c88 => ?_)
  .have hv := hv.1 (oT c88); refine Jj <| Jy ?_; obtain ⟨J91, hv, hk104⟩ := hv; refine Qt (σ := LI × Int) (fun q w1 => match q with | (x89, z90) => J91 x89 z90 /\ St TT w none w1 [.row 3 1 A58 ((([] : LI) ++ y).length) k59 (is x89), mx 22 3 A36 x34.length k37 hs38 x34, .row 33 5 (nA g30) 1 1 [nI r17, nI r18, nS A23 x19 k24, nI c20, nS A26 x21 k27], nR 3 A23 x19 k24, mx 22 3 A26 x21.length k27 hs28 x21, .row 24 3 (nA g11) 1 1 [nI Pf, nI Mf, nS Af mf kf]]) (fun (x89, z90) => [(2, nS Ay y ky), (3, nP g11), (6, .bool false), (7, nP g30), (11, nI z90), (14, .slice A58 ((([] : LI) ++ y).length) k59), (15, nI z69), (16, nI z82), (68, .bool (decide (z69 < c20))), (74, .bool (decide (z82 < r87))), (82, .bool (decide (z82 = (gi y z69))))]) ?_ ?_
   .refine W.block ?_; refine Jc 6 ?_; obtain ⟨o92, hv⟩ := hv; refine Je Jn XE3 (hS.ro hy) rfl rfl o92 rfl <| Jl XU3 rfl rfl (JM (hS.ro hy) o92) rfl <| Jb 2 <| Jh rfl (fun c93 => ?_) (fun c93 => ?_)
    .have hv := hv.1 (oT c93); refine Jv ?_; exact ⟨(x80, z81), sp rfl, rfl, hv, hS⟩
    have hv := hv.2 (oF c93); refine Jj <| Jc 5 ?_; obtain ⟨o94, hv⟩ := hv; refine Je Jn XE3 (hS.rd (i := 0) rfl) rfl rfl o94 rfl <| Jw (cs' := is (si x80 z69 z82)) 0 z69.toNat hS rfl XE3 rfl rfl rfl (QN (hS.rd (i := 0) rfl) o94) (Qq _ _ _) ?_; intro w95 hS; refine Ja <| Jc 2 <| JH 2 Qs YK hS rfl ⟨rfl, rfl⟩ rfl <| Jp rfl rfl <| SL.call hS (Jm2 (hS.rd (i := 3) rfl) (hS.rl (i := 4) rfl) (hS.rd (i := 0) rfl) hv) XF19 rfl XN19 rfl rfl ?_; rintro _ _ w96 ⟨r97, r98, rfl, rfl, hv⟩ hGw96 hS; have hS := hS.n0; refine Jb 6 <| Jc 6 <| Jh rfl (fun c99 => ?_) (fun c99 => ?_)
    .have hv := hv.1 (oT c99); refine Jc 4 <| W.ret <| ⟨_, rfl, Fin.nil ?_⟩
     exact (hS.pick [] rfl).fin rfl ⟨false, rfl, rfl, hv⟩
    have hv := hv.2 (oF c99); refine Jj <| Jc 4 <| Jh rfl (fun c100 => ?_) (fun c100 => ?_)
    .have hv := hv.1 (c100); refine Jc 2 ?_; obtain ⟨o101, hv⟩ := hv; refine WL.add (r := (z81 + 1)) rfl rfl (wr o101) rfl <| Jb 2 ?_; exact ⟨(si x80 z69 z82, (z81 + 1)), sp rfl, rfl, hv, hS⟩
    have hv := hv.2 (c100); refine Jj ?_; exact ⟨(si x80 z69 z82, z81), sp rfl, rfl, hv, hS⟩
   rintro ⟨x89, z90⟩ w102 ⟨hv, hS⟩; have hv := hk104 x89 z90 hv; refine Jc 2 ?_; obtain ⟨o103, hv⟩ := hv; refine WL.add (r := (z82 + 1)) rfl rfl (wr o103) rfl <| Jb 2 ?_; exact ⟨(x89, z90, (z82 + 1)), sp rfl, hv.2, rfl, hv.1, hS⟩
  have hv := hv.2 (oF c88); refine Jv <| Jc 5 ?_; obtain ⟨o105, hv⟩ := hv; refine Je Jn XE3 (hS.ro hy) rfl rfl o105 rfl <| Jl XU3 rfl rfl (JM (hS.ro hy) o105) rfl ?_; obtain ⟨o106, hv⟩ := hv; refine Je Jn XE3 (hS.rd (i := 0) rfl) rfl rfl o106 rfl <| Jw (cs' := is (si x80 z69 (gi y z69))) 0 z69.toNat hS rfl XE3 rfl rfl rfl (QN (hS.rd (i := 0) rfl) o106) (Qq _ _ _) ?_; intro w107 hS; refine Ja <| Jc 2 ?_; obtain ⟨o108, hv⟩ := hv; refine WL.add (r := (z69 + 1)) rfl rfl (wr o108) rfl <| Jb 2 ?_; exact ⟨(si x80 z69 (gi y z69), z81, (z69 + 1)), sp rfl, hv.2, rfl, hv.1, hS⟩
 have hv := hv.2 (oF c73); refine Jv <| Jc 6 <| W.ret <| ⟨_, rfl, Fin.nil ?_⟩
 exact (hS.pick [] rfl).fin rfl ⟨(decide (z68 = 1)), rfl, rfl, hv⟩
end Go.Proofs.Ytjgpkljepgcekaa
namespace Go.Proofs.Ytjgpkljepgcekaa
open Go.RowKit
/-! ### append of zeros onto nil; lists joined -/
section
variable {P : Program} {n : Nat} {ro : Option Nat} {df : List Deferred} {N : J6} {L : Fr} {w w0 : World} {ops : Array Oper} {rest : List Oper}
variable {d : Nat} {ty : TypeId} {pos : String} {af : Array Edge} {X : World -> Prop} {mr : Option Nat} {R : List Rw}
end
end Go.Proofs.Ytjgpkljepgcekaa
namespace Go.Proofs.Ytjgpkljepgcekaa
open Go.RowKit
end Go.Proofs.Ytjgpkljepgcekaa
namespace Go.Proofs.Ytjgpkljepgcekaa
open Go.RowKit
end Go.Proofs.Ytjgpkljepgcekaa
namespace Go.Proofs.Ytjgpkljepgcekaa
open Go.RowKit
end Go.Proofs.Ytjgpkljepgcekaa
namespace Go.Proofs.Ytjgpkljepgcekaa
abbrev Vec := Nat -> Int
def tX (m : Nat) (c : Vec) (v : Vec) : Vec := fun i => if i < m then (if i = 0 then 0 else v (i - 1)) - c i * v (m - 1) else 0
def J7 (u v : Vec) : Vec := fun i => u i + v i
def vsm (a : Int) (v : Vec) : Vec := fun i => a * v i
def vz : Vec := fun _ => 0
def e0 : Vec := fun i => if i = 0 then 1 else 0
def tXn (m : Nat) (c : Vec) : Nat -> Vec -> Vec
  | 0, v => v
  | n + 1, v => tX m c (tXn m c n v)
def opr (m : Nat) (c b : Vec) : Nat -> Vec -> Vec
  | 0, _ => vz
  | n + 1, v => J7 (opr m c b n v) (vsm (b n) (tXn m c n v))
def Yr (m : Nat) (c a b : Vec) : Vec := opr m c b m a
section
variable (m : Nat) (c : Vec)
theorem tX_add (u v : Vec) : tX m c (J7 u v) = J7 (tX m c u) (tX m c v) := by
 funext i; simp only [tX, J7]; split
 .split <;> grind
 .rfl
theorem tX_sm (a : Int) (v : Vec) : tX m c (vsm a v) = vsm a (tX m c v) := by
 funext i; simp only [tX, vsm]; split
 .split <;> grind
 .grind
theorem tX_z : tX m c vz = vz := by funext i; simp [tX, vz]
theorem Jds (u : Vec) : J7 u vz = u := by funext i; simp [J7, vz]
theorem z_vadd (u : Vec) : J7 vz u = u := by funext i; simp [J7, vz]
theorem Jfd (u v : Vec) : J7 u v = J7 v u := by funext i; simp only [J7]; omega
theorem Jdt (u v w : Vec) : J7 (J7 u v) w = J7 u (J7 v w) := by funext i; simp only [J7]; omega
theorem Jmd (a : Int) (u v : Vec) : vsm a (J7 u v) = J7 (vsm a u) (vsm a v) := by funext i; simp only [J7, vsm]; grind
theorem vsm_sm (a b : Int) (u : Vec) : vsm a (vsm b u) = vsm (a * b) u := by funext i; simp only [vsm]; grind
theorem vsm_z (a : Int) : vsm a vz = vz := by funext i; simp [vsm, vz]
theorem Jf9 (n : Nat) (u v : Vec) : tXn m c n (J7 u v) = J7 (tXn m c n u) (tXn m c n v) := by
 induction n with
 | zero => rfl
 | succ n ih => simp only [tXn, ih, tX_add]
theorem Jkh (n : Nat) (a : Int) (v : Vec) : tXn m c n (vsm a v) = vsm a (tXn m c n v) := by
 induction n with
 | zero => rfl
 | succ n ih => simp only [tXn, ih, tX_sm]
theorem Jqo (n : Nat) : tXn m c n vz = vz := by
 induction n with
 | zero => rfl
 | succ n ih => simp only [tXn, ih, tX_z]
theorem Jqp (n : Nat) (v : Vec) : tXn m c n (tX m c v) = tX m c (tXn m c n v) := by
 induction n with
 | zero => rfl
 | succ n ih => simp only [tXn, ih]
theorem Jtw (n k : Nat) (v : Vec) : tXn m c n (tXn m c k v) = tXn m c (n + k) v := by
 induction n with
 | zero => simp [tXn]
 | succ n ih => rw [Nat.succ_add]; simp only [tXn, ih]
variable (b : Vec)
theorem Jmz (n : Nat) (u v : Vec) : opr m c b n (J7 u v) = J7 (opr m c b n u) (opr m c b n v) := by
 induction n with
 | zero => simp [opr, Jds]
 | succ n ih => simp only [opr, ih, Jf9, Jmd]; funext i; simp only [J7]; omega
theorem Jks (n : Nat) (a : Int) (v : Vec) : opr m c b n (vsm a v) = vsm a (opr m c b n v) := by
 induction n with
 | zero => simp [opr, vsm_z]
 | succ n ih => simp only [opr, ih, Jkh, Jmd, vsm_sm]; rw [Int.mul_comm (b n) a]
theorem opr_z (n : Nat) : opr m c b n vz = vz := by
 induction n with
 | zero => rfl
 | succ n ih => simp only [opr, ih, Jqo, vsm_z, Jds]
theorem Jmy (n k : Nat) (v : Vec) : opr m c b n (tXn m c k v) = tXn m c k (opr m c b n v) := by
 induction n with
 | zero => simp [opr, Jqo]
 | succ n ih => simp only [opr, ih, Jf9, Jkh, Jtw]; rw [Nat.add_comm n k]
theorem Jid (d : Vec) (n k : Nat) (v : Vec) : opr m c b n (opr m c d k v) = opr m c d k (opr m c b n v) := by
 induction n with
 | zero => simp only [opr, opr_z]
 | succ n ih => simp only [opr, ih, Jmz, Jks, Jmy]
theorem Jrb (d : Vec) (n : Nat) (v : Vec) : opr m c (J7 b d) n v = J7 (opr m c b n v) (opr m c d n v) := by
 induction n with
 | zero => simp [opr, Jds]
 | succ n ih => simp only [opr, ih]; funext i; simp only [J7, vsm]; grind
end
def vei (k : Nat) : Vec := fun i => if i = k then 1 else 0
theorem Jqq {m : Nat} {c : Vec} : ∀ {k : Nat}, k < m -> tXn m c k e0 = vei k
 | 0, _ => rfl
 | k + 1, h => by
  have ih : tXn m c k e0 = vei k := Jqq (by omega); simp only [tXn, ih]; funext i; simp only [tX, vei]; split
  .rw [if_neg (show ¬ m - 1 = k by omega)]; by_cases h0 : i = 0
   .subst h0; simp
   .simp only [h0, if_false]; by_cases h1 : i = k + 1
    .subst h1; simp
    .rw [if_neg (by omega), if_neg h1]; simp
  .rw [if_neg (by omega)]
theorem Jrc {m : Nat} {c a : Vec} : ∀ {n : Nat}, n <= m -> ∀ i, opr m c a n e0 i = if i < n then a i else 0
  | 0, _, i => by simp [opr, vz]
  | n + 1, h, i => by
    simp only [opr, J7, vsm]
    rw [Jrc (n := n) (by omega) i, Jqq (by omega)]
    simp only [vei]
    by_cases h1 : i = n
    . subst h1; simp
    . by_cases h2 : i < n
      . simp [h2, h1, show i < n + 1 by omega]
      . simp [h2, h1, show ¬ i < n + 1 by omega]
def Sup (m : Nat) (v : Vec) : Prop := ∀ i, m <= i -> v i = 0
theorem ZG {m : Nat} {c a : Vec} (h : Sup m a) : opr m c a m e0 = a := by
 funext i; rw [Jrc (Nat.le_refl m)]; split
 .rfl
 .exact (h i (by omega)).symm
theorem Sup.z {m : Nat} : Sup m vz := fun _ _ => rfl
theorem Sup.tX {m : Nat} {c v : Vec} : Sup m (tX m c v) := fun i h => by simp [Go.Proofs.Ytjgpkljepgcekaa.tX, show ¬ i < m by omega]
theorem Sup.add {m : Nat} {u v : Vec} (hu : Sup m u) (hv : Sup m v) : Sup m (J7 u v) := fun i h => by simp [J7, hu i h, hv i h]
theorem Sup.sm {m : Nat} {a : Int} {v : Vec} (hv : Sup m v) : Sup m (vsm a v) := fun i h => by simp [vsm, hv i h]
theorem Sup.tXn {m : Nat} {c v : Vec} (hv : Sup m v) : ∀ n, Sup m (tXn m c n v)
 | 0 => hv
 | _ + 1 => Sup.tX
theorem Sup.opr {m : Nat} {c b v : Vec} (hv : Sup m v) : ∀ n, Sup m (opr m c b n v)
 | 0 => Sup.z
 | n + 1 => (Sup.opr hv n).add (hv.tXn n).sm
theorem Z1 {m : Nat} {c a b : Vec} (ha : Sup m a) (hb : Sup m b) : Yr m c a b = Yr m c b a := by
 unfold Yr
 calc opr m c b m a = opr m c b m (opr m c a m e0) := by rw [ZG ha]
  _ = opr m c a m (opr m c b m e0) := Jid ..
  _ = opr m c a m b := by rw [ZG hb]
theorem Jke {m : Nat} {c a b d : Vec} (ha : Sup m a) (hb : Sup m b) (hd : Sup m d) : Yr m c (Yr m c a b) d = Yr m c a (Yr m c b d) := by
 rw [Z1 (a := a) (b := Yr m c b d) ha (Sup.opr hb m)]; show opr m c d m (opr m c b m a) = opr m c a m (opr m c d m b); rw [<- Jid m c d a m m b]; show opr m c d m (Yr m c a b) = opr m c d m (Yr m c b a); rw [Z1 ha hb]
theorem Jqe {m : Nat} {c a b d : Vec} : Yr m c a (J7 b d) = J7 (Yr m c a b) (Yr m c a d) := Jrb ..
theorem Jqd {m : Nat} {c a : Vec} (hm : 0 < m) : Yr m c a e0 = a := by
 have key : ∀ n, 0 < n -> opr m c e0 n a = a := by
  intro n
  induction n with
  | zero => intro h; omega
  | succ n ih =>
   intro _; rcases Nat.eq_zero_or_pos n with h | h
   .subst h; funext i; simp [opr, e0, J7, vsm, vz, tXn]
   .simp only [opr, ih h]; funext i; simp [e0, J7, vsm, show n ≠ 0 by omega]
 exact key m hm
def vcg (p : Int) (u v : Vec) : Prop := ∀ i, u i % p = v i % p
section
variable {p : Int} {m : Nat} {c c' u u' v v' b b' : Vec}
theorem vcg.refl (u : Vec) : vcg p u u := fun _ => rfl
theorem vcg.symm (h : vcg p u v) : vcg p v u := fun i => (h i).symm
theorem vcg.trans {w : Vec} (h : vcg p u v) (k : vcg p v w) : vcg p u w := fun i => (h i).trans (k i)
theorem Jec {a a' d d' : Int} (h : a % p = a' % p) (k : d % p = d' % p) : (a * d) % p = (a' * d') % p := by
 rw [Int.mul_emod, h, k, <- Int.mul_emod]
theorem Jl2 {a a' d d' : Int} (h : a % p = a' % p) (k : d % p = d' % p) : (a + d) % p = (a' + d') % p := by
 rw [Int.add_emod, h, k, <- Int.add_emod]
theorem Jkj {a a' d d' : Int} (h : a % p = a' % p) (k : d % p = d' % p) : (a - d) % p = (a' - d') % p := by
 rw [Int.sub_emod, h, k, <- Int.sub_emod]
theorem vcg.add (h : vcg p u u') (k : vcg p v v') : vcg p (J7 u v) (J7 u' v') := fun i => Jl2 (h i) (k i)
theorem vcg.sm {a a' : Int} (ha : a % p = a' % p) (h : vcg p u u') : vcg p (vsm a u) (vsm a' u') := fun i => Jec ha (h i)
theorem vcg.tX (hc : vcg p c c') (h : vcg p u u') : vcg p (tX m c u) (tX m c' u') := fun i => by
 simp only [Go.Proofs.Ytjgpkljepgcekaa.tX]; split
 .split
  .exact Jkj rfl (Jec (hc i) (h _))
  .exact Jkj (h _) (Jec (hc i) (h _))
 .rfl
theorem vcg.tXn (hc : vcg p c c') (h : vcg p u u') : ∀ n, vcg p (tXn m c n u) (tXn m c' n u')
 | 0 => h
 | n + 1 => vcg.tX hc (vcg.tXn hc h n)
theorem vcg.opr (hc : vcg p c c') (hb : vcg p b b') (h : vcg p u u') : ∀ n, vcg p (opr m c b n u) (opr m c' b' n u')
 | 0 => .refl _
 | n + 1 => (vcg.opr hc hb h n).add (vcg.sm (hb n) (vcg.tXn hc h n))
theorem vcg.mul (hc : vcg p c c') (h : vcg p u u') (hb : vcg p b b') : vcg p (Yr m c u b) (Yr m c' u' b') := vcg.opr hc hb h m
end
end Go.Proofs.Ytjgpkljepgcekaa
namespace Go.Proofs.Ytjgpkljepgcekaa
def dv (p x : Nat) : Vec := fun i => ((x / p ^ i % p : Nat) : Int)
def vl (p : Nat) : Nat -> Vec -> Int
  | 0, _ => 0
  | n + 1, v => v 0 + (p : Int) * vl p n (fun i => v (i + 1))
def Cn (p n : Nat) (v : Vec) : Prop := ∀ i, i < n -> 0 <= v i /\ v i < p
def nm (p m : Nat) (v : Vec) : Nat := (vl p m (fun i => v i % (p : Int))).toNat
theorem Zr (p x i : Nat) : dv p x (i + 1) = dv p (x / p) i := by
 simp only [dv]; rw [Nat.pow_succ', <- Nat.div_div_eq_div_mul]
theorem YM (p x : Nat) : dv p x 0 = ((x % p : Nat) : Int) := by simp [dv]
theorem Cn.tl {p n : Nat} {v : Vec} (h : Cn p (n + 1) v) : Cn p n (fun i => v (i + 1)) := fun i hi => h (i + 1) (by omega)
theorem Jmg {p : Nat} (hp : 0 < p) : ∀ {n : Nat} {v : Vec}, Cn p n v -> 0 <= vl p n v /\ vl p n v < ((p ^ n : Nat) : Int)
 | 0, v, _ => by simp [vl]
 | n + 1, v, h => by
  have ih := Jmg hp h.tl; have h0 := h 0 (by omega); simp only [vl]; have h1 : (p : Int) * vl p n (fun i => v (i + 1)) <= p * (((p ^ n : Nat) : Int) - 1) := Int.mul_le_mul_of_nonneg_left (by omega) (by omega); have h2 : 0 <= (p : Int) * vl p n (fun i => v (i + 1)) := Int.mul_nonneg (by omega) ih.1; have h3 : ((p ^ (n + 1) : Nat) : Int) = p * ((p ^ n : Nat) : Int) := by rw [Nat.pow_succ']; push_cast; rfl
  have h4 : (p : Int) * (((p ^ n : Nat) : Int) - 1) = p * ((p ^ n : Nat) : Int) - p := by rw [Int.mul_sub, Int.mul_one]
  omega
theorem Jdr {p : Nat} : ∀ {n : Nat} {u v : Vec}, (∀ i, i < n -> u i = v i) -> vl p n u = vl p n v
 | 0, _, _, _ => rfl
 | n + 1, u, v, h => by simp only [vl]; rw [h 0 (by omega), Jdr (n := n) fun i hi => h (i + 1) (by omega)]
theorem Jqf {p : Nat} (hp : 0 < p) : ∀ {n x : Nat}, x < p ^ n -> vl p n (dv p x) = x
 | 0, x, h => by simp at h; subst h; rfl
 | n + 1, x, h => by
  simp only [vl]; have : (fun i => dv p x (i + 1)) = dv p (x / p) := by funext i; exact Zr p x i
  rw [this, Jqf hp (n := n) (by rw [Nat.div_lt_iff_lt_mul hp, <- Nat.pow_succ]; exact h), YM]; have := Nat.mod_add_div x p; have h2 : ((x % p + p * (x / p) : Nat) : Int) = (x : Int) := by rw [this]
  push_cast at h2 ⊢; exact h2
theorem dv_vl {p : Nat} (hp : 0 < p) : ∀ {n : Nat} {v : Vec}, Cn p n v -> ∀ i, i < n -> dv p (vl p n v).toNat i = v i
 | 0, _, _, i, hi => by omega
 | n + 1, v, h, i, hi => by
  have ih := Jmg hp h.tl; have h0 := h 0 (by omega); obtain ⟨t, ht⟩ := Int.eq_ofNat_of_zero_le ih.1; obtain ⟨a, ha⟩ := Int.eq_ofNat_of_zero_le h0.1; have hv : (vl p (n + 1) v).toNat = a + p * t := by
   simp only [vl]; rw [ht, ha]; have : (a : Int) + (p : Int) * (t : Int) = ((a + p * t : Nat) : Int) := by push_cast; rfl
   rw [this]; rfl
  have hap : a < p := by have := h0.2; rw [ha] at this; omega
  rw [hv]; cases i with
  | zero => rw [YM, Nat.add_mul_mod_self_left, Nat.mod_eq_of_lt hap, ha]
  | succ i =>
   rw [Zr]; have h2 : (a + p * t) / p = t := by rw [Nat.add_mul_div_left _ _ hp, Nat.div_eq_of_lt hap, Nat.zero_add]
   have ih2 := dv_vl hp h.tl i (by omega); rw [ht] at ih2; rw [h2]; exact ih2
section
variable {p m : Nat}
theorem md_cn (hp : 0 < p) (v : Vec) (n : Nat) : Cn p n (fun i => v i % (p : Int)) := fun i _ => ⟨Int.emod_nonneg _ (by omega), Int.emod_lt_of_pos _ (by omega)⟩
theorem Jbp (hp : 0 < p) (v : Vec) : nm p m v < p ^ m := by
 have := Jmg hp (md_cn hp v m); unfold nm; omega
theorem Jnh (hp : 0 < p) (v : Vec) {i : Nat} (hi : i < m) : dv p (nm p m v) i = v i % (p : Int) := dv_vl hp (md_cn hp v m) i hi
theorem Jfv (hp : 0 < p) (x n : Nat) : Cn p n (dv p x) := fun i _ => by
 have := Nat.mod_lt (x / p ^ i) hp; simp only [dv]; omega
theorem Jr5 {x i : Nat} (hx : x < p ^ m) (hi : m <= i) : dv p x i = 0 := by
 rcases Nat.eq_zero_or_pos p with rfl | hp
 .simp only [dv]; cases m with
  | zero =>
   have : x = 0 := by simpa using hx
   subst this; simp
  | succ m => simp at hx
 .have : x / p ^ i = 0 := Nat.div_eq_of_lt (Nat.lt_of_lt_of_le hx (Nat.pow_le_pow_right hp hi)); simp [dv, this]
theorem Ys {x : Nat} (hx : x < p ^ m) : Sup m (dv p x) := fun i hi => Jr5 hx hi
theorem Ja0 (x i : Nat) : dv p x i % (p : Int) = dv p x i := by
 simp only [dv]; rw [<- Int.natCast_emod, Nat.mod_mod]
theorem Jau (hp : 0 < p) {x : Nat} (hx : x < p ^ m) : nm p m (dv p x) = x := by
 unfold nm; rw [Jdr (v := dv p x) fun i _ => Ja0 x i, Jqf hp hx]; rfl
theorem Jrk {u v : Vec} (h : ∀ i, i < m -> u i % (p : Int) = v i % (p : Int)) : nm p m u = nm p m v := by
 unfold nm; rw [Jdr h]
theorem Zn {u v : Vec} (h : vcg p u v) : nm p m u = nm p m v := Jrk fun i _ => h i
theorem Jjk (hp : 0 < p) {v : Vec} (hv : Sup m v) : vcg p (dv p (nm p m v)) v := fun i => by
 rcases Nat.lt_or_ge i m with h | h
 .rw [Jnh hp v h, Int.emod_emod]
 .rw [Jr5 (Jbp hp v) h, hv i h]
theorem nm_eq (hp : 0 < p) {x : Nat} {v : Vec} (hx : x < p ^ m) (h : ∀ i, i < m -> dv p x i = v i % (p : Int)) : nm p m v = x := by
 rw [<- Jau hp hx]; exact Jrk fun i hi => by rw [h i hi, Int.emod_emod]
end
def JI (p m x y : Nat) : Nat := nm p m (J7 (dv p x) (dv p y))
def Qz (p m x : Nat) : Nat := nm p m (vsm (-1) (dv p x))
def Jr (p m : Nat) (c : Vec) (x y : Nat) : Nat := nm p m (Yr m c (dv p x) (dv p y))
section
variable {p m : Nat} {c : Vec}
theorem Jne (hp : 0 < p) (x y : Nat) : JI p m x y < p ^ m := Jbp hp _
theorem QJ (hp : 0 < p) (x : Nat) : Qz p m x < p ^ m := Jbp hp _
theorem Jg3 (hp : 0 < p) (x y : Nat) : Jr p m c x y < p ^ m := Jbp hp _
theorem Jg8 (hp : 0 < p) {x y : Nat} (hx : x < p ^ m) (hy : y < p ^ m) : vcg p (dv p (JI p m x y)) (J7 (dv p x) (dv p y)) := Jjk hp ((Ys hx).add (Ys hy))
theorem Juz (hp : 0 < p) {x : Nat} (hx : x < p ^ m) : vcg p (dv p (Qz p m x)) (vsm (-1) (dv p x)) := Jjk hp (Ys hx).sm
theorem Jqc {a b : Vec} (ha : Sup m a) : Sup m (Yr m c a b) := Sup.opr ha m
theorem Jbw (hp : 0 < p) {x y : Nat} (hx : x < p ^ m) : vcg p (dv p (Jr p m c x y)) (Yr m c (dv p x) (dv p y)) := Jjk hp (Jqc (Ys hx))
theorem Jo9 (x y : Nat) : JI p m x y = JI p m y x := by unfold JI; rw [Jfd]
theorem Jll (hp : 0 < p) {x y z : Nat} (hx : x < p ^ m) (hy : y < p ^ m) (hz : z < p ^ m) : JI p m (JI p m x y) z = JI p m x (JI p m y z) := by
 show nm p m (J7 (dv p (JI p m x y)) (dv p z)) = nm p m (J7 (dv p x) (dv p (JI p m y z))); rw [Zn ((Jg8 hp hx hy).add (vcg.refl _)), Zn ((vcg.refl (p := p) (dv p x)).add (Jg8 hp hy hz)), Jdt]
theorem Jel (p : Nat) : dv p 0 = vz := by funext i; simp [dv, vz]
theorem Jo8 (hp : 0 < p) {x : Nat} (hx : x < p ^ m) : JI p m x 0 = x := by unfold JI; rw [Jel, Jds, Jau hp hx]
theorem QR (hp : 0 < p) {x : Nat} (hx : x < p ^ m) : JI p m x (Qz p m x) = 0 := by
 show nm p m (J7 (dv p x) (dv p (Qz p m x))) = 0; rw [Zn ((vcg.refl (p := p) (dv p x)).add (Juz hp hx))]; have : J7 (dv p x) (vsm (-1) (dv p x)) = vz := by funext i; simp only [J7, vsm, vz]; omega
 rw [this, <- Jel p, Jau hp (by exact Nat.pow_pos hp)]
theorem Jft {x y : Nat} (hx : x < p ^ m) (hy : y < p ^ m) : Jr p m c x y = Jr p m c y x := by
 unfold Jr; rw [Z1 (Ys hx) (Ys hy)]
theorem Jlj (hp : 0 < p) {x y z : Nat} (hx : x < p ^ m) (hy : y < p ^ m) (hz : z < p ^ m) : Jr p m c (Jr p m c x y) z = Jr p m c x (Jr p m c y z) := by
 show nm p m (Yr m c (dv p (Jr p m c x y)) (dv p z)) = nm p m (Yr m c (dv p x) (dv p (Jr p m c y z))); rw [Zn (vcg.mul (vcg.refl c) (Jbw hp hx) (vcg.refl _)), Zn (vcg.mul (vcg.refl c) (vcg.refl (dv p x)) (Jbw hp hy)), Jke (Ys hx) (Ys hy) (Ys hz)]
theorem Jg7 (hp : 2 <= p) : dv p 1 = e0 := by
 funext i; cases i with
 | zero => rw [YM, Nat.mod_eq_of_lt (by omega)]; rfl
 | succ i =>
  have : (1 : Nat) / p ^ (i + 1) = 0 := Nat.div_eq_of_lt (Nat.one_lt_pow (by omega) (by omega)); simp [dv, this, e0]
theorem Jei (hp : 2 <= p) (hm : 0 < m) {x : Nat} (hx : x < p ^ m) : Jr p m c x 1 = x := by
 unfold Jr; rw [Jg7 hp, Jqd hm, Jau (by omega) hx]
theorem Jo5 (hp : 0 < p) {x : Nat} (hx : x < p ^ m) : Jr p m c x 0 = 0 := by
 rw [Jft hx (Nat.pow_pos hp)]; unfold Jr; rw [Jel]; have : Yr m c vz (dv p x) = vz := opr_z ..; rw [this, <- Jel p, Jau hp (Nat.pow_pos hp)]
theorem Jry (hp : 0 < p) {x y z : Nat} (hx : x < p ^ m) (hy : y < p ^ m) (hz : z < p ^ m) : Jr p m c x (JI p m y z) = JI p m (Jr p m c x y) (Jr p m c x z) := by
 show nm p m (Yr m c (dv p x) (dv p (JI p m y z))) = nm p m (J7 (dv p (Jr p m c x y)) (dv p (Jr p m c x z))); rw [Zn (vcg.mul (vcg.refl c) (vcg.refl (dv p x)) (Jg8 hp hy hz)), Zn ((Jbw (c := c) hp hx).add (Jbw hp hx)), Jqe]
end
structure CR (q : Nat) (A M : Nat -> Nat -> Nat) : Prop where
  q2 : 2 <= q
  Al : ∀ x y, A x y < q
  Ml : ∀ x y, M x y < q
  Ac : ∀ x y, A x y = A y x
  Aa : ∀ {x y z}, x < q -> y < q -> z < q -> A (A x y) z = A x (A y z)
  Az : ∀ {x}, x < q -> A x 0 = x
  An : ∀ {x}, x < q -> ∃ y, y < q /\ A x y = 0
  Mc : ∀ {x y}, x < q -> y < q -> M x y = M y x
  Ma : ∀ {x y z}, x < q -> y < q -> z < q -> M (M x y) z = M x (M y z)
  M1 : ∀ {x}, x < q -> M x 1 = x
  M0 : ∀ {x}, x < q -> M x 0 = 0
  Md : ∀ {x y z}, x < q -> y < q -> z < q -> M x (A y z) = A (M x y) (M x z)
theorem Jma {p m : Nat} (c : Vec) (hp : 2 <= p) (hm : 0 < m) : CR (p ^ m) (JI p m) (Jr p m c) where
 q2 := Nat.le_trans hp (by have := Nat.pow_le_pow_right (n := p) (by omega) hm; simpa using this)
 Al := Jne (by omega)
 Ml := Jg3 (by omega)
 Ac := Jo9
 Aa := Jll (by omega)
 Az := Jo8 (by omega)
 An := fun {x} hx => ⟨Qz p m x, QJ (by omega) x, QR (by omega) hx⟩
 Mc := Jft
 Ma := Jlj (by omega)
 M1 := Jei hp hm
 M0 := Jo5 (by omega)
 Md := Jry (by omega)
end Go.Proofs.Ytjgpkljepgcekaa
namespace Go.Proofs.Ytjgpkljepgcekaa
def pw (M : Nat -> Nat -> Nat) (g : Nat) : Nat -> Nat
  | 0 => 1
  | k + 1 => M (pw M g k) g
theorem php : ∀ (n : Nat) (f : Nat -> Nat), (∀ i, i < n + 1 -> f i < n) -> ∃ i j, i < j /\ j < n + 1 /\ f i = f j
 | 0, f, h => absurd (h 0 (by omega)) (by omega)
 | n + 1, f, h => by
  by_cases hc : ∃ i, i < n + 1 /\ f i = f (n + 1)
  .obtain ⟨i, hi, he⟩ := hc; exact ⟨i, n + 1, hi, by omega, he⟩
  .have hv := h (n + 1) (by omega); obtain ⟨i, j, hij, hj, he⟩ := php n (fun i => if f i = n then f (n + 1) else f i) (fun i hi => by
    have hne : f i ≠ f (n + 1) := fun e => hc ⟨i, hi, e⟩; have := h i (by omega); show (if f i = n then f (n + 1) else f i) < n; split
    .omega
    .omega)
   refine ⟨i, j, hij, by omega, ?_⟩; have hi1 : f i ≠ f (n + 1) := fun e => hc ⟨i, by omega, e⟩; have hj1 : f j ≠ f (n + 1) := fun e => hc ⟨j, by omega, e⟩; split at he <;> split at he <;> omega
theorem Jhy {n : Nat} {f : Nat -> Nat} (hb : ∀ i, i < n -> f i < n) (hi : ∀ i j, i < j -> j < n -> f i ≠ f j) {y : Nat} (hy : y < n) : ∃ i, i < n /\ f i = y := by
 obtain ⟨i, j, hij, hj, he⟩ := php n (fun i => if i < n then f i else y) (fun i _ => by
  show (if i < n then f i else y) < n; split
  .rename_i h; exact hb i h
  .exact hy)
 rcases Nat.lt_or_ge j n with h | h
 .rw [if_pos h, if_pos (show i < n by omega)] at he; exact absurd he (hi i j hij h)
 .rw [if_neg (show ¬ j < n by omega), if_pos (show i < n by omega)] at he; exact ⟨i, by omega, he⟩
section
variable {q : Nat} {A M : Nat -> Nat -> Nat} (R : CR q A M)
include R
namespace CR
theorem one_lt : 1 < q := R.q2
theorem pos : 0 < q := by have := R.q2; omega
theorem I1 {x : Nat} (hx : x < q) : M 1 x = x := by rw [R.Mc R.one_lt hx, R.M1 hx]
theorem Z0 {x : Nat} (hx : x < q) : M 0 x = 0 := by rw [R.Mc R.pos hx, R.M0 hx]
theorem zA {x : Nat} (hx : x < q) : A 0 x = x := by rw [R.Ac, R.Az hx]
theorem pw_lt (g : Nat) : ∀ k, pw M g k < q
 | 0 => R.one_lt
 | k + 1 => R.Ml _ _
theorem pw_one {g : Nat} (hg : g < q) : pw M g 1 = g := R.I1 hg
theorem pw_add {g : Nat} (hg : g < q) (i : Nat) : ∀ j, pw M g (i + j) = M (pw M g i) (pw M g j)
 | 0 => (R.M1 (R.pw_lt g i)).symm
 | j + 1 => by
  show M (pw M g (i + j)) g = M (pw M g i) (M (pw M g j) g); rw [pw_add hg i j, R.Ma (R.pw_lt g i) (R.pw_lt g j) hg]
theorem pw_pw {g : Nat} (hg : g < q) (i : Nat) : ∀ j, pw M (pw M g i) j = pw M g (i * j)
 | 0 => rfl
 | j + 1 => by
  show M (pw M (pw M g i) j) (pw M g i) = _; rw [pw_pw hg i j, <- R.pw_add hg]; rfl
theorem one_pw : ∀ j, pw M 1 j = 1
 | 0 => rfl
 | j + 1 => by show M (pw M 1 j) 1 = 1; rw [one_pw j, R.M1 R.one_lt]
theorem zero_pw {n : Nat} (h : 0 < n) : pw M 0 n = 0 := by
 cases n with
 | zero => omega
 | succ n => exact R.M0 (R.pw_lt 0 n)
end CR
end
structure Gn (q : Nat) (M : Nat -> Nat -> Nat) (g : Nat) : Prop where
  lt : g < q
  one : pw M g (q - 1) = 1
  no : ∀ k, 0 < k -> k < q - 1 -> pw M g k ≠ 1
namespace Gn
variable {q g : Nat} {A M : Nat -> Nat -> Nat}
theorem per (G : Gn q M g) (R : CR q A M) (i k : Nat) : pw M g (i + (q - 1) * k) = pw M g i := by
 rw [R.pw_add G.lt, <- R.pw_pw G.lt, G.one, R.one_pw, R.M1 (R.pw_lt g i)]
theorem ne0 (G : Gn q M g) (R : CR q A M) (k : Nat) : pw M g k ≠ 0 := fun h => by
 have h1 := G.per R 0 (k + 1); have hq := R.q2; rw [Nat.zero_add] at h1; have : (q - 1) * (k + 1) = k + ((q - 1) * (k + 1) - k) := by
  have : k + 1 <= (q - 1) * (k + 1) := Nat.le_mul_of_pos_left _ (by omega); omega
 rw [this, R.pw_add G.lt, h, R.Z0 (R.pw_lt g _)] at h1; exact absurd h1 (by show ¬ (0 : Nat) = 1; omega)
theorem inj (G : Gn q M g) (R : CR q A M) {i j : Nat} (hij : i < j) (hj : j < q - 1) : pw M g i ≠ pw M g j := fun h => by
 have e1 : M (pw M g i) (pw M g (q - 1 - i)) = 1 := by rw [<- R.pw_add G.lt, show i + (q - 1 - i) = q - 1 by omega, G.one]
 have e2 : M (pw M g j) (pw M g (q - 1 - i)) = pw M g (j - i) := by
  rw [<- R.pw_add G.lt, show j + (q - 1 - i) = (j - i) + (q - 1) * 1 by omega, G.per R]
 rw [h] at e1; exact G.no (j - i) (by omega) (by omega) (e2.symm.trans e1)
theorem surj (G : Gn q M g) (R : CR q A M) {x : Nat} (h0 : 0 < x) (hx : x < q) : ∃ k, k < q - 1 /\ pw M g k = x := by
 obtain ⟨i, hi, he⟩ := Jhy (n := q - 1) (f := fun k => pw M g k - 1) (fun i hi => by
  have := R.pw_lt g i; have := G.ne0 R i; show pw M g i - 1 < q - 1; omega) (fun i j hij hj he => by
  have h1 := G.ne0 R i; have h2 := G.ne0 R j; exact G.inj R hij hj (by omega)) (y := x - 1) (by omega)
 have := G.ne0 R i; exact ⟨i, hi, by omega⟩
open Classical in
noncomputable def lg (q : Nat) (M : Nat -> Nat -> Nat) (g x : Nat) : Nat := if h : ∃ k, k < q - 1 /\ pw M g k = x then Classical.choose h else 0
theorem xone (G : Gn q M g) (R : CR q A M) {x : Nat} (h0 : 0 < x) (hx : x < q) : pw M x (q - 1) = 1 := by
  obtain ⟨k, hk, rfl⟩ := G.surj R h0 hx
  rw [R.pw_pw G.lt, Nat.mul_comm, <- R.pw_pw G.lt, G.one, R.one_pw]
end Gn
end Go.Proofs.Ytjgpkljepgcekaa
namespace Go.Proofs.Ytjgpkljepgcekaa
structure IsLf (n d : Nat) : Prop where
  two : 2 <= d
  dvd : n % d = 0
  min : ∀ e, 2 <= e -> n % e = 0 -> d <= e
def Jr8 : Nat -> Nat -> Nat
  | _, 0 => 1
  | 0, _ + 1 => 0
  | n + 1, k + 1 => Jr8 n k + Jr8 n (k + 1)
section
variable {q : Nat} {A M : Nat -> Nat -> Nat} (R : CR q A M)
include R
namespace CR
theorem Aac {a b c : Nat} (ha : a < q) (hb : b < q) (hc : c < q) : A (A a b) c = A (A a c) b := by
 rw [R.Aa ha hb hc, R.Ac b c, <- R.Aa ha hc hb]
theorem A4 {a b c d : Nat} (ha : a < q) (hb : b < q) (hc : c < q) (hd : d < q) : A (A a b) (A c d) = A (A a c) (A b d) := by
 rw [<- R.Aa (R.Al a b) hc hd, R.Aac ha hb hc, R.Aa (R.Al a c) hb hd]
end CR
end
end Go.Proofs.Ytjgpkljepgcekaa
namespace Go.Proofs.Ytjgpkljepgcekaa
def hz (m : Nat) (c b y : Vec) (n : Nat) : Nat -> Vec
  | 0 => vz
  | k + 1 => J7 (tX m c (hz m c b y n k)) (vsm (b (n - 1 - k)) y)
theorem Jrs {m : Nat} {c b y : Vec} {n : Nat} : ∀ {k : Nat}, k <= n -> J7 (tXn m c (n - k) (hz m c b y n k)) (opr m c b (n - k) y) = opr m c b n y
 | 0, _ => by simp only [hz, Nat.sub_zero]; rw [Jqo, z_vadd]
 | k + 1, h => by
  have ih := Jrs (m := m) (c := c) (b := b) (y := y) (n := n) (k := k) (by omega); obtain ⟨r, hr⟩ : ∃ r, n - k = r + 1 := ⟨n - k - 1, by omega⟩
  rw [show n - (k + 1) = r by omega]; rw [hr] at ih; rw [<- ih]; show J7 (tXn m c r (J7 (tX m c (hz m c b y n k)) (vsm (b (n - 1 - k)) y))) (opr m c b r y) = J7 (tX m c (tXn m c r (hz m c b y n k))) (J7 (opr m c b r y) (vsm (b r) (tXn m c r y))); rw [Jf9, Jkh, Jqp, show n - 1 - k = r by omega, Jdt, Jfd (vsm _ _)]
theorem hz_all (m : Nat) (c b y : Vec) (n : Nat) : hz m c b y n n = opr m c b n y := by
 have := Jrs (m := m) (c := c) (b := b) (y := y) (n := n) (k := n) (Nat.le_refl n); rw [Nat.sub_self] at this; rw [<- this]; exact (Jds _).symm
def dgl (p : Nat) : Nat -> Nat -> List Nat
  | 0, _ => []
  | n + 1, x => (x % p) :: dgl p n (x / p)
theorem QU (p : Nat) : ∀ n x, (dgl p n x).length = n
 | 0, _ => rfl
 | n + 1, x => by simp [dgl, QU p n]
theorem Jcs (p : Nat) : ∀ n x i, i < n -> (((dgl p n x).getD i 0 : Nat) : Int) = dv p x i
 | 0, _, i, h => by omega
 | n + 1, x, 0, _ => by rw [YM]; rfl
 | n + 1, x, i + 1, h => by
  show (((dgl p n (x / p)).getD i 0 : Nat) : Int) = _; rw [Jcs p n (x / p) i (by omega), Zr]
@[reducible] noncomputable def hd0 (l : List Nat) : Nat := List.rec (motive := fun _ => Nat) 0 (fun x _ _ => x) l
@[reducible] noncomputable def tl0 (l : List Nat) : List Nat := List.rec (motive := fun _ => List Nat) [] (fun _ l _ => l) l
noncomputable def go (p a top : Nat) (cs : List Nat) : Nat -> List Nat -> List Nat -> List Nat :=
  List.rec (motive := fun _ => Nat -> List Nat -> List Nat -> List Nat) (fun _ _ _ => [])
    (fun c _ ih prev us ys => ((prev + (p - c) * top + a * hd0 ys) % p) :: ih (hd0 us) (tl0 us) (tl0 ys)) cs
noncomputable def tp (l : List Nat) : Nat -> Nat := List.rec (motive := fun _ => Nat -> Nat) (fun d => d) (fun x _ ih _ => ih x) l
noncomputable def Jk6 (p : Nat) (cs ys gs : List Nat) : List Nat -> List Nat :=
  List.rec (motive := fun _ => List Nat -> List Nat) (fun acc => acc) (fun g _ ih acc => ih (go p g (tp acc 0) cs 0 acc ys)) gs
noncomputable def az (l : List Nat) : Bool := List.rec (motive := fun _ => Bool) true (fun x _ ih => bif Nat.beq x 0 then ih else false) l
noncomputable def is1 (l : List Nat) : Bool := List.rec (motive := fun _ => Bool) false (fun x t _ => bif Nat.beq x 1 then az t else false) l
noncomputable def run (p : Nat) (cs gs : List Nat) (n : Nat) : List Nat -> Bool :=
  Nat.rec (motive := fun _ => List Nat -> Bool) (fun y => is1 y) (fun _ ih y => bif is1 y then false else ih (Jk6 p cs y gs y)) n
noncomputable def Jh0 (p c : Nat) (al : List Nat) : List Nat -> List Nat :=
  List.rec (motive := fun _ => List Nat -> List Nat) (fun bs => bs) (fun a _ ih bs => ((hd0 bs + (p - a) * c) % p) :: ih (tl0 bs)) al
noncomputable def dvg (p : Nat) (low : List Nat) (k : Nat) : List Nat -> Bool :=
  Nat.rec (motive := fun _ => List Nat -> Bool) (fun r => az r) (fun _ ih r => ih (Jh0 p (hd0 r) low (tl0 r))) k
noncomputable def nob (f : Nat -> Bool) (n : Nat) : Bool := Nat.rec (motive := fun _ => Bool) true (fun i ih => bif f i then false else ih) n
noncomputable def irrB (p m : Nat) (ml : List Nat) : Bool :=
  nob (fun d => !nob (fun w => dvg p (dgl p (d + 1) w).reverse (m - d) (1 :: ml.reverse)) (p ^ (d + 1))) (m / 2)
noncomputable def cand (p c : Nat) : List Nat := bif Nat.blt c p then [c] else bif Nat.blt c (p + p * p) then [(c - p) / p, (c - p) % p] else [(c - p - p * p) / (p * p), (c - p - p * p) / p % p, (c - p - p * p) % p]
noncomputable def gen1 (p m : Nat) (cs gs : List Nat) : Bool := run p cs gs (p ^ m - 2) (Jk6 p cs (dgl p m 1) gs (dgl p m 1))
noncomputable def Jli (p m : Nat) (cs : List Nat) : Bool := !nob (fun c => gen1 p m cs (cand p (p + p * p + p * p * p - 1 - c))) (p + p * p + p * p * p)
noncomputable def chk (p m lo n : Nat) : Bool := nob (fun v => bif irrB p m (dgl p m (lo + v)) then !Jli p m (dgl p m (lo + v)) else false) n

theorem Jg0 (l : List Nat) : hd0 l = l.getD 0 0 := by cases l <;> rfl
theorem Jdz (l : List Nat) (i : Nat) : (tl0 l).getD i 0 = l.getD (i + 1) 0 := by cases l <;> rfl
theorem Jtv (l : List Nat) : (tl0 l).length = l.length - 1 := by cases l <;> simp [tl0]
theorem Jg1 (p a top c : Nat) (cs : List Nat) (prev : Nat) (us ys : List Nat) : go p a top (c :: cs) prev us ys = ((prev + (p - c) * top + a * hd0 ys) % p) :: go p a top cs (hd0 us) (tl0 us) (tl0 ys) := rfl
theorem Jru (p a top : Nat) : ∀ (cs : List Nat) (prev : Nat) (us ys : List Nat), (go p a top cs prev us ys).length = cs.length
 | [], _, _, _ => rfl
 | c :: cs, prev, us, ys => by rw [Jg1, List.length_cons, Jru p a top cs, List.length_cons]
theorem go_at (p a top : Nat) : ∀ (cs : List Nat) (prev : Nat) (us ys : List Nat) (i : Nat), i < cs.length -> (go p a top cs prev us ys).getD i 0 = ((if i = 0 then prev else us.getD (i - 1) 0) + (p - cs.getD i 0) * top + a * ys.getD i 0) % p
 | [], _, _, _, i, h => by simp at h
 | c :: cs, prev, us, ys, 0, _ => by rw [Jg1, Jg0]; rfl
 | c :: cs, prev, us, ys, i + 1, h => by
  rw [Jg1]; show (go p a top cs (hd0 us) (tl0 us) (tl0 ys)).getD i 0 = _; rw [go_at p a top cs _ _ _ i (by simpa using h)]; cases i with
  | zero => rw [if_pos rfl, if_neg (by omega), Jg0, Jdz]; rfl
  | succ i => rw [if_neg (by omega), if_neg (by omega), Jdz, Jdz]; rfl
theorem tp_eq : ∀ (l : List Nat) (d : Nat), 0 < l.length -> tp l d = l.getD (l.length - 1) 0
 | [], _, h => by simp at h
 | [x], d, _ => rfl
 | x :: y :: l, d, _ => by
  show tp (y :: l) x = _; rw [tp_eq (y :: l) x (by simp)]; simp
def Rep (p m : Nat) (L : List Nat) (v : Vec) : Prop := L.length = m /\ ∀ i, i < m -> ((L.getD i 0 : Nat) : Int) = v i % (p : Int)
def hl (m : Nat) (c y : Vec) : List Nat -> Vec -> Vec
  | [], u => u
  | g :: gs, u => hl m c y gs (J7 (tX m c u) (vsm g y))
theorem Rep.step {p m : Nat} {cs us ys : List Nat} {c u y : Vec} (hp : 0 < p) (hm : 0 < m) (hc : Rep p m cs c) (hu : Rep p m us u) (hy : Rep p m ys y) (g : Nat) :
  Rep p m (go p g (tp us 0) cs 0 us ys) (J7 (tX m c u) (vsm g y)) := by
 refine ⟨by rw [Jru, hc.1], fun i hi => ?_⟩; rw [go_at _ _ _ _ _ _ _ _ (by rw [hc.1]; exact hi), tp_eq _ _ (by rw [hu.1]; exact hm), hu.1]; have h1 := hu.2 (m - 1) (by omega); have h2 := hc.2 i hi; have h3 := hy.2 i hi; have hlt : cs.getD i 0 <= p := by
  have := Int.emod_lt_of_pos (c i) (show (0 : Int) < p by omega); omega
 have e : (((if i = 0 then 0 else us.getD (i - 1) 0) : Nat) : Int) % p = (if i = 0 then (0 : Int) else u (i - 1)) % p := by
  split
  .rfl
  .rw [hu.2 (i - 1) (by omega), Int.emod_emod]
 simp only [J7, vsm, tX, if_pos hi]; generalize (if i = 0 then 0 else us.getD (i - 1) 0 : Nat) = A at *
 generalize (if i = 0 then (0 : Int) else u (i - 1)) = B at *
 generalize us.getD (m - 1) 0 = T at *
 generalize cs.getD i 0 = C at *
 generalize ys.getD i 0 = Y at *
 have hT : ((T : Nat) : Int) % p = u (m - 1) % p := by rw [h1, Int.emod_emod]
 have hC : ((C : Nat) : Int) % p = c i % p := by rw [h2, Int.emod_emod]
 have hY : ((Y : Nat) : Int) % p = y i % p := by rw [h3, Int.emod_emod]
 obtain ⟨D, hD⟩ : ∃ D, p = C + D := ⟨p - C, by omega⟩
 have hsub : p - C = D := by omega
 rw [hsub]; have hcast : ((A + D * T + g * Y : Nat) : Int) = ((A : Int) - C * T + g * Y) + p * T := by
  have : (p : Int) = C + D := by omega
  rw [this]; push_cast; rw [Int.add_mul]; omega
 rw [Int.natCast_emod, hcast, Int.add_mul_emod_self_left]; exact Jl2 (Jkj e (Jec hC hT)) (Jec rfl hY)
theorem Jo1 (p : Nat) (cs ys : List Nat) (g : Nat) (gs acc : List Nat) : Jk6 p cs ys (g :: gs) acc = Jk6 p cs ys gs (go p g (tp acc 0) cs 0 acc ys) := rfl
theorem Rep.mul {p m : Nat} {cs ys : List Nat} {c y : Vec} (hp : 0 < p) (hm : 0 < m) (hc : Rep p m cs c) (hy : Rep p m ys y) : ∀ {gs us : List Nat} {u : Vec}, Rep p m us u -> Rep p m (Jk6 p cs ys gs us) (hl m c y gs u)
 | [], _, _, h => h
 | g :: gs, us, u, h => by rw [Jo1]; exact Rep.mul hp hm hc hy (Rep.step hp hm hc h hy g)
theorem Jle {m : Nat} {c y : Vec} (hy : Sup m y) : ∀ {gs : List Nat} {u : Vec}, Sup m u -> Sup m (hl m c y gs u)
 | [], _, h => h
 | g :: gs, u, h => Jle (gs := gs) (u := J7 (tX m c u) (vsm g y)) hy (Sup.add Sup.tX hy.sm)
theorem Jrt {m : Nat} {c y : Vec} (hy : Sup m y) : ∀ {gs : List Nat} {U : Vec}, hl m c y gs (opr m c y m U) = opr m c y m (hl m c e0 gs U)
  | [], _ => rfl
  | g :: gs, U => by
    show hl m c y gs (J7 (tX m c (opr m c y m U)) (vsm g y)) = opr m c y m (hl m c e0 gs (J7 (tX m c U) (vsm g e0)))
    rw [<- Jrt hy, Jmz, Jks, ZG hy]
    have := Jmy m c y m 1 U
    rw [show tXn m c 1 U = tX m c U from rfl, show tXn m c 1 (opr m c y m U) = tX m c (opr m c y m U) from rfl] at this
    rw [this]
theorem Jg6 {m : Nat} (hm : 0 < m) : Sup m e0 := fun i hi => by simp [e0, show i ≠ 0 by omega]
theorem hl_mul {m : Nat} {c y : Vec} (hm : 0 < m) (hy : Sup m y) (gs : List Nat) : hl m c y gs y = Yr m c y (hl m c e0 gs e0) := by
 rw [Z1 hy (Jle (Jg6 hm) (Jg6 hm))]; show _ = opr m c y m (hl m c e0 gs e0); rw [<- Jrt hy, ZG hy]
theorem Jtk {p m x : Nat} : Rep p m (dgl p m x) (dv p x) := ⟨QU p m x, fun i hi => by rw [Jcs p m x i hi, Ja0]⟩
theorem Rep.cg {p m : Nat} {L : List Nat} {u v : Vec} (h : Rep p m L u) (hv : ∀ i, i < m -> u i % (p : Int) = v i % (p : Int)) : Rep p m L v := ⟨h.1, fun i hi => by rw [h.2 i hi, hv i hi]⟩
theorem Ju6 (x : Nat) (l : List Nat) : az (x :: l) = bif Nat.beq x 0 then az l else false := rfl
theorem Jhd : ∀ l : List Nat, az l = true ↔ ∀ i, i < l.length -> l.getD i 0 = 0
 | [] => ⟨fun _ i h => by simp at h, fun _ => rfl⟩
 | x :: l => by
  rw [Ju6]; cases hx : Nat.beq x 0 with
  | true =>
   have := Nat.eq_of_beq_eq_true hx; subst this; rw [show (bif true then az l else false) = az l from rfl, Jhd l]; constructor
   .intro h i hi; cases i with
    | zero => rfl
    | succ i => exact h i (by simpa using hi)
   .intro h i hi; exact h (i + 1) (by simpa using hi)
  | false =>
   rw [show (bif false then az l else false) = false from rfl]; constructor
   .intro h; cases h
   .intro h; have := h 0 (by simp); simp only [List.getD_cons_zero] at this; subst this; cases hx
theorem Jnb {p m x : Nat} {L : List Nat} (hp : 2 <= p) (hm : 0 < m) (hx : x < p ^ m) (h : Rep p m L (Go.Proofs.Ytjgpkljepgcekaa.dv p x)) : is1 L = true ↔ x = 1 := by
 obtain ⟨a, l, rfl⟩ : ∃ a l, L = a :: l := by
  cases L with
  | nil => have := h.1; simp at this; omega
  | cons a l => exact ⟨a, l, rfl⟩
 have hlen : l.length + 1 = m := h.1; have h0 := h.2 0 hm; have e : is1 (a :: l) = bif Nat.beq a 1 then az l else false := rfl; rw [e]; constructor
 .intro hb; cases ha : Nat.beq a 1 with
  | false => rw [ha] at hb; cases hb
  | true =>
   rw [ha] at hb; have hz := (Jhd l).1 hb; have ha1 := Nat.eq_of_beq_eq_true ha; subst ha1; rw [<- Jau (p := p) (m := m) (by omega) hx, <- Jau (p := p) (m := m) (x := 1) (by omega) (Nat.one_lt_pow (by omega) (by omega))]; refine Jrk fun i hi => ?_; rw [Jg7 hp, Ja0, <- Ja0, <- h.2 i hi]; cases i with
   | zero =>
    show (1 : Int) = e0 0 % p; simp only [e0, if_pos]; exact (Int.emod_eq_of_lt (by omega) (by omega)).symm
   | succ i =>
    show ((l.getD i 0 : Nat) : Int) = e0 (i + 1) % p; rw [hz i (by omega)]; simp [e0]
 .intro hx1; subst hx1; have ha : a = 1 := by
   have : ((a : Nat) : Int) = Go.Proofs.Ytjgpkljepgcekaa.dv p 1 0 % p := h0; rw [Ja0, Jg7 hp] at this; simp [e0] at this; omega
  subst ha; show az l = true; refine (Jhd l).2 fun i hi => ?_; have : ((l.getD i 0 : Nat) : Int) = Go.Proofs.Ytjgpkljepgcekaa.dv p 1 (i + 1) % p := h.2 (i + 1) (by omega); rw [Ja0, Jg7 hp] at this; simp only [e0] at this; rw [if_neg (by omega)] at this; exact Int.ofNat_eq_zero.1 this
def gel (p m : Nat) (c : Vec) (gs : List Nat) : Nat := nm p m (hl m c e0 gs e0)
theorem Jj3 {p m x : Nat} {cs L gs : List Nat} {c : Vec} (hp : 2 <= p) (hm : 0 < m) (hx : x < p ^ m) (hc : Rep p m cs c) (h : Rep p m L (Go.Proofs.Ytjgpkljepgcekaa.dv p x)) : Rep p m (Jk6 p cs L gs L) (Go.Proofs.Ytjgpkljepgcekaa.dv p (Jr p m c x (gel p m c gs))) := by
 have h1 := Rep.mul (gs := gs) (by omega) hm hc h h; rw [hl_mul hm (Ys hx)] at h1; refine h1.cg fun i hi => ?_; have hs := Jle (c := c) (gs := gs) (Jg6 hm) (Jg6 hm); have e1 := Jbw (p := p) (m := m) (c := c) (by omega) hx (y := gel p m c gs); have e2 := vcg.mul (m := m) (vcg.refl (p := p) c) (vcg.refl (Go.Proofs.Ytjgpkljepgcekaa.dv p x)) (Jjk (p := p) (m := m) (by omega) hs); exact ((e1.trans e2) i).symm
theorem Jqz (p : Nat) (cs gs : List Nat) (n : Nat) (y : List Nat) : run p cs gs (n + 1) y = bif is1 y then false else run p cs gs n (Jk6 p cs y gs y) := rfl
theorem Jq0 {p m : Nat} {cs gs : List Nat} {c : Vec} (hp : 2 <= p) (hm : 0 < m) (hc : Rep p m cs c) : ∀ {n : Nat} {L : List Nat} {x : Nat}, x < p ^ m -> Rep p m L (Go.Proofs.Ytjgpkljepgcekaa.dv p x) -> run p cs gs n L = true ->
  (∀ k, k < n -> Jr p m c x (pw (Jr p m c) (gel p m c gs) k) ≠ 1) /\ Jr p m c x (pw (Jr p m c) (gel p m c gs) n) = 1
 | 0, L, x, hx, h, hr => by
  refine ⟨fun k hk => by omega, ?_⟩; show Jr p m c x 1 = 1; rw [Jei hp hm hx]; exact (Jnb hp hm hx h).1 hr
 | n + 1, L, x, hx, h, hr => by
  rw [Jqz] at hr; cases h1 : is1 L with
  | true => rw [h1] at hr; cases hr
  | false =>
   rw [h1] at hr; have R := Jma (p := p) (m := m) c hp hm; have hg : gel p m c gs < p ^ m := Jbp (by omega) _; have ih := Jq0 hp hm hc (Jg3 (by omega) x _) (Jj3 (gs := gs) hp hm hx hc h) hr; have e : ∀ k, Jr p m c (Jr p m c x (gel p m c gs)) (pw (Jr p m c) (gel p m c gs) k) = Jr p m c x (pw (Jr p m c) (gel p m c gs) (k + 1)) := fun k => by
    rw [R.Ma hx hg (R.pw_lt _ k), R.Mc hg (R.pw_lt _ k)]; rfl
   refine ⟨fun k hk => ?_, by rw [<- e]; exact ih.2⟩; cases k with
   | zero =>
    show Jr p m c x 1 ≠ 1; rw [Jei hp hm hx]; intro hx1; rw [(Jnb hp hm hx h).2 hx1] at h1; cases h1
   | succ k => rw [<- e]; exact ih.1 k (by omega)
theorem Juv {p m : Nat} {cs gs : List Nat} {c : Vec} (hp : 2 <= p) (hm : 0 < m) (hc : Rep p m cs c) (h : gen1 p m cs gs = true) : Gn (p ^ m) (Jr p m c) (gel p m c gs) := by
 have R := Jma (p := p) (m := m) c hp hm; have hg : gel p m c gs < p ^ m := Jbp (by omega) _; have h1 := Jj3 (gs := gs) hp hm R.one_lt hc Jtk; rw [R.I1 hg] at h1; obtain ⟨h2, h3⟩ := Jq0 hp hm hc hg h1 h; have hq := R.q2; have e : ∀ k, Jr p m c (gel p m c gs) (pw (Jr p m c) (gel p m c gs) k) = pw (Jr p m c) (gel p m c gs) (k + 1) := fun k => R.Mc hg (R.pw_lt _ k); refine ⟨hg, ?_, fun k h0 hk => ?_⟩
 .rw [show p ^ m - 1 = (p ^ m - 2) + 1 by omega, <- e]; exact h3
 .rw [show k = (k - 1) + 1 by omega, <- e]; exact h2 (k - 1) (by omega)
theorem Jrj (f : Nat -> Bool) (n : Nat) : nob f (n + 1) = bif f n then false else nob f n := rfl
theorem Z7 (f : Nat -> Bool) : ∀ n, nob f n = true ↔ ∀ i, i < n -> f i = false
 | 0 => ⟨fun _ i h => by omega, fun _ => rfl⟩
 | n + 1 => by
  rw [Jrj]; cases h : f n with
  | true =>
   refine ⟨fun h' => ?_, fun h' => ?_⟩
   .cases h'
   .rw [h' n (by omega)] at h; cases h
  | false =>
   show nob f n = true ↔ _; rw [Z7 f n]; refine ⟨fun h' i hi => ?_, fun h' i hi => h' i (by omega)⟩; rcases Nat.lt_or_ge i n with h1 | h1
   .exact h' i h1
   .rw [show i = n by omega]; exact h
theorem Joz (f : Nat -> Bool) (n : Nat) (h : nob f n = false) : ∃ i, i < n /\ f i = true := by
 have hn : ¬ ∀ i, i < n -> f i = false := fun h' => by rw [(Z7 f n).2 h'] at h; cases h
 have := Classical.not_forall.1 hn; obtain ⟨i, hi⟩ := this; have h2 := Classical.not_imp.1 hi; exact ⟨i, h2.1, by cases hf : f i with | true => rfl | false => exact absurd hf h2.2⟩
theorem Jnd {p m : Nat} {cs : List Nat} {c : Vec} (hp : 2 <= p) (hm : 0 < m) (hc : Rep p m cs c) (h : Jli p m cs = true) : ∃ g, Gn (p ^ m) (Jr p m c) g := by
 unfold Jli at h; obtain ⟨i, _, hi⟩ := Joz _ _ (by simpa using h); exact ⟨_, Juv hp hm hc hi⟩
def rst (p d i : Nat) (l R : Vec) : Vec := fun j => if i <= j + d /\ j < i then (R j - l (j + d - i) * R i) % (p : Int) else R j
def rem (p d : Nat) (l R : Vec) (n : Nat) : Nat -> Vec
  | 0 => R
  | k + 1 => rst p d (n - 1 - k) l (rem p d l R n k)
def Dvd (p d : Nat) (l R : Vec) (n : Nat) : Prop := ∀ j, j < d -> rem p d l R n (n - d) j = 0
def Irr (p m : Nat) (c : Vec) : Prop := ∀ d, 0 < d -> 2 * d <= m -> ∀ w, w < p ^ d -> ¬ Dvd p d (dv p w) (fun i => if i = m then 1 else c i) (m + 1)
theorem Jcg (p c a : Nat) (al bs : List Nat) : Jh0 p c (a :: al) bs = ((hd0 bs + (p - a) * c) % p) :: Jh0 p c al (tl0 bs) := rfl
theorem Jhz (p c : Nat) : ∀ al bs : List Nat, al.length <= bs.length -> (Jh0 p c al bs).length = bs.length
 | [], _, _ => rfl
 | a :: al, [], h => by simp at h
 | a :: al, b :: bs, h => by
  rw [Jcg, List.length_cons]; show (Jh0 p c al bs).length + 1 = _; rw [Jhz p c al bs (by simpa using h)]; rfl
theorem Jmq (p c : Nat) : ∀ (al bs : List Nat) (t : Nat), (Jh0 p c al bs).getD t 0 = if t < al.length then (bs.getD t 0 + (p - al.getD t 0) * c) % p else bs.getD t 0
 | [], bs, t => by simp; rfl
 | a :: al, bs, 0 => by rw [Jcg, Jg0]; simp
 | a :: al, bs, t + 1 => by
  rw [Jcg]; show (Jh0 p c al (tl0 bs)).getD t 0 = _; rw [Jmq p c al (tl0 bs) t, Jdz]; simp
theorem Jr3 (p : Nat) (low : List Nat) (k : Nat) (r : List Nat) : dvg p low (k + 1) r = dvg p low k (Jh0 p (hd0 r) low (tl0 r)) := rfl
theorem Jr4 {p d n : Nat} {l R : Vec} {low : List Nat} (hp : 0 < p) (hl : low.length = d) (hlow : ∀ t, t < d -> ((low.getD t 0 : Nat) : Int) = l (d - 1 - t)) (hlp : ∀ t, t < d -> low.getD t 0 <= p) : ∀ (s k : Nat) (r : List Nat), s + k + d = n -> r.length = n - k ->
  (∀ t, t < n - k -> ((r.getD t 0 : Nat) : Int) = rem p d l R n k (n - 1 - k - t)) -> (dvg p low s r = true ↔ Dvd p d l R n)
 | 0, k, r, hs, hr, hv => by
  have : n - k = d := by omega
  rw [this] at hr hv; show az r = true ↔ _; rw [Jhd, hr]; have hk : n - d = k := by omega
  unfold Dvd; rw [hk]; constructor
  .intro h j hj; have := hv (d - 1 - j) (by omega); rw [h (d - 1 - j) (by omega), show n - 1 - k - (d - 1 - j) = j by omega] at this; exact this.symm
  .intro h t ht; have := hv t ht; rw [h (n - 1 - k - t) (by omega)] at this; exact Int.ofNat_eq_zero.1 this
 | s + 1, k, r, hs, hr, hv => by
  rw [Jr3]; have htl : (tl0 r).length = n - (k + 1) := by rw [Jtv, hr]; omega
  refine Jr4 hp hl hlow hlp s (k + 1) _ (by omega) (by rw [Jhz _ _ _ _ (by rw [htl, hl]; omega), htl]) fun t ht => ?_; rw [Jmq, hl, Jdz, Jg0]; have h0 := hv 0 (by omega); rw [Nat.sub_zero] at h0; have h1 := hv (t + 1) (by omega); rw [show n - 1 - k - (t + 1) = n - 1 - (k + 1) - t by omega] at h1; show _ = rst p d (n - 1 - k) l (rem p d l R n k) (n - 1 - (k + 1) - t); unfold rst; by_cases htd : t < d
  .rw [if_pos htd, if_pos (by omega)]; have h2 := hlow t htd; have h3 := hlp t htd; rw [show n - 1 - (k + 1) - t + d - (n - 1 - k) = d - 1 - t by omega, <- h0, <- h1, <- h2]; generalize r.getD (t + 1) 0 = X at *
   generalize low.getD t 0 = Y at *
   generalize r.getD 0 0 = Z at *
   obtain ⟨D, hD⟩ : ∃ D, p = Y + D := ⟨p - Y, by omega⟩
   rw [show p - Y = D by omega, Int.natCast_emod]; have hcast : ((X + D * Z : Nat) : Int) = ((X : Int) - Y * Z) + p * Z := by
    have : (p : Int) = Y + D := by omega
    rw [this]; push_cast; rw [Int.add_mul]; omega
   rw [hcast, Int.add_mul_emod_self_left]
  .rw [if_neg htd, if_neg (by omega)]; exact h1
theorem Jeh (l : List Nat) (t : Nat) (h : t < l.length) : l.reverse.getD t 0 = l.getD (l.length - 1 - t) 0 := by
 rw [List.getD_eq_getElem?_getD, List.getD_eq_getElem?_getD, List.getElem?_reverse h]
theorem dv_le {p : Nat} (hp : 0 < p) (x i : Nat) : 0 <= dv p x i /\ dv p x i < p := Jfv hp x (i + 1) i (by omega)
theorem Jro {p m v : Nat} (hp : 0 < p) (hv : v < p ^ m) : irrB p m (dgl p m v) = true ↔ Irr p m (dv p v) := by
 have key : ∀ d w, 0 < d -> 2 * d <= m -> (dvg p (dgl p d w).reverse (m + 1 - d) (1 :: (dgl p m v).reverse) = true ↔ Dvd p d (dv p w) (fun i => if i = m then 1 else dv p v i) (m + 1)) := fun d w hd h2 => by
  refine Jr4 hp (by rw [List.length_reverse, QU]) (fun t ht => ?_) (fun t ht => ?_) (m + 1 - d) 0 _ (by omega) (by simp [QU]) fun t ht => ?_
  .rw [Jeh _ _ (by rw [QU]; exact ht), QU, Jcs _ _ _ _ (by omega)]
  .rw [Jeh _ _ (by rw [QU]; exact ht), QU]; have := Jcs p d w (d - 1 - t) (by omega); have := dv_le hp w (d - 1 - t); omega
  .show _ = if m + 1 - 1 - 0 - t = m then (1 : Int) else dv p v (m + 1 - 1 - 0 - t)
   cases t with
   | zero => rw [if_pos (by omega)]; rfl
   | succ t =>
    rw [if_neg (by omega)]; show (((dgl p m v).reverse.getD t 0 : Nat) : Int) = _; rw [Jeh _ _ (by rw [QU]; omega), QU, Jcs _ _ _ _ (by omega), show m + 1 - 1 - 0 - (t + 1) = m - 1 - t by omega]
 unfold irrB; rw [Z7]; constructor
 .intro h d hd h2 w hw hD; have h3 := h (d - 1) (by omega); have h4 := (Z7 _ _).1 (by simpa using h3) w (by rw [show d - 1 + 1 = d by omega]; exact hw); rw [show d - 1 + 1 = d by omega, show m - (d - 1) = m + 1 - d by omega, (key d w hd h2).2 hD] at h4; cases h4
 .intro h d hd; have : nob (fun w => dvg p (dgl p (d + 1) w).reverse (m - d) (1 :: (dgl p m v).reverse)) (p ^ (d + 1)) = true := (Z7 _ _).2 fun w hw => by
   cases hb : dvg p (dgl p (d + 1) w).reverse (m - d) (1 :: (dgl p m v).reverse) with
   | false => rfl
   | true =>
    rw [show m - d = m + 1 - (d + 1) by omega] at hb; exact absurd ((key (d + 1) w (by omega) (by omega)).1 hb) (h (d + 1) (by omega) (by omega) w hw)
  rw [this]; rfl
theorem JO {p m lo n v : Nat} (hp : 2 <= p) (hm : 0 < m) (h : chk p m lo n = true) (h1 : lo <= v) (h2 : v < lo + n) (hv : v < p ^ m) (hi : Irr p m (dv p v)) : ∃ g, Gn (p ^ m) (Jr p m (dv p v)) g := by
 have h3 := (Z7 _ _).1 h (v - lo) (by omega); simp only [show lo + (v - lo) = v by omega, (Jro (by omega) hv).2 hi, cond_true] at h3; exact Jnd hp hm Jtk (by simpa using h3)
end Go.Proofs.Ytjgpkljepgcekaa
namespace Go.Proofs.Ytjgpkljepgcekaa
theorem Jpq : chk 2 2 0 4 = true := by decide +kernel
theorem Jpp : chk 2 3 0 8 = true := by decide +kernel
theorem Jpo : chk 2 4 0 16 = true := by decide +kernel
theorem Jpn : chk 2 5 0 32 = true := by decide +kernel
theorem Jpm : chk 2 6 0 64 = true := by decide +kernel
theorem Jpl : chk 2 7 0 64 = true := by decide +kernel
theorem Jly : chk 2 7 64 64 = true := by decide +kernel
theorem Jpk : chk 2 8 0 24 = true := by decide +kernel
theorem Jlx : chk 2 8 24 24 = true := by decide +kernel
theorem Jlw : chk 2 8 48 24 = true := by decide +kernel
theorem Jlv : chk 2 8 72 24 = true := by decide +kernel
theorem Jlu : chk 2 8 96 24 = true := by decide +kernel
theorem Jjh : chk 2 8 120 24 = true := by decide +kernel
theorem Jjg : chk 2 8 144 24 = true := by decide +kernel
theorem Jjf : chk 2 8 168 24 = true := by decide +kernel
theorem Jje : chk 2 8 192 24 = true := by decide +kernel
theorem Jjd : chk 2 8 216 24 = true := by decide +kernel
theorem Jjc : chk 2 8 240 16 = true := by decide +kernel
theorem Jpj : chk 3 2 0 9 = true := by decide +kernel
theorem Jpi : chk 3 3 0 27 = true := by decide +kernel
theorem Jph : chk 3 4 0 64 = true := by decide +kernel
theorem Jlt : chk 3 4 64 17 = true := by decide +kernel
theorem Jpg : chk 3 5 0 24 = true := by decide +kernel
theorem Jls : chk 3 5 24 24 = true := by decide +kernel
theorem Jlr : chk 3 5 48 24 = true := by decide +kernel
theorem Jlq : chk 3 5 72 24 = true := by decide +kernel
theorem Jlp : chk 3 5 96 24 = true := by decide +kernel
theorem Jjb : chk 3 5 120 24 = true := by decide +kernel
theorem Jja : chk 3 5 144 24 = true := by decide +kernel
theorem Ji9 : chk 3 5 168 24 = true := by decide +kernel
theorem Ji8 : chk 3 5 192 24 = true := by decide +kernel
theorem Ji7 : chk 3 5 216 24 = true := by decide +kernel
theorem Ji6 : chk 3 5 240 3 = true := by decide +kernel
theorem Jpf : chk 5 2 0 25 = true := by decide +kernel
theorem Jpe : chk 5 3 0 64 = true := by decide +kernel
theorem Jlo : chk 5 3 64 61 = true := by decide +kernel
theorem Jpd : chk 7 2 0 49 = true := by decide +kernel
theorem Jl0 : chk 11 2 0 64 = true := by decide +kernel
theorem Jjj : chk 11 2 64 57 = true := by decide +kernel
theorem Jlz : chk 13 2 0 64 = true := by decide +kernel
theorem Jji : chk 13 2 64 64 = true := by decide +kernel
theorem Jg9 : chk 13 2 128 41 = true := by decide +kernel
theorem chk1_0 : ([2, 3, 5, 7, 11, 13, 17, 19, 23, 29, 31, 37, 41, 43, 47, 53, 59, 61] : List Nat).all (fun p => Jli p 1 [0]) = true := by decide +kernel
theorem chk1_1 : ([67, 71, 73, 79, 83, 89, 97, 101, 103, 107, 109, 113, 127, 131, 137, 139, 149, 151] : List Nat).all (fun p => Jli p 1 [0]) = true := by decide +kernel
theorem chk1_2 : ([157, 163, 167, 173, 179, 181, 191, 193, 197, 199, 211, 223, 227, 229, 233, 239, 241, 251] : List Nat).all (fun p => Jli p 1 [0]) = true := by decide +kernel
theorem gx_2_2 {v : Nat} (hv : v < 2 ^ 2) (hI : Irr 2 2 (dv 2 v)) : ∃ g, Gn (2 ^ 2) (Jr 2 2 (dv 2 v)) g := by
 have hv2 : v < 4 := hv; exact JO (by decide) (by decide) Jpq (by omega) (by omega) hv hI
theorem gx_2_3 {v : Nat} (hv : v < 2 ^ 3) (hI : Irr 2 3 (dv 2 v)) : ∃ g, Gn (2 ^ 3) (Jr 2 3 (dv 2 v)) g := by
 have hv2 : v < 8 := hv; exact JO (by decide) (by decide) Jpp (by omega) (by omega) hv hI
theorem gx_2_4 {v : Nat} (hv : v < 2 ^ 4) (hI : Irr 2 4 (dv 2 v)) : ∃ g, Gn (2 ^ 4) (Jr 2 4 (dv 2 v)) g := by
 have hv2 : v < 16 := hv; exact JO (by decide) (by decide) Jpo (by omega) (by omega) hv hI
theorem gx_2_5 {v : Nat} (hv : v < 2 ^ 5) (hI : Irr 2 5 (dv 2 v)) : ∃ g, Gn (2 ^ 5) (Jr 2 5 (dv 2 v)) g := by
 have hv2 : v < 32 := hv; exact JO (by decide) (by decide) Jpn (by omega) (by omega) hv hI
theorem gx_2_6 {v : Nat} (hv : v < 2 ^ 6) (hI : Irr 2 6 (dv 2 v)) : ∃ g, Gn (2 ^ 6) (Jr 2 6 (dv 2 v)) g := by
 have hv2 : v < 64 := hv; exact JO (by decide) (by decide) Jpm (by omega) (by omega) hv hI
theorem gx_2_7 {v : Nat} (hv : v < 2 ^ 7) (hI : Irr 2 7 (dv 2 v)) : ∃ g, Gn (2 ^ 7) (Jr 2 7 (dv 2 v)) g := by
 have hv2 : v < 128 := hv; rcases Nat.lt_or_ge v 64 with h | h
 .exact JO (by decide) (by decide) Jpl (by omega) (by omega) hv hI
 exact JO (by decide) (by decide) Jly (by omega) (by omega) hv hI
theorem gx_2_8 {v : Nat} (hv : v < 2 ^ 8) (hI : Irr 2 8 (dv 2 v)) : ∃ g, Gn (2 ^ 8) (Jr 2 8 (dv 2 v)) g := by
 have hv2 : v < 256 := hv; rcases Nat.lt_or_ge v 24 with h | h
 .exact JO (by decide) (by decide) Jpk (by omega) (by omega) hv hI
 rcases Nat.lt_or_ge v 48 with h | h
 .exact JO (by decide) (by decide) Jlx (by omega) (by omega) hv hI
 rcases Nat.lt_or_ge v 72 with h | h
 .exact JO (by decide) (by decide) Jlw (by omega) (by omega) hv hI
 rcases Nat.lt_or_ge v 96 with h | h
 .exact JO (by decide) (by decide) Jlv (by omega) (by omega) hv hI
 rcases Nat.lt_or_ge v 120 with h | h
 .exact JO (by decide) (by decide) Jlu (by omega) (by omega) hv hI
 rcases Nat.lt_or_ge v 144 with h | h
 .exact JO (by decide) (by decide) Jjh (by omega) (by omega) hv hI
 rcases Nat.lt_or_ge v 168 with h | h
 .exact JO (by decide) (by decide) Jjg (by omega) (by omega) hv hI
 rcases Nat.lt_or_ge v 192 with h | h
 .exact JO (by decide) (by decide) Jjf (by omega) (by omega) hv hI
 rcases Nat.lt_or_ge v 216 with h | h
 .exact JO (by decide) (by decide) Jje (by omega) (by omega) hv hI
 rcases Nat.lt_or_ge v 240 with h | h
 .exact JO (by decide) (by decide) Jjd (by omega) (by omega) hv hI
 exact JO (by decide) (by decide) Jjc (by omega) (by omega) hv hI
theorem gx_3_2 {v : Nat} (hv : v < 3 ^ 2) (hI : Irr 3 2 (dv 3 v)) : ∃ g, Gn (3 ^ 2) (Jr 3 2 (dv 3 v)) g := by
 have hv2 : v < 9 := hv; exact JO (by decide) (by decide) Jpj (by omega) (by omega) hv hI
theorem gx_3_3 {v : Nat} (hv : v < 3 ^ 3) (hI : Irr 3 3 (dv 3 v)) : ∃ g, Gn (3 ^ 3) (Jr 3 3 (dv 3 v)) g := by
 have hv2 : v < 27 := hv; exact JO (by decide) (by decide) Jpi (by omega) (by omega) hv hI
theorem gx_3_4 {v : Nat} (hv : v < 3 ^ 4) (hI : Irr 3 4 (dv 3 v)) : ∃ g, Gn (3 ^ 4) (Jr 3 4 (dv 3 v)) g := by
 have hv2 : v < 81 := hv; rcases Nat.lt_or_ge v 64 with h | h
 .exact JO (by decide) (by decide) Jph (by omega) (by omega) hv hI
 exact JO (by decide) (by decide) Jlt (by omega) (by omega) hv hI
theorem gx_3_5 {v : Nat} (hv : v < 3 ^ 5) (hI : Irr 3 5 (dv 3 v)) : ∃ g, Gn (3 ^ 5) (Jr 3 5 (dv 3 v)) g := by
 have hv2 : v < 243 := hv; rcases Nat.lt_or_ge v 24 with h | h
 .exact JO (by decide) (by decide) Jpg (by omega) (by omega) hv hI
 rcases Nat.lt_or_ge v 48 with h | h
 .exact JO (by decide) (by decide) Jls (by omega) (by omega) hv hI
 rcases Nat.lt_or_ge v 72 with h | h
 .exact JO (by decide) (by decide) Jlr (by omega) (by omega) hv hI
 rcases Nat.lt_or_ge v 96 with h | h
 .exact JO (by decide) (by decide) Jlq (by omega) (by omega) hv hI
 rcases Nat.lt_or_ge v 120 with h | h
 .exact JO (by decide) (by decide) Jlp (by omega) (by omega) hv hI
 rcases Nat.lt_or_ge v 144 with h | h
 .exact JO (by decide) (by decide) Jjb (by omega) (by omega) hv hI
 rcases Nat.lt_or_ge v 168 with h | h
 .exact JO (by decide) (by decide) Jja (by omega) (by omega) hv hI
 rcases Nat.lt_or_ge v 192 with h | h
 .exact JO (by decide) (by decide) Ji9 (by omega) (by omega) hv hI
 rcases Nat.lt_or_ge v 216 with h | h
 .exact JO (by decide) (by decide) Ji8 (by omega) (by omega) hv hI
 rcases Nat.lt_or_ge v 240 with h | h
 .exact JO (by decide) (by decide) Ji7 (by omega) (by omega) hv hI
 exact JO (by decide) (by decide) Ji6 (by omega) (by omega) hv hI
theorem gx_5_2 {v : Nat} (hv : v < 5 ^ 2) (hI : Irr 5 2 (dv 5 v)) : ∃ g, Gn (5 ^ 2) (Jr 5 2 (dv 5 v)) g := by
 have hv2 : v < 25 := hv; exact JO (by decide) (by decide) Jpf (by omega) (by omega) hv hI
theorem gx_5_3 {v : Nat} (hv : v < 5 ^ 3) (hI : Irr 5 3 (dv 5 v)) : ∃ g, Gn (5 ^ 3) (Jr 5 3 (dv 5 v)) g := by
 have hv2 : v < 125 := hv; rcases Nat.lt_or_ge v 64 with h | h
 .exact JO (by decide) (by decide) Jpe (by omega) (by omega) hv hI
 exact JO (by decide) (by decide) Jlo (by omega) (by omega) hv hI
theorem gx_7_2 {v : Nat} (hv : v < 7 ^ 2) (hI : Irr 7 2 (dv 7 v)) : ∃ g, Gn (7 ^ 2) (Jr 7 2 (dv 7 v)) g := by
 have hv2 : v < 49 := hv; exact JO (by decide) (by decide) Jpd (by omega) (by omega) hv hI
theorem Juu {v : Nat} (hv : v < 11 ^ 2) (hI : Irr 11 2 (dv 11 v)) : ∃ g, Gn (11 ^ 2) (Jr 11 2 (dv 11 v)) g := by
 have hv2 : v < 121 := hv; rcases Nat.lt_or_ge v 64 with h | h
 .exact JO (by decide) (by decide) Jl0 (by omega) (by omega) hv hI
 exact JO (by decide) (by decide) Jjj (by omega) (by omega) hv hI
theorem Jut {v : Nat} (hv : v < 13 ^ 2) (hI : Irr 13 2 (dv 13 v)) : ∃ g, Gn (13 ^ 2) (Jr 13 2 (dv 13 v)) g := by
 have hv2 : v < 169 := hv; rcases Nat.lt_or_ge v 64 with h | h
 .exact JO (by decide) (by decide) Jlz (by omega) (by omega) hv hI
 rcases Nat.lt_or_ge v 128 with h | h
 .exact JO (by decide) (by decide) Jji (by omega) (by omega) hv hI
 exact JO (by decide) (by decide) Jg9 (by omega) (by omega) hv hI
noncomputable def prL : List Nat := [2, 3, 5, 7, 11, 13, 17, 19, 23, 29, 31, 37, 41, 43, 47, 53, 59, 61, 67, 71, 73, 79, 83, 89, 97, 101, 103, 107, 109, 113, 127, 131, 137, 139, 149, 151, 157, 163, 167, 173, 179, 181, 191, 193, 197, 199, 211, 223, 227, 229, 233, 239, 241, 251]
theorem Jt9 : (List.range 257).all (fun p => prL.contains p || Nat.blt p 2 || (List.range p).any (fun e => Nat.ble 2 e && Nat.beq (p % e) 0)) = true := by decide +kernel
theorem Jt8 {p : Nat} (hp : IsLf p p) (h : p <= 256) : p ∈ prL := by
 have h1 := List.all_eq_true.1 Jt9 p (List.mem_range.2 (by omega)); simp only [Bool.or_eq_true, List.contains_iff_mem, List.any_eq_true, List.mem_range, Bool.and_eq_true] at h1; rcases h1 with (h1 | h1) | ⟨e, he, h2, h3⟩
 .exact h1
 .have := hp.two; have := Nat.le_of_ble_eq_true h1; omega
 .have := hp.min e (Nat.le_of_ble_eq_true h2) (Nat.eq_of_beq_eq_true h3); omega
theorem gx_1 {p : Nat} (hp : IsLf p p) (h : p <= 256) : ∃ g, Gn (p ^ 1) (Jr p 1 (dv p 0)) g := by
 have hm := Jt8 hp h; have hg : Jli p 1 [0] = true := by
  unfold prL at hm; rw [show ([2, 3, 5, 7, 11, 13, 17, 19, 23, 29, 31, 37, 41, 43, 47, 53, 59, 61, 67, 71, 73, 79, 83, 89, 97, 101, 103, 107, 109, 113, 127, 131, 137, 139, 149, 151, 157, 163, 167, 173, 179, 181, 191, 193, 197, 199, 211, 223, 227, 229, 233, 239, 241, 251] : List Nat) = ([2, 3, 5, 7, 11, 13, 17, 19, 23, 29, 31, 37, 41, 43, 47, 53, 59, 61] : List Nat) ++ ([67, 71, 73, 79, 83, 89, 97, 101, 103, 107, 109, 113, 127, 131, 137, 139, 149, 151] : List Nat) ++ ([157, 163, 167, 173, 179, 181, 191, 193, 197, 199, 211, 223, 227, 229, 233, 239, 241, 251] : List Nat) from rfl] at hm; simp only [List.mem_append] at hm; rcases hm with (h | h) | h
  .exact List.all_eq_true.1 chk1_0 p h
  .exact List.all_eq_true.1 chk1_1 p h
  .exact List.all_eq_true.1 chk1_2 p h
 refine Jnd hp.two (by decide) ⟨rfl, fun i hi => ?_⟩ hg; rw [show i = 0 by omega, Jel]; simp [vz]
theorem Jq9 {p m : Nat} (hp : IsLf p p) (hm : 2 <= m) (hq : p ^ m <= 256) : (p = 2 /\ m = 2) ∨ (p = 2 /\ m = 3) ∨ (p = 2 /\ m = 4) ∨ (p = 2 /\ m = 5) ∨ (p = 2 /\ m = 6) ∨ (p = 2 /\ m = 7) ∨ (p = 2 /\ m = 8) ∨ (p = 3 /\ m = 2) ∨ (p = 3 /\ m = 3) ∨ (p = 3 /\ m = 4) ∨ (p = 3 /\ m = 5) ∨ (p = 5 /\ m = 2) ∨ (p = 5 /\ m = 3) ∨ (p = 7 /\ m = 2) ∨ (p = 11 /\ m = 2) ∨ (p = 13 /\ m = 2) := by
  have h2 := hp.two
  have hpow : ∀ k, k <= m -> p ^ k <= 256 := fun k hk => Nat.le_trans (Nat.pow_le_pow_right (by omega) hk) hq
  have hp2 : p <= 16 := by
    rcases Nat.lt_or_ge 16 p with h | h
    . have h1 := hpow 2 hm
      have h3 : 17 ^ 2 <= p ^ 2 := Nat.pow_le_pow_left h 2
      omega
    . exact h
  have hnd : ∀ e, 2 <= e -> e < p -> p % e ≠ 0 := fun e he hlt h0 => by have := hp.min e he h0; omega
  have hc : p = 2 ∨ p = 3 ∨ p = 5 ∨ p = 7 ∨ p = 11 ∨ p = 13 := by
    have h3 := hnd 2 (by omega)
    have h4 := hnd 3 (by omega)
    omega
  rcases hc with rfl | rfl | rfl | rfl | rfl | rfl
  . have : m <= 8 := by
      rcases Nat.lt_or_ge 8 m with h | h
      . have := hpow 9 h; omega
      . exact h
    omega
  . have : m <= 5 := by
      rcases Nat.lt_or_ge 5 m with h | h
      . have := hpow 6 h; omega
      . exact h
    omega
  . have : m <= 3 := by
      rcases Nat.lt_or_ge 3 m with h | h
      . have := hpow 4 h; omega
      . exact h
    omega
  . have : m <= 2 := by
      rcases Nat.lt_or_ge 2 m with h | h
      . have := hpow 3 h; omega
      . exact h
    omega
  . have : m <= 2 := by
      rcases Nat.lt_or_ge 2 m with h | h
      . have := hpow 3 h; omega
      . exact h
    omega
  . have : m <= 2 := by
      rcases Nat.lt_or_ge 2 m with h | h
      . have := hpow 3 h; omega
      . exact h
    omega
theorem gen_ex {p m v : Nat} (hp : IsLf p p) (hm : 0 < m) (hq : p ^ m <= 256) (hv : v < p ^ m) (h1 : m = 1 -> v = 0) (hI : Irr p m (dv p v)) : ∃ g, Gn (p ^ m) (Jr p m (dv p v)) g := by
  rcases Nat.lt_or_ge m 2 with h | h
  . have : m = 1 := by omega
    subst this
    rw [h1 rfl]
    exact gx_1 hp (by simpa using hq)
  . rcases Jq9 hp h hq with ⟨rfl, rfl⟩ | ⟨rfl, rfl⟩ | ⟨rfl, rfl⟩ | ⟨rfl, rfl⟩ | ⟨rfl, rfl⟩ | ⟨rfl, rfl⟩ | ⟨rfl, rfl⟩ | ⟨rfl, rfl⟩ | ⟨rfl, rfl⟩ | ⟨rfl, rfl⟩ | ⟨rfl, rfl⟩ | ⟨rfl, rfl⟩ | ⟨rfl, rfl⟩ | ⟨rfl, rfl⟩ | ⟨rfl, rfl⟩ | ⟨rfl, rfl⟩
    . exact gx_2_2 hv hI
    . exact gx_2_3 hv hI
    . exact gx_2_4 hv hI
    . exact gx_2_5 hv hI
    . exact gx_2_6 hv hI
    . exact gx_2_7 hv hI
    . exact gx_2_8 hv hI
    . exact gx_3_2 hv hI
    . exact gx_3_3 hv hI
    . exact gx_3_4 hv hI
    . exact gx_3_5 hv hI
    . exact gx_5_2 hv hI
    . exact gx_5_3 hv hI
    . exact gx_7_2 hv hI
    . exact Juu hv hI
    . exact Jut hv hI
end Go.Proofs.Ytjgpkljepgcekaa
namespace Go.Proofs.Ytjgpkljepgcekaa
def vo (l : LI) : Vec := fun i => l.getD i 0
theorem JW (l : LI) (i : Nat) : gi l (i : Int) = vo l i := rfl
theorem Qo (l : LI) (i : Nat) (x : Int) : si l (i : Int) x = l.set i x := rfl
theorem Jbh (a b : Nat) : (a : Int).tmod (b : Int) = ((a % b : Nat) : Int) := rfl
theorem Jhv (a b : Nat) : (a : Int).tdiv (b : Int) = ((a / b : Nat) : Int) := rfl
theorem Qd (l : LI) (i j : Nat) (x : Int) : vo (l.set i x) j = if i = j /\ i < l.length then x else vo l j := by
 unfold vo; rw [List.getD_eq_getElem?_getD, List.getD_eq_getElem?_getD, List.getElem?_set]; by_cases h : i = j
 .subst h; by_cases h2 : i < l.length
  .simp [h2]
  .simp [h2]
 .simp [h]
theorem Jkd (n : Nat) (i : Nat) : vo (List.replicate n (0 : Int)) i = 0 := by
 unfold vo; rw [List.getD_eq_getElem?_getD, List.getElem?_replicate]; split <;> rfl
theorem Jar {l : LI} {i : Nat} (h : l.length <= i) : vo l i = 0 := by
 unfold vo; rw [List.getD_eq_getElem?_getD, List.getElem?_eq_none h]; rfl
theorem YB {l o : LI} (h : l.length = o.length) (hv : ∀ i, i < l.length -> vo l i = vo o i) : l = o := by
 refine List.ext_getElem h fun i h1 h2 => ?_; have := hv i h1; unfold vo at this; rw [List.getD_eq_getElem?_getD, List.getD_eq_getElem?_getD, List.getElem?_eq_getElem h1, List.getElem?_eq_getElem h2] at this; exact this
theorem Ju {x : Int} (h : -1000000000000 <= x) (h2 : x <= 1000000000000) : I64 x := ⟨by omega, by omega⟩
theorem Ze {n : Nat} (h : n <= 1000000000000) : I64 (n : Int) := Ju (by omega) (by omega)
def dgi (p n x : Nat) : LI := (dgl p n x).map fun (a : Nat) => (a : Int)
theorem Qe (p n x : Nat) : (dgi p n x).length = n := by simp [dgi, QU]
theorem Yt {p n x i : Nat} (h : i < n) : vo (dgi p n x) i = dv p x i := by
 rw [<- Jcs p n x i h]; unfold vo dgi; rw [List.getD_eq_getElem?_getD, List.getElem?_map, List.getD_eq_getElem?_getD]; rw [List.getElem?_eq_getElem (by rw [QU]; exact h)]; rfl
theorem Jqk {b : Bool} {Q : Int -> Prop} (h : Q (if b = true then 0 else 1)) : Jez b Q := by
 cases b
 .exact ⟨fun h' => absurd h' (by decide), fun _ => h⟩
 .exact ⟨fun _ => h, fun h' => absurd h' (by decide)⟩
theorem Juo {n k : Nat} (hn : 2 <= n) (hk : n < k * k) (h : ∀ e, e < k -> 2 <= e -> n % e ≠ 0) : IsLf n n := by
 refine ⟨hn, Nat.mod_self n, fun e he hm => ?_⟩; rcases Nat.lt_or_ge e k with hc | hc
 .exact absurd hm (h e hc he)
 .obtain ⟨t, ht⟩ := Nat.dvd_of_mod_eq_zero hm; have hq1 : t < k := by
   rcases Nat.lt_or_ge t k with h1 | h1
   .exact h1
   .have := Nat.mul_le_mul hc h1; omega
  rcases Nat.lt_or_ge t 2 with h2 | h2
  .have : t = 0 ∨ t = 1 := by omega
   rcases this with rfl | rfl
   .omega
   .omega
  .exact absurd (Nat.mod_eq_zero_of_dvd ⟨e, by rw [ht, Nat.mul_comm]⟩) (h t hq1 h2)
theorem Jdu {x : Nat} {Q : Int -> Prop} (h2 : 2 <= x) (hx : x <= 256) (h : ∀ d : Nat, IsLf x d -> Q d) : Ya x Q := by
 refine ⟨fun z => ∃ k : Nat, z = k /\ 2 <= k /\ k <= 17 /\ ∀ e, e < k -> 2 <= e -> x % e ≠ 0, fun z => (20 - z).toNat, ⟨2, rfl, by omega, by omega, fun e _ _ => by omega⟩, ?_⟩; rintro _ ⟨k, rfl, hk2, hk, hm⟩; dsimp only; have e1 : ((k : Nat) : Int) * (k : Int) = ((k * k : Nat) : Int) := by push_cast; rfl
 have hb : k * k <= 17 * 17 := Nat.mul_le_mul hk hk; rw [e1]; refine ⟨Ju (by omega) (by omega), fun hle => ⟨by omega, ?_, ?_⟩, fun hgt => ?_⟩
 .intro h0; rw [Jbh] at h0; refine h k ⟨hk2, by omega, fun e he h3 => ?_⟩; rcases Nat.lt_or_ge e k with hc | hc
  .exact absurd h3 (hm e hc he)
  .exact hc
 .intro h0; rw [Jbh] at h0; have hk16 : k <= 16 := by
   rcases Nat.lt_or_ge 16 k with hc | hc
   .have := Nat.mul_le_mul hc hc; omega
   .exact hc
  refine ⟨Ju (by omega) (by omega), ⟨k + 1, by push_cast; rfl, by omega, by omega, fun e he h3 => ?_⟩, by omega⟩; rcases Nat.lt_or_ge e k with hc | hc
  .exact hm e hc h3
  .rw [show e = k by omega]; omega
 .exact h x (Juo h2 (by omega) hm)
theorem IsLf.uniq {n d e : Nat} (h : IsLf n d) (h' : IsLf n e) : d = e := Nat.le_antisymm (h.min e h'.two h'.dvd) (h'.min d h.two h.dvd)
theorem Jog {x : Int} {Q : Bool -> Prop} (hx : x <= 256) (h : ∀ b : Bool, (b = true ↔ 2 <= x /\ IsLf x.toNat x.toNat) -> Q b) : Jag x Q := by
 refine ⟨fun h2 => ?_, fun h2 => h false ⟨fun h' => by (cases h'), fun h' => absurd h'.1 h2⟩⟩; obtain ⟨n, rfl⟩ := Int.eq_ofNat_of_zero_le (show 0 <= x by omega); refine Jdu (by omega) (by omega) fun d hd => h _ ?_; rw [decide_eq_true_iff, Int.toNat_natCast]; constructor
 .intro he; have : d = n := by omega
  subst this; exact ⟨h2, hd⟩
 .rintro ⟨_, hn⟩; rw [hd.uniq hn]
theorem Jqh {x : Nat} {Q : Bool -> Prop} (h2 : 2 <= x) (hx : x <= 256) (h : ∀ b : Bool, (b = true ↔ IsLf x x) -> Q b) : Jb3 x Q := by
 refine ⟨fun z => ∃ k : Nat, z = k /\ 2 <= k /\ k <= x /\ ∀ e, e < k -> 2 <= e -> x % e ≠ 0, fun z => (x - z).toNat, ⟨2, rfl, by omega, by omega, fun e _ _ => by omega⟩, ?_⟩; rintro _ ⟨k, rfl, hk2, hk, hm⟩; dsimp only; refine ⟨fun hlt => ⟨by omega, fun h0 => ?_, fun h0 => ?_⟩, fun hge => ?_⟩
 .rw [Jbh] at h0; refine h false ⟨fun h' => by (cases h'), fun hp => ?_⟩; have := hp.min k hk2 (by omega); omega
 .rw [Jbh] at h0; refine ⟨Ju (by omega) (by omega), ⟨k + 1, by push_cast; rfl, by omega, by omega, fun e he h3 => ?_⟩, by omega⟩; rcases Nat.lt_or_ge e k with hc | hc
  .exact hm e hc h3
  .rw [show e = k by omega]; omega
 .refine h true ⟨fun _ => ⟨h2, Nat.mod_self x, fun e he h0 => ?_⟩, fun _ => rfl⟩; rcases Nat.lt_or_ge e x with hc | hc
  .exact absurd h0 (hm e (by omega) he)
  .exact hc
theorem Qw {p a b : Nat} (hp : 0 < p) (h : a <= b) : p ^ a <= p ^ b := Nat.pow_le_pow_right hp h
theorem Jf7 {p : Nat} {M : Int} {mf : LI} {Q : Int -> Prop} (hp : 2 <= p) (hp2 : p <= 256) (h : ∀ r : Int, (p ^ M.toNat <= 256 -> r = ((p ^ M.toNat : Nat) : Int)) -> (256 < p ^ M.toNat -> 256 < r) -> Q r) : Zw p M mf Q := by
 refine ⟨fun r => (p ^ M.toNat <= 256 -> r = ((p ^ M.toNat : Nat) : Int)) /\ (256 < p ^ M.toNat -> 256 < r), ⟨fun z i => ∃ k : Nat, i = k /\ k <= M.toNat /\ z = ((p ^ k : Nat) : Int) /\ p ^ k <= 65536 /\ k <= 16, fun z i => (20 - i).toNat, ⟨0, rfl, Nat.zero_le _, by simp, by simp, by omega⟩, ?_⟩, fun r hr => h r hr.1 hr.2⟩; rintro _ _ ⟨k, rfl, hk, rfl, hb, hk16⟩; dsimp only; refine ⟨fun hlt => ⟨fun hle => ?_, fun hgt => ?_⟩, fun hge => ?_⟩
 .have hk8 : p ^ k <= 256 := by omega
  have hkk : k < 16 := by
   rcases Nat.lt_or_ge k 16 with hc | hc
   .exact hc
   .have h1 := Qw (p := p) (by omega) hc; have h2 : 2 ^ 16 <= p ^ 16 := Nat.pow_le_pow_left hp 16; omega
  have e1 : ((p ^ k : Nat) : Int) * (p : Int) = ((p ^ (k + 1) : Nat) : Int) := by rw [Nat.pow_succ]; push_cast; rfl
  have hb2 : p ^ (k + 1) <= 65536 := by
   rw [Nat.pow_succ]; have := Nat.mul_le_mul hk8 hp2; omega
  rw [e1]; exact ⟨Ju (by omega) (by omega), Ju (by omega) (by omega), ⟨k + 1, by push_cast; rfl, by omega, rfl, hb2, by omega⟩, by omega⟩
 .have := Qw (p := p) (by omega) hk; exact ⟨fun h' => by omega, fun _ => by omega⟩
 .have : k = M.toNat := by omega
  subst this; exact ⟨fun _ => rfl, fun h' => by omega⟩
def Je5 (P M : Int) : Int := if 2 <= P /\ 1 <= M /\ P.toNat ^ M.toNat <= 256 then ((P.toNat ^ M.toNat : Nat) : Int) else 0
theorem Jbg {P M : Int} {mf : LI} {Q : Int -> Prop} (h : Q (Je5 P M)) : YG P M mf Q := by
 refine ⟨fun h1 => ?_, fun h1 => ⟨fun h2 => ?_, fun h2 => ⟨fun h3 => ?_, fun h3 => ?_⟩⟩⟩
 .rw [Je5, if_neg (by omega)] at h; exact h
 .rw [Je5, if_neg (by omega)] at h; exact h
 .rw [Je5, if_neg] at h
  .exact h
  .rintro ⟨h4, h5, h6⟩; have e1 : 2 ^ 9 <= P.toNat ^ 9 := Nat.pow_le_pow_left (by omega) 9; have e2 := Qw (p := P.toNat) (by omega) (show 9 <= M.toNat by omega); omega
 .obtain ⟨p, rfl⟩ := Int.eq_ofNat_of_zero_le (show 0 <= P by omega); obtain ⟨m, rfl⟩ := Int.eq_ofNat_of_zero_le (show 0 <= M by omega); refine ⟨fun z i => ∃ k : Nat, i = k /\ k <= m /\ z = ((p ^ k : Nat) : Int) /\ p ^ k <= 256, fun z i => (20 - i).toNat, ⟨0, rfl, Nat.zero_le _, by simp, by simp⟩, ?_⟩; rintro _ _ ⟨k, rfl, hk, rfl, hb⟩; dsimp only; rw [show (256 : Int) = ((256 : Nat) : Int) from rfl, Jhv]; have hd : 256 / p <= 256 := Nat.div_le_self _ _; have hdm : ∀ a, a <= 256 / p ↔ a * p <= 256 := fun a => Nat.le_div_iff_mul_le (show 0 < p by omega); generalize 256 / p = D at *
  refine ⟨fun hlt => ⟨⟨by omega, Ju (by omega) (by omega)⟩, fun hgt => ?_, fun hle => ?_⟩, fun hge => ?_⟩
  .rw [Je5, if_neg] at h
   .exact h
   .rintro ⟨_, _, h6⟩; simp only [Int.toNat_natCast] at h6; have h7 : p ^ (k + 1) <= 256 := Nat.le_trans (Qw (by omega) (by omega)) h6; rw [Nat.pow_succ] at h7; have := (hdm _).2 h7; omega
  .have h7 : p ^ (k + 1) <= 256 := by rw [Nat.pow_succ]; exact (hdm _).1 (by omega)
   have e1 : ((p ^ k : Nat) : Int) * (p : Int) = ((p ^ (k + 1) : Nat) : Int) := by rw [Nat.pow_succ]; push_cast; rfl
   rw [e1]; exact ⟨Ju (by omega) (by omega), Ju (by omega) (by omega), ⟨k + 1, by push_cast; rfl, by omega, rfl, h7⟩, by omega⟩
  .have : k = m := by omega
   subst this; rw [Je5, if_pos ⟨by omega, by omega, by simpa using hb⟩] at h
   simpa using h
theorem Jbx (x p i : Nat) : x / p ^ i / p = x / p ^ (i + 1) := by rw [Nat.div_div_eq_div_mul, Nat.pow_succ]
theorem Jdw {p n x : Nat} {Q : LI -> Prop} (hp : 0 < p) (hn : n <= 1000) (hx : x <= 1000) (h : Q (dgi p n x)) : Zc p n x Q := by
 refine ⟨⟨by omega, by omega, by omega⟩, fun l z i => ∃ k : Nat, i = k /\ k <= n /\ z = ((x / p ^ k : Nat) : Int) /\ l.length = n /\ ∀ j, j < k -> vo l j = dv p x j, fun l z i => (n - i).toNat, ⟨0, rfl, Nat.zero_le _, by simp, by simp, fun j hj => by omega⟩, ?_⟩; rintro l _ _ ⟨k, rfl, hk, rfl, hl, hv⟩; dsimp only; have hd : x / p ^ k <= x := Nat.div_le_self _ _; have hd2 : x / p ^ k / p <= x / p ^ k := Nat.div_le_self _ _; rw [Jhv, Jbh, Qo]; simp only [Int.toNat_natCast]; refine ⟨fun hlt => ⟨by omega, ⟨by omega, by omega⟩, ⟨by omega, Ze (by omega)⟩, Ju (by omega) (by omega), ⟨k + 1, by push_cast; rfl, by omega, by rw [Jbx], by rw [List.length_set, hl], fun j hj => ?_⟩, by omega⟩, fun hge => ?_⟩
 .rw [Qd]; by_cases hjk : k = j
  .subst hjk; rw [if_pos ⟨rfl, by omega⟩]; rfl
  .rw [if_neg (by omega)]; exact hv j (by omega)
 .have : l = dgi p n x := YB (by rw [hl, Qe]) fun j hj => by rw [hv j (by omega), Yt (by omega)]
  rw [this]; exact h
theorem Joe {p n x : Nat} {Q : LI -> Prop} (hp : 0 < p) (hn : n <= 1000) (hx : x <= 1000) (h : Q (dgi p n x)) : Jad x p n Q := by
 refine ⟨⟨by omega, by omega, by omega⟩, fun l z i => ∃ k : Nat, i = k /\ k <= n /\ z = ((x / p ^ k : Nat) : Int) /\ l.length = n /\ ∀ j, j < k -> vo l j = dv p x j, fun l z i => (n - i).toNat, ⟨0, rfl, Nat.zero_le _, by simp, by simp, fun j hj => by omega⟩, ?_⟩; rintro l _ _ ⟨k, rfl, hk, rfl, hl, hv⟩; dsimp only; have hd : x / p ^ k <= x := Nat.div_le_self _ _; have hd2 : x / p ^ k / p <= x / p ^ k := Nat.div_le_self _ _; rw [Jhv, Jbh, Qo]; simp only [Int.toNat_natCast]; refine ⟨fun hlt => ⟨by omega, ⟨by omega, by omega⟩, ⟨by omega, Ze (by omega)⟩, Ju (by omega) (by omega), ⟨k + 1, by push_cast; rfl, by omega, by rw [Jbx], by rw [List.length_set, hl], fun j hj => ?_⟩, by omega⟩, fun hge => ?_⟩
 .rw [Qd]; by_cases hjk : k = j
  .subst hjk; rw [if_pos ⟨rfl, by omega⟩]; rfl
  .rw [if_neg (by omega)]; exact hv j (by omega)
 .have : l = dgi p n x := YB (by rw [hl, Qe]) fun j hj => by rw [hv j (by omega), Yt (by omega)]
  rw [this]; exact h
theorem Jht {p m x : Nat} {mf : LI} {Q : Int -> Prop} (hp : 2 <= p) (hp2 : p <= 256) (hx : x <= 256) (h : Q ((if x % p = p - 1 then x - x % p else x + 1 : Nat) : Int)) : YQ p m mf x Q := by
 have hm := Nat.mod_lt x (show 0 < p by omega); have hm2 := Nat.mod_le x p; refine ⟨by omega, Ju (by omega) (by omega), fun h0 => ⟨by omega, ?_⟩, fun h0 => ?_⟩
 .rw [Jbh] at h0 ⊢; rw [if_pos (by omega)] at h; refine ⟨Ju (by omega) (by omega), ?_⟩; rw [show (x : Int) - ((x % p : Nat) : Int) = ((x - x % p : Nat) : Int) by omega]; exact h
 .rw [Jbh] at h0; rw [if_neg (by omega)] at h; exact ⟨Ju (by omega) (by omega), by push_cast at h ⊢; exact h⟩
theorem Z2 {l : LI} {Q : LI -> Prop} (hl : l.length <= 1000000) (h : Q l) : Yk l Q := by
 intro b hb; refine ⟨fun h1 => by rw [<- hb h1]; exact h, fun _ => ⟨by omega, by simpa using h⟩⟩
end Go.Proofs.Ytjgpkljepgcekaa
namespace Go.Proofs.Ytjgpkljepgcekaa
theorem Jac {l : LI} {f : Int -> Bool} : l.any f = true ↔ ∃ i, i < l.length /\ f (vo l i) = true := by
  rw [List.any_eq_true]
  constructor
  . rintro ⟨x, hx, hf⟩
    obtain ⟨i, hi, rfl⟩ := List.mem_iff_getElem.1 hx
    refine ⟨i, hi, ?_⟩
    unfold vo; rw [List.getD_eq_getElem?_getD, List.getElem?_eq_getElem hi]; exact hf
  . rintro ⟨i, hi, hf⟩
    unfold vo at hf
    rw [List.getD_eq_getElem?_getD, List.getElem?_eq_getElem hi] at hf
    exact ⟨l[i], List.getElem_mem hi, hf⟩
theorem Jdx {l : LI} {p : Int -> (Bool -> Prop) -> Prop} {f : Int -> Bool} {Q : Bool -> Prop} (hl : l.length <= 1000000000) (hp : ∀ x (R : Bool -> Prop), R (f x) -> p x R) (h : Q (l.any f)) : QX l p Q := by
 refine ⟨fun z => ∃ k : Nat, z = k /\ k <= l.length /\ ∀ j, j < k -> f (vo l j) = false, fun z => (l.length - z).toNat, ⟨0, rfl, Nat.zero_le _, fun j hj => by omega⟩, ?_⟩; rintro _ ⟨k, rfl, hk, hv⟩; dsimp only; refine ⟨fun hlt => ⟨⟨by omega, by omega⟩, hp _ _ ⟨fun hb => ?_, fun hb => ⟨Ju (by omega) (by omega), ⟨k + 1, by push_cast; rfl, by omega, fun j hj => ?_⟩, by omega⟩⟩⟩, fun hge => ?_⟩
 .rw [Jac.2 ⟨k, by omega, hb⟩] at h; rw [decide_eq_true (by omega)]; exact h
 .rw [JW] at hb; by_cases hjk : j = k
  .subst hjk; exact hb
  .exact hv j (by omega)
 .have : l.any f = false := by
   cases hb : l.any f with
   | false => rfl
   | true =>
    obtain ⟨i, hi, hf⟩ := Jac.1 hb; rw [hv i (by omega)] at hf; cases hf
  rw [this] at h; exact h
theorem Jkr {p : Nat} {a l c : Int} (hp : 0 < p) (ha : 0 <= a) (hl : l <= p) (hc : 0 <= c) : (a + ((p : Int) - l) * c).tmod p = (a - l * c) % (p : Int) := by
 have h1 : 0 <= ((p : Int) - l) * c := Int.mul_nonneg (by omega) hc; rw [Int.tmod_eq_emod_of_nonneg (by omega)]; have : a + ((p : Int) - l) * c = (a - l * c) + p * c := by rw [Int.sub_mul]; omega
 rw [this, Int.add_mul_emod_self_left]
theorem Jkq {p d n : Nat} {l R : Vec} (hp : 0 < p) {N : Nat} (hR : Cn p N R) : ∀ k, Cn p N (rem p d l R n k)
 | 0 => hR
 | k + 1 => fun j hj => by
  show 0 <= rst _ _ _ _ _ j /\ rst _ _ _ _ _ j < _; unfold rst; split
  .exact ⟨Int.emod_nonneg _ (by omega), Int.emod_lt_of_pos _ (by omega)⟩
  .exact Jkq hp hR k j hj
theorem Jer {a b : Int} {p : Nat} (hp : p <= 256) (ha : 0 <= a /\ a <= p) (hb : 0 <= b /\ b <= p) : 0 <= a * b /\ a * b <= 65536 := by
 obtain ⟨x, rfl⟩ := Int.eq_ofNat_of_zero_le ha.1; obtain ⟨y, rfl⟩ := Int.eq_ofNat_of_zero_le hb.1; have : x * y <= 256 * 256 := Nat.mul_le_mul (by omega) (by omega); have e : ((x : Int)) * (y : Int) = ((x * y : Nat) : Int) := by push_cast; rfl
 rw [e]; omega
theorem Jmn {l : LI} {n i : Nat} (h : i < n) : vo (l.take n) i = vo l i := by
 unfold vo; rw [List.getD_eq_getElem?_getD, List.getD_eq_getElem?_getD, List.getElem?_take, if_pos h]
theorem Jff {p : Nat} {l o : LI} {Q : Bool -> Prop} (hp : 0 < p) (hp2 : p <= 256) (hl : Cn p l.length (vo l)) (ho : Cn p o.length (vo o)) (hd : 0 < l.length) (hdn : l.length <= o.length) (hn : o.length <= 1000)
  (h : ∀ b : Bool, (b = true ↔ Dvd p l.length (vo l) (vo o) o.length) -> Q b) : Zb p l o Q := by
 refine Z2 (by omega) ⟨Ju (by omega) (by omega), ?_⟩; generalize hdd : l.length = d at *
 generalize hnn : o.length = n at *
 refine ⟨fun x z => ∃ k : Nat, z = (n : Int) - 1 - k /\ k <= n - d /\ x.length = n /\ ∀ j, j < n -> vo x j = rem p d (vo l) (vo o) n k j, fun x z => (z + 1).toNat, ⟨0, by omega, by omega, hnn, fun j _ => rfl⟩, ?_⟩; rintro x _ ⟨k, rfl, hk, hx, hv⟩; dsimp only; have hc := Jkq (d := d) (l := vo l) (n := n) hp ho k; refine ⟨fun hle => ?_, fun hgt => ?_⟩
 .obtain ⟨i, hi⟩ : ∃ i : Nat, (n : Int) - 1 - k = i := ⟨n - 1 - k, by omega⟩
  rw [hi]; have hin : i = n - 1 - k := by omega
  refine ⟨fun y z => ∃ t : Nat, z = t /\ t <= d /\ y.length = n /\ ∀ j, j < n -> vo y j = if i <= j + d /\ j + d < i + t then rem p d (vo l) (vo o) n (k + 1) j else rem p d (vo l) (vo o) n k j, fun y z => (d - z).toNat, ⟨0, rfl, Nat.zero_le _, hx, fun j hj => by rw [if_neg (by omega)]; exact hv j hj⟩, ?_⟩; rintro y _ ⟨t, rfl, ht, hy, hw⟩; dsimp only; have e1 : (i : Int) - (d : Int) + (t : Int) = ((i - d + t : Nat) : Int) := by omega
  rw [e1, JW, JW, JW, Qo]; have hyi : vo y i = rem p d (vo l) (vo o) n k i := by rw [hw i (by omega), if_neg (by omega)]
  refine ⟨fun hlt => ?_, fun hge => ?_⟩
  .have hyj : vo y (i - d + t) = rem p d (vo l) (vo o) n k (i - d + t) := by rw [hw _ (by omega), if_neg (by omega)]
   have c1 := hl t (by omega); have c2 := hc i (by omega); have c3 := hc (i - d + t) (by omega); rw [hyi, hyj]; have c4 := Jer (a := (p : Int) - vo l t) (b := rem p d (vo l) (vo o) n k i) hp2 ⟨by omega, by omega⟩ ⟨c2.1, by omega⟩; refine ⟨⟨by omega, by omega⟩, Ju (by omega) (by omega), Ju (by omega) (by omega), ⟨by omega, by omega⟩, Ju (by omega) (by omega), ⟨by omega, by omega⟩, Ju (by omega) (by omega), Ju (by omega) (by omega), by omega, ⟨by omega, by omega⟩, Ju (by omega) (by omega), ⟨t + 1, by push_cast; rfl, by omega, by rw [List.length_set, hy], fun j hj => ?_⟩, by omega⟩; rw [Qd]; by_cases hjt : i - d + t = j
   .subst hjt; rw [if_pos ⟨rfl, by omega⟩, if_pos (by omega), Jkr hp c3.1 (by omega) c2.1]; show _ = rst p d (n - 1 - k) (vo l) (rem p d (vo l) (vo o) n k) (i - d + t); unfold rst; rw [<- hin, if_pos (by omega), show i - d + t + d - i = t by omega]
   .rw [if_neg (fun h => hjt h.1), hw j hj]; by_cases hc2 : i <= j + d /\ j + d < i + t
    .rw [if_pos hc2, if_pos (by omega)]
    .rw [if_neg hc2, if_neg (by omega)]
  .refine ⟨Ju (by omega) (by omega), ⟨k + 1, by omega, by omega, hy, fun j hj => ?_⟩, by omega⟩; rw [hw j hj]; have htd : t = d := by omega
   by_cases hc2 : i <= j + d /\ j + d < i + t
   .rw [if_pos hc2]
   .rw [if_neg hc2]; show _ = rst p d (n - 1 - k) (vo l) (rem p d (vo l) (vo o) n k) j; unfold rst; rw [<- hin, if_neg (by omega)]
 .refine ⟨⟨by omega, by omega⟩, Jdx (f := fun x => decide (x ≠ 0)) (by rw [List.length_take]; omega) (fun x R hR => hR) (h _ ?_)⟩; have hkk : k = n - d := by omega
  have hlen : (x.take (d : Int).toNat).length = d := by rw [List.length_take]; omega
  rw [Bool.not_eq_true']; constructor
  .intro hb j hj; have h2 : ¬ (x.take (d : Int).toNat).any (fun x => decide (x ≠ 0)) = true := by rw [hb]; decide
   rw [Jac] at h2; have h3 : decide (vo (x.take (d : Int).toNat) j ≠ 0) = false := by
    cases hc3 : decide (vo (x.take (d : Int).toNat) j ≠ 0) with
    | false => rfl
    | true => exact absurd ⟨j, by omega, hc3⟩ h2
   rw [Jmn (by simpa using hj), hv j (by omega), hkk] at h3; have h4 := of_decide_eq_false h3; omega
  .intro hD; cases hb : (x.take (d : Int).toNat).any (fun x => decide (x ≠ 0)) with
   | false => rfl
   | true =>
    obtain ⟨i, hi, hf⟩ := Jac.1 hb; rw [Jmn (by simpa using (by omega : i < d)), hv i (by omega), hkk, hD i (by omega)] at hf; exact absurd hf (by decide)
theorem Jc8 (o : LI) : vo (o ++ [(1 : Int)]) = fun i => if i = o.length then 1 else vo o i := by
 funext i; unfold vo; rw [List.getD_eq_getElem?_getD, List.getD_eq_getElem?_getD]; rcases Nat.lt_trichotomy i o.length with h | h | h
 .rw [List.getElem?_append_left h, if_neg (by omega)]
 .subst h; simp
 .rw [if_neg (by omega), List.getElem?_eq_none (by simp; omega), List.getElem?_eq_none (by omega)]
theorem Jms {p : Nat} {o : LI} (hp : 2 <= p) (ho : Cn p o.length (vo o)) : Cn p (o.length + 1) (vo (o ++ [(1 : Int)])) := fun i hi => by
 rw [Jc8]; dsimp only; split
 .omega
 .exact ho i (by omega)
theorem Jkf {p : Nat} {l o : LI} {Q : Bool -> Prop} (hp : 2 <= p) (hp2 : p <= 256) (hl : Cn p l.length (vo l)) (ho : Cn p o.length (vo o)) (hd : 0 < l.length) (hdn : l.length <= o.length) (hn : o.length <= 1000)
  (h : ∀ b : Bool, (b = true ↔ Dvd p l.length (vo l) (fun i => if i = o.length then 1 else vo o i) (o.length + 1)) -> Q b) : YF l o p Q := by
 unfold YF; simp only [List.nil_append]; rw [<- Jc8] at h; have hcR := Jms hp ho; have hnn : (o ++ [(1 : Int)]).length = o.length + 1 := by simp
 refine ⟨by omega, by omega, Ju (by omega) (by omega), ?_⟩; generalize hdd : l.length = d at *
 generalize hN : o.length + 1 = n at *
 generalize hoo : o ++ [(1 : Int)] = r at *
 refine ⟨fun x z => ∃ k : Nat, z = (n : Int) - 1 - k /\ k <= n - d /\ x.length = n /\ ∀ j, j < n -> vo x j = if j + k < n then rem p d (vo l) (vo r) n k j else 0, fun x z => (z + 1).toNat, ⟨0, by omega, by omega, hnn, fun j hj => by rw [if_pos (by omega)]; rfl⟩, ?_⟩; rintro x _ ⟨k, rfl, hk, hx, hv⟩; dsimp only; have hc := Jkq (d := d) (l := vo l) (n := n) (p := p) (by omega) hcR k; refine ⟨fun hle => ⟨⟨by omega, by omega⟩, ?_⟩, fun hgt => ?_⟩
 .obtain ⟨i, hi⟩ : ∃ i : Nat, (n : Int) - 1 - k = i := ⟨n - 1 - k, by omega⟩
  rw [hi]; have hin : i = n - 1 - k := by omega
  have hxi : vo x i = rem p d (vo l) (vo r) n k i := by rw [hv i (by omega), if_pos (by omega)]
  refine ⟨fun y z => ∃ t : Nat, z = t /\ t <= d /\ y.length = n /\ ∀ j, j < n -> vo y j = if i <= j + d /\ j + d < i + t then rem p d (vo l) (vo r) n (k + 1) j else vo x j, fun y z => (d - z).toNat, ⟨0, rfl, Nat.zero_le _, hx, fun j hj => by rw [if_neg (by omega)]⟩, ?_⟩; rintro y _ ⟨t, rfl, ht, hy, hw⟩; dsimp only; have e1 : (i : Int) - (d : Int) + (t : Int) = ((i - d + t : Nat) : Int) := by omega
  rw [e1, JW, JW, JW, Qo, Qo]; refine ⟨fun hlt => ?_, fun hge => ?_⟩
  .have hyj : vo y (i - d + t) = rem p d (vo l) (vo r) n k (i - d + t) := by rw [hw _ (by omega), if_neg (by omega), hv _ (by omega), if_pos (by omega)]
   have c1 := hl t (by omega); have c2 := hc i (by omega); have c3 := hc (i - d + t) (by omega); rw [hxi, hyj]; have c4 := Jer (a := (p : Int) - rem p d (vo l) (vo r) n k i) (b := vo l t) hp2 ⟨by omega, by omega⟩ ⟨c1.1, by omega⟩; refine ⟨Ju (by omega) (by omega), Ju (by omega) (by omega), Ju (by omega) (by omega), Ju (by omega) (by omega), ⟨by omega, by omega⟩, Ju (by omega) (by omega), ⟨by omega, by omega⟩, Ju (by omega) (by omega), Ju (by omega) (by omega), by omega, ⟨by omega, by omega⟩, Ju (by omega) (by omega), ⟨t + 1, by push_cast; rfl, by omega, by rw [List.length_set, hy], fun j hj => ?_⟩, by omega⟩; rw [Qd]; by_cases hjt : i - d + t = j
   .subst hjt; rw [if_pos ⟨rfl, by omega⟩, if_pos (by omega), Jkr (by omega) c3.1 (by omega) c1.1]; show _ = rst p d (n - 1 - k) (vo l) (rem p d (vo l) (vo r) n k) (i - d + t); unfold rst; rw [<- hin, if_pos (by omega), show i - d + t + d - i = t by omega, Int.mul_comm]
   .rw [if_neg (fun h => hjt h.1), hw j hj]; by_cases hc2 : i <= j + d /\ j + d < i + t
    .rw [if_pos hc2, if_pos (by omega)]
    .rw [if_neg hc2, if_neg (by omega)]
  .refine ⟨⟨by omega, by omega⟩, Ju (by omega) (by omega), ⟨k + 1, by omega, by omega, by rw [List.length_set, hy], fun j hj => ?_⟩, by omega⟩; rw [Qd]; by_cases hij : i = j
   .subst hij; rw [if_pos ⟨rfl, by omega⟩, if_neg (by omega)]
   .rw [if_neg (fun h => hij h.1), hw j hj]; have htd : t = d := by omega
    by_cases hc2 : i <= j + d /\ j + d < i + t
    .rw [if_pos hc2, if_pos (by omega)]
    .rw [if_neg hc2, hv j hj]; by_cases hjk : j + k < n
     .rw [if_pos hjk, if_pos (by omega)]; show _ = rst p d (n - 1 - k) (vo l) (rem p d (vo l) (vo r) n k) j; unfold rst; rw [<- hin, if_neg (by omega)]
     .rw [if_neg hjk, if_neg (by omega)]
 .have hkk : k = n - d := by omega
  refine ⟨fun z => ∃ t : Nat, z = t /\ t <= n /\ ∀ j, j < t -> vo x j = 0, fun z => (n - z).toNat, ⟨0, rfl, Nat.zero_le _, fun j hj => by omega⟩, ?_⟩; rintro _ ⟨t, rfl, ht, hz⟩; dsimp only; rw [JW]; refine ⟨fun hlt => ⟨⟨by omega, by omega⟩, fun hne => ?_, fun heq => ⟨Ju (by omega) (by omega), ⟨t + 1, by push_cast; rfl, by omega, fun j hj => ?_⟩, by omega⟩⟩, fun hge => ?_⟩
  .refine h false ⟨fun h' => absurd h' (by decide), fun hD => ?_⟩; rw [hv t (by omega)] at hne; by_cases hc2 : t + k < n
   .rw [if_pos hc2, hkk, hD t (by omega)] at hne; exact absurd rfl hne
   .rw [if_neg hc2] at hne; exact absurd rfl hne
  .by_cases hjt : j = t
   .subst hjt; omega
   .exact hz j (by omega)
  .refine h true ⟨fun _ j hj => ?_, fun _ => rfl⟩; have h1 := hz j (by omega); rw [hv j (by omega), if_pos (by omega), hkk] at h1; exact h1
theorem ZO {p d w : Nat} (hw : w < p ^ d) : vo (dgi p d w) = dv p w := by
 funext i; rcases Nat.lt_or_ge i d with h | h
 .exact Yt h
 .rw [Jar (by rw [Qe]; exact h), Jr5 hw h]
theorem Jem {p d w : Nat} (hp : 0 < p) (hw : w < p ^ d) (n : Nat) : Cn p n (vo (dgi p d w)) := by rw [ZO hw]; exact Jfv hp w n
theorem Jtt {p m : Nat} {mf : LI} {Q : Bool -> Prop} (hp : 2 <= p) (hp2 : p <= 256) (hm : mf.length = m) (hq : p ^ m <= 256) (hc : Cn p m (vo mf))
  (h : ∀ b : Bool, (b = true ↔ Irr p m (vo mf)) -> Q b) : QV p m mf Q := by
 have hm9 : m <= 8 := by
  rcases Nat.lt_or_ge 8 m with h1 | h1
  .have e1 : 2 ^ 9 <= p ^ 9 := Nat.pow_le_pow_left (by omega) 9; have e2 := Qw (p := p) (by omega) (show 9 <= m by omega); omega
  .exact h1
 refine Z2 (by omega) ⟨by omega, ?_⟩; have hlen : (mf ++ [(1 : Int)]).length = m + 1 := by simp [hm]
 have hcs : Cn p (m + 1) (vo (mf ++ [(1 : Int)])) := by have := Jms hp (o := mf) (by rw [hm]; exact hc); rwa [hm] at this
 have hpd : ∀ d, 2 * d <= m -> p ^ d <= 256 := fun d hd => Nat.le_trans (Qw (by omega) (by omega)) hq; refine ⟨fun a b => ∃ d : Nat, a = d /\ 1 <= d /\ 2 * (d - 1) <= m /\ b = ((p ^ d : Nat) : Int) /\ p ^ d <= 65536 /\ ∀ e, 0 < e -> e < d -> 2 * e <= m -> ∀ w, w < p ^ e -> ¬ Dvd p e (dv p w) (fun i => if i = m then 1 else vo mf i) (m + 1), fun a b => (20 - a).toNat, ⟨1, rfl, by omega, by omega, by simp, by simp; omega, fun e h1 h2 => by omega⟩, ?_⟩; rintro _ _ ⟨d, rfl, hd1, hd2, rfl, hdp, hnd⟩; dsimp only; refine ⟨Ju (by omega) (by omega), fun hle => ?_, fun hgt => ?_⟩
 .have hpd' := hpd d (by omega); refine ⟨fun z => ∃ w : Nat, z = w /\ w <= p ^ d /\ ∀ u, u < w -> ¬ Dvd p d (dv p u) (fun i => if i = m then 1 else vo mf i) (m + 1), fun z => ((p ^ d : Nat) - z).toNat, ⟨0, rfl, Nat.zero_le _, fun u hu => by omega⟩, ?_⟩; rintro _ ⟨w, rfl, hw, hnw⟩; dsimp only; refine ⟨fun hlt => ?_, fun hge => ?_⟩
  .have hw2 : w < p ^ d := by omega
   refine ⟨_, Jdw (by omega) (by omega) (by omega) rfl, ?_⟩; have hdl := Qe p d w; refine (?_ : ∃ r : Bool, Zb p (dgi p d w) (mf ++ [(1 : Int)]) (fun q => q = r) /\ _); by_cases hD : Dvd p d (dv p w) (fun i => if i = m then 1 else vo mf i) (m + 1)
   .refine ⟨true, Jff (by omega) hp2 (by rw [hdl]; exact Jem (by omega) hw2 d) (by rw [hlen]; exact hcs) (by omega) (by omega) (by omega) fun b hb => ?_, fun _ => ?_, fun h' => absurd h' (by decide)⟩
    .rw [hdl, hlen, ZO hw2, Jc8, hm] at hb; exact hb.2 hD
    .exact h false ⟨fun h' => absurd h' (by decide), fun hI => absurd hD (hI d (by omega) (by omega) w hw2)⟩
   .refine ⟨false, Jff (by omega) hp2 (by rw [hdl]; exact Jem (by omega) hw2 d) (by rw [hlen]; exact hcs) (by omega) (by omega) (by omega) fun b hb => ?_, fun h' => absurd h' (by decide), fun _ => ?_⟩
    .rw [hdl, hlen, ZO hw2, Jc8, hm] at hb; cases b with
     | false => rfl
     | true => exact absurd (hb.1 rfl) hD
    .refine ⟨Ju (by omega) (by omega), ⟨w + 1, by push_cast; rfl, by omega, fun u hu => ?_⟩, by omega⟩; by_cases huw : u = w
     .subst huw; exact hD
     .exact hnw u (by omega)
  .have e1 : ((p ^ d : Nat) : Int) * (p : Int) = ((p ^ (d + 1) : Nat) : Int) := by rw [Nat.pow_succ]; push_cast; rfl
   have hb2 : p ^ (d + 1) <= 65536 := by
    rw [Nat.pow_succ]; have := Nat.mul_le_mul hpd' hp2; omega
   rw [e1]; refine ⟨Ju (by omega) (by omega), Ze (by omega), ⟨d + 1, by push_cast; rfl, by omega, by omega, rfl, hb2, fun e he0 he h2 u hu => ?_⟩, by omega⟩; by_cases hed : e = d
   .subst hed; exact hnw u (by omega)
   .exact hnd e he0 (by omega) h2 u hu
 .exact h true ⟨fun _ e he0 h2 u hu => hnd e he0 (by omega) h2 u hu, fun _ => rfl⟩
theorem v_rirr {p m : Nat} {mf : LI} {Q : Bool -> Prop} (hp : 2 <= p) (hp2 : p <= 256) (hm : mf.length = m) (hq : p ^ m <= 256) (hc : Cn p m (vo mf))
  (h : ∀ b : Bool, (b = true ↔ Irr p m (vo mf)) -> Q b) : Jex mf p Q := by
 have hm9 : m <= 8 := by
  rcases Nat.lt_or_ge 8 m with h1 | h1
  .have e1 : 2 ^ 9 <= p ^ 9 := Nat.pow_le_pow_left (by omega) 9; have e2 := Qw (p := p) (by omega) (show 9 <= m by omega); omega
  .exact h1
 unfold Jex; rw [hm]; have hpd : ∀ d, 2 * d <= m -> p ^ d <= 256 := fun d hd => Nat.le_trans (Qw (by omega) (by omega)) hq; refine ⟨fun b a => ∃ d : Nat, a = d + 1 /\ 2 * d <= m /\ b = ((p ^ d : Nat) : Int) /\ ∀ e, 0 < e -> e <= d -> 2 * e <= m -> ∀ w, w < p ^ e -> ¬ Dvd p e (dv p w) (fun i => if i = m then 1 else vo mf i) (m + 1), fun b a => (20 - a).toNat, ⟨0, rfl, by omega, by simp, fun e h1 h2 => by omega⟩, ?_⟩; rintro _ _ ⟨d, rfl, hd2, rfl, hnd⟩; dsimp only; have hpd' := hpd d hd2; refine ⟨Ju (by omega) (by omega), fun hle => ?_, fun hgt => ?_⟩
 .have e1 : ((p ^ d : Nat) : Int) * (p : Int) = ((p ^ (d + 1) : Nat) : Int) := by rw [Nat.pow_succ]; push_cast; rfl
  have hpd2 := hpd (d + 1) (by omega); rw [e1]; refine ⟨Ze (by omega), ?_⟩; refine ⟨fun z => ∃ w : Nat, z = w /\ w <= p ^ (d + 1) /\ ∀ u, u < w -> ¬ Dvd p (d + 1) (dv p u) (fun i => if i = m then 1 else vo mf i) (m + 1), fun z => ((p ^ (d + 1) : Nat) - z).toNat, ⟨0, rfl, Nat.zero_le _, fun u hu => by omega⟩, ?_⟩; rintro _ ⟨w, rfl, hw, hnw⟩; dsimp only; rw [show (d : Int) + 1 = ((d + 1 : Nat) : Int) by push_cast; rfl]; refine ⟨fun hlt => ?_, fun hge => ?_⟩
  .have hw2 : w < p ^ (d + 1) := by omega
   have hdl := Qe p (d + 1) w; refine Joe (by omega) (by omega) (by omega) (Jkf hp hp2 (by rw [hdl]; exact Jem (by omega) hw2 _) (by rw [hm]; exact hc) (by omega) (by omega) (by omega) fun b hb => ?_); rw [hdl, hm, ZO hw2] at hb; refine ⟨fun hb1 => ?_, fun hb0 => ?_⟩
   .exact h false ⟨fun h' => absurd h' (by decide), fun hI => absurd (hb.1 hb1) (hI (d + 1) (by omega) (by omega) w hw2)⟩
   .refine ⟨Ju (by omega) (by omega), ⟨w + 1, by push_cast; rfl, by omega, fun u hu => ?_⟩, by omega⟩; by_cases huw : u = w
    .subst huw; intro hD; rw [hb.2 hD] at hb0; exact absurd hb0 (by decide)
    .exact hnw u (by omega)
  .refine ⟨Ju (by omega) (by omega), ⟨d + 1, rfl, by omega, rfl, fun e he0 he h2 u hu => ?_⟩, by omega⟩; by_cases hed : e = d + 1
   .subst hed; exact hnw u (by omega)
   .exact hnd e he0 (by omega) h2 u hu
 .exact h true ⟨fun _ e he0 h2 u hu => hnd e he0 (by omega) h2 u hu, fun _ => rfl⟩
structure FV (P M : Int) (mf : LI) (p m v : Nat) : Prop where
  eP : P = p
  eM : M = m
  pr : IsLf p p
  m0 : 0 < m
  q : p ^ m <= 256
  vlt : v < p ^ m
  m1 : m = 1 -> mf = [] /\ v = 0
  m2 : m ≠ 1 -> mf = dgi p m v
  irr : Irr p m (dv p v)
def QB (P M : Int) (mf : LI) : Prop := ∃ p m v, FV P M mf p m v
open Classical in
noncomputable def ck (P M : Int) (mf : LI) : Int := if QB P M mf then 0 else 1
theorem Jen {P M : Int} {mf : LI} (h : QB P M mf) : ck P M mf = 0 := if_pos h
theorem Ye {P M : Int} {mf : LI} (h : ¬ QB P M mf) : ck P M mf = 1 := if_neg h
theorem Jur (p : Nat) (c : Vec) : Irr p 1 c := fun d h1 h2 => by omega
theorem Jfc {p : Nat} (hp : IsLf p p) (hq : p <= 256) : FV p ((1 : Nat) : Int) [] p 1 0 := ⟨rfl, rfl, hp, by omega, by simpa using hq, by have := hp.two; simp; omega, fun _ => ⟨rfl, rfl⟩, fun h => absurd rfl h, Jur p _⟩
theorem Jnk {p m : Nat} {mf : LI} (hp : 0 < p) (hl : mf.length = m) (hc : Cn p m (vo mf)) : nm p m (vo mf) < p ^ m /\ mf = dgi p m (nm p m (vo mf)) /\ vo mf = dv p (nm p m (vo mf)) := by
 have hlt := Jbp (m := m) hp (vo mf); have he : mf = dgi p m (nm p m (vo mf)) := YB (by rw [hl, Qe]) fun i hi => by
  have h1 := hc i (by omega); rw [Yt (by omega), Jnh hp _ (by omega), Int.emod_eq_of_lt h1.1 h1.2]
 exact ⟨hlt, he, by have := congrArg vo he; rw [ZO hlt] at this; exact this⟩
theorem FV.cn {P M : Int} {mf : LI} {p m v : Nat} (h : FV P M mf p m v) (hm : m ≠ 1) : mf.length = m /\ Cn p m (vo mf) /\ Irr p m (vo mf) := by
 have := h.pr.two; rw [h.m2 hm]; exact ⟨Qe p m v, Jem (by omega) h.vlt m, by rw [ZO h.vlt]; exact h.irr⟩
theorem FV.vo {P M : Int} {mf : LI} {p m v : Nat} (h : FV P M mf p m v) : Go.Proofs.Ytjgpkljepgcekaa.vo mf = dv p v := by
 by_cases hm : m = 1
 .rw [(h.m1 hm).1, (h.m1 hm).2, Jel]; rfl
 .rw [h.m2 hm, ZO h.vlt]
theorem Jmh {P M : Int} {mf : LI} {Q : Int -> Prop} (h : Q (ck P M mf)) : Jb9 P M mf Q := by
 refine ⟨fun h1 => ?_, fun h1 => Jog (by omega) fun b hb => ⟨fun hb0 => ?_, fun hb1 => ?_⟩⟩
 .rw [Ye] at h
  .exact h
  .rintro ⟨p, m, v, hV⟩; have e1 := Qw (p := p) (by have := hV.pr.two; omega) hV.m0; have := hV.q; have := hV.eP; rw [show p ^ (0 + 1) = p from Nat.pow_one p] at e1; omega
 .rw [Ye] at h
  .exact h
  .rintro ⟨p, m, v, hV⟩; have := hV.pr.two; have : b = true := hb.2 ⟨by rw [hV.eP]; omega, by rw [hV.eP]; exact hV.pr⟩; rw [this] at hb0; exact absurd hb0 (by decide)
 .have hbt : b = true := by cases b <;> first | rfl | exact absurd hb1 (by decide)
  obtain ⟨hP2, hPr⟩ := hb.1 hbt; obtain ⟨p, rfl⟩ := Int.eq_ofNat_of_zero_le (show 0 <= P by omega); rw [Int.toNat_natCast] at hPr; refine ⟨fun h2 => ?_, fun h2 => Jf7 (by omega) (by omega) fun r hr1 hr2 => ⟨fun h3 => ?_, fun h3 => ?_⟩⟩
  .rw [Ye] at h
   .exact h
   .rintro ⟨p', m, v, hV⟩; have := hV.m0; have := hV.eM; omega
  .rw [Ye] at h
   .exact h
   .rintro ⟨p', m, v, hV⟩; have e1 := hV.eM; have e2 := hV.eP; have e3 := hV.q; have : p = p' := by omega
    subst this; rw [e1, Int.toNat_natCast] at hr1; have := hr1 e3; omega
  .obtain ⟨m, rfl⟩ := Int.eq_ofNat_of_zero_le (show 0 <= M by omega); rw [Int.toNat_natCast] at hr1 hr2; have hq : p ^ m <= 256 := by
    rcases Nat.lt_or_ge 256 (p ^ m) with hc | hc
    .exact absurd (hr2 hc) h3
    .exact hc
   refine ⟨fun h4 => Jqk ?_, fun h4 => ⟨fun h5 => ?_, fun h5 => ?_⟩⟩
   .have hm1 : m = 1 := by omega
    subst hm1; by_cases hl : mf = []
    .subst hl; rw [Jen ⟨_, _, _, Jfc hPr (by omega)⟩] at h
     simpa using h
    .rw [Ye] at h
     .simpa [hl] using h
     .rintro ⟨p', m, v, hV⟩; exact hl (hV.m1 (by have := hV.eM; omega)).1
   .rw [Ye] at h
    .exact h
    .rintro ⟨p', m', v, hV⟩; have e1 := hV.eM; have := (hV.cn (by omega)).1; omega
   .have hlen : mf.length = m := by omega
    have hm8 : mf.length <= 1000000000 := by
     have := Nat.lt_two_pow_self (n := m); have e1 : 2 ^ m <= p ^ m := Nat.pow_le_pow_left (by omega) m; omega
    refine Jdx (f := fun x => if x < 0 then true else decide ((p : Int) <= x)) hm8 (fun x R hR => ⟨fun hx => by simpa [hx] using hR, fun hx => by simpa [hx] using hR⟩) ⟨fun hb6 => ?_, fun hb6 => ?_⟩
    .rw [Ye] at h
     .exact h
     .rintro ⟨p', m', v, hV⟩; have e1 := hV.eM; have e2 := hV.eP; have e3 : p = p' := by omega
      have e4 : m = m' := by omega
      subst e3; subst e4; obtain ⟨i, hi, hf⟩ := Jac.1 hb6; have hcn := (hV.cn (by omega)).2.1 i (by omega); rw [if_neg (by omega)] at hf; have := of_decide_eq_true hf; omega
    .have hcn : Cn p m (vo mf) := fun i hi => by
      have h6 : ¬ mf.any (fun x => if x < 0 then true else decide ((p : Int) <= x)) = true := by rw [hb6]; decide
      rw [Jac] at h6; by_cases hx : vo mf i < 0
      .exact absurd ⟨i, by omega, by rw [if_pos hx]⟩ h6
      .by_cases hx2 : (p : Int) <= vo mf i
       .exact absurd ⟨i, by omega, by rw [if_neg hx, decide_eq_true hx2]⟩ h6
       .omega
     have hcl := Jnk (by omega) hlen hcn; refine Jtt (by omega) (by omega) hlen hq hcn fun b2 hb2 => Jqk ?_; by_cases hI : Irr p m (vo mf)
     .rw [hb2.2 hI, if_pos rfl]; rw [Jen ⟨p, m, nm p m (vo mf), rfl, rfl, hPr, by omega, hq, hcl.1, fun e => by omega, fun _ => hcl.2.1, by rw [<- hcl.2.2]; exact hI⟩] at h; exact h
     .rw [if_neg (fun e => hI (hb2.1 e))]; rw [Ye] at h
      .exact h
      .rintro ⟨p', m', v, hV⟩; have e1 := hV.eM; have e2 := hV.eP; have e3 : p = p' := by omega
       have e4 : m = m' := by omega
       subst e3; subst e4; exact hI (hV.cn (by omega)).2.2
theorem Jqi {P M : Int} {mf : LI} {Q : Int -> Prop} (h : Q (ck P M mf)) : Jb4 P M mf Q := by
 refine Jbg ⟨fun h0 => ?_, fun h0 => ?_⟩
 .rw [Ye] at h
  .exact h
  .rintro ⟨p, m, v, hV⟩; have h1 := hV.pr.two; have h2 := hV.m0; have h3 := hV.q; rw [hV.eP, hV.eM, Je5, if_pos ⟨by omega, by omega, by simpa using h3⟩] at h0; have h4 : 0 < p ^ m := Nat.pow_pos (by omega); simp only [Int.toNat_natCast] at h0; omega
 .unfold Je5 at h0; by_cases hc : 2 <= P /\ 1 <= M /\ P.toNat ^ M.toNat <= 256
  .obtain ⟨h1, h2, hq⟩ := hc; obtain ⟨p, rfl⟩ := Int.eq_ofNat_of_zero_le (show 0 <= P by omega); obtain ⟨m, rfl⟩ := Int.eq_ofNat_of_zero_le (show 0 <= M by omega); simp only [Int.toNat_natCast] at hq; have hp256 : p <= 256 := by
    have := Qw (p := p) (by omega) (show 1 <= m by omega); rw [Nat.pow_one] at this; omega
   refine Jqh (by omega) hp256 fun b hb => ⟨fun hb0 => ?_, fun hb1 => ?_⟩
   .rw [Ye] at h
    .exact h
    .rintro ⟨p', m', v, hV⟩; have e2 := hV.eP; have e3 : p = p' := by omega
     subst e3; rw [hb.2 hV.pr] at hb0; exact absurd hb0 (by decide)
   .have hbt : b = true := by cases b <;> first | rfl | exact absurd hb1 (by decide)
    have hPr := hb.1 hbt; refine ⟨fun h4 => ⟨fun h5 => ?_, fun h5 => ?_⟩, fun h4 => ⟨fun h5 => ?_, fun h5 => ?_⟩⟩
    .rw [Ye] at h
     .exact h
     .rintro ⟨p', m', v, hV⟩; have e1 := hV.eM; have := (hV.m1 (by omega)).1; rw [this] at h5; exact h5 rfl
    .have hm1 : m = 1 := by omega
     subst hm1; have hl : mf = [] := List.length_eq_zero_iff.1 (by omega); subst hl; rw [Jen ⟨_, _, _, Jfc hPr hp256⟩] at h; exact h
    .rw [Ye] at h
     .exact h
     .rintro ⟨p', m', v, hV⟩; have e1 := hV.eM; have := (hV.cn (by omega)).1; omega
    .have hlen : mf.length = m := by omega
     refine ⟨fun z => ∃ k : Nat, z = k /\ k <= m /\ Cn p k (vo mf), fun z => (m - z).toNat, ⟨0, rfl, Nat.zero_le _, fun i hi => by omega⟩, ?_⟩; rintro _ ⟨k, rfl, hk, hcn⟩; dsimp only; rw [JW]; have hno : ¬ (0 <= vo mf k /\ vo mf k < p) -> k < m -> ¬ QB p m mf := by
      rintro hbad hkm ⟨p', m', v, hV⟩; have e1 := hV.eM; have e2 := hV.eP; have e3 : p = p' := by omega
      have e4 : m = m' := by omega
      subst e3; subst e4; exact hbad ((hV.cn (by omega)).2.1 k hkm)
     have hm8 : m <= 1000000000 := by
      have := Nat.lt_two_pow_self (n := m); have e1 : 2 ^ m <= p ^ m := Nat.pow_le_pow_left (by omega) m; omega
     refine ⟨fun hlt => ⟨fun hneg => ⟨⟨by omega, by omega⟩, ?_⟩, fun hpos => ⟨⟨by omega, by omega⟩, ⟨by omega, by omega⟩, fun hbig => ?_, fun hsm => ⟨Ju (by omega) (by omega), ⟨k + 1, by push_cast; rfl, by omega, fun i hi => ?_⟩, by omega⟩⟩⟩, fun hge => ?_⟩
     .rw [Ye (hno (by omega) (by omega))] at h; exact h
     .rw [Ye (hno (by omega) (by omega))] at h; exact h
     .by_cases hik : i = k
      .subst hik; omega
      .exact hcn i (by omega)
     .have hkm : k = m := by omega
      subst hkm; have hcl := Jnk (by omega) hlen hcn; refine v_rirr (by omega) hp256 hlen hq hcn fun b2 hb2 => ⟨fun hb3 => ?_, fun hb3 => ?_⟩
      .rw [Ye] at h
       .exact h
       .rintro ⟨p', m', v, hV⟩; have e1 := hV.eM; have e2 := hV.eP; have e3 : p = p' := by omega
        have e4 : k = m' := by omega
        subst e3; subst e4; rw [hb2.2 (hV.cn (by omega)).2.2] at hb3; exact absurd hb3 (by decide)
      .have hbt2 : b2 = true := by cases b2 <;> first | rfl | exact absurd hb3 (by decide)
       rw [Jen ⟨p, k, nm p k (vo mf), rfl, rfl, hPr, by omega, hq, hcl.1, fun e => by omega, fun _ => hcl.2.1, by rw [<- hcl.2.2]; exact hb2.1 hbt2⟩] at h; exact h
  .rw [if_neg hc] at h0; exact absurd rfl h0
end Go.Proofs.Ytjgpkljepgcekaa
namespace Go.Proofs.Ytjgpkljepgcekaa
theorem Jeo {p m : Nat} {r : LI} {u : Vec} (hp : 0 < p) (hl : r.length = m) (hv : ∀ i, i < m -> vo r i = u i % (p : Int)) : r = dgi p m (nm p m u) :=
  YB (by rw [hl, Qe]) fun i hi => by rw [hv i (by omega), Yt (by omega), Jnh hp _ (by omega)]
theorem Jme (p i : Nat) (l : LI) (n : Nat) (h : i < n) : vl p (i + 1) (fun t => vo l (n - (i + 1) + t)) = vo l (n - (i + 1)) + (p : Int) * vl p i (fun t => vo l (n - i + t)) := by
 show vo l (n - (i + 1) + 0) + (p : Int) * vl p i (fun t => vo l (n - (i + 1) + (t + 1))) = _; rw [Nat.add_zero]; have : (fun t => vo l (n - (i + 1) + (t + 1))) = fun t => vo l (n - i + t) := by
  funext t; rw [show n - (i + 1) + (t + 1) = n - i + t by omega]
 rw [this]
theorem Jmf {p : Nat} {l : LI} {n i : Nat} (hp : 2 <= p) (hc : Cn p n (vo l)) (hq : p ^ n <= 256) (hi : i <= n) : 0 <= vl p i (fun t => vo l (n - i + t)) /\ vl p i (fun t => vo l (n - i + t)) < 256 := by
 have h1 := Jmg (p := p) (n := i) (v := fun t => vo l (n - i + t)) (by omega) (fun t ht => hc (n - i + t) (by omega)); have h2 := Qw (p := p) (by omega) hi; omega
theorem Jf8 {p : Nat} {l : LI} {Q : Int -> Prop} (hp : 2 <= p) (hp2 : p <= 256) (hc : Cn p l.length (vo l)) (hq : p ^ l.length <= 256) (h : Q (vl p l.length (vo l))) : Yz p l Q := by
 refine ⟨fun i z => i <= l.length /\ z = vl p i (fun t => vo l (l.length - i + t)), ⟨Nat.zero_le _, rfl⟩, ?_, ?_⟩
 .rintro i hi _ ⟨_, rfl⟩; have h1 := Jmf hp hc hq (i := i) (by omega); have h2 := Jmf hp hc hq (i := i + 1) (by omega); rw [Jme p i l l.length hi] at h2; have h3 := Jer (a := vl p i (fun t => vo l (l.length - i + t))) (b := p) (p := 256) (by omega) ⟨h1.1, by omega⟩ ⟨by omega, by omega⟩; rw [show ((l.length - 1 - i : Nat) : Int) = ((l.length - (i + 1) : Nat) : Int) by omega, JW]; refine ⟨Ju (by omega) (by omega), ?_, by omega, ?_⟩
  .rw [Int.mul_comm, Int.add_comm]; exact Ju (by omega) (by omega)
  .rw [Jme p i l l.length hi, Int.mul_comm, Int.add_comm]
 .rintro _ ⟨_, rfl⟩; have : (fun t => vo l (l.length - l.length + t)) = vo l := by funext t; rw [Nat.sub_self, Nat.zero_add]
  rw [this]; exact h
theorem vl_dgi {p m x : Nat} (hp : 0 < p) (hx : x < p ^ m) : vl p (dgi p m x).length (vo (dgi p m x)) = (x : Int) := by
 rw [Qe, ZO hx, Jqf hp hx]
namespace FV
variable {P M : Int} {mf : LI} {p m v : Nat} (F : FV P M mf p m v)
include F
theorem p2 : 2 <= p := F.pr.two
theorem pq : p <= p ^ m := by
 have := Qw (p := p) (by have := F.pr.two; omega) F.m0
 rwa [show p ^ (0 + 1) = p from Nat.pow_one p] at this
theorem p256 : p <= 256 := Nat.le_trans F.pq F.q
theorem m8 : m <= 8 := by
 rcases Nat.lt_or_ge 8 m with h1 | h1
 .have e1 : 2 ^ 9 <= p ^ 9 := Nat.pow_le_pow_left F.p2 9; have e2 := Qw (p := p) (by have := F.p2; omega) (show 9 <= m by omega); have := F.q; omega
 .exact h1
theorem ring : CR (p ^ m) (JI p m) (Jr p m (dv p v)) := Jma _ F.p2 F.m0
theorem gen : ∃ g, Gn (p ^ m) (Jr p m (dv p v)) g := gen_ex F.pr F.m0 F.q F.vlt (fun h => (F.m1 h).2) F.irr
end FV
def sh (v : Vec) : Vec := fun i => if i = 0 then 0 else v (i - 1)
theorem Jqr {m : Nat} {c v : Vec} {i : Nat} (hi : i < m) : tX m c v i = sh v i - c i * v (m - 1) := by simp only [tX, if_pos hi, sh]
theorem Jqg {P M : Int} {mf : LI} {p m v : Nat} (F : FV P M mf p m v) {x : Nat} {Q : LI -> Prop} (hx : x < p ^ m) (h : Q (dgi p m (nm p m (tX m (dv p v) (dv p x))))) : Jb1 P M mf (dgi p m x) Q := by
 have hp := F.p2; have hp2 := F.p256; have hm0 := F.m0; have hm8 := F.m8; rw [F.eP, F.eM]; have hlen := Qe p m x; have hcx := Jfv (p := p) (by omega) x m; refine ⟨Ju (by omega) (by omega), ⟨by omega, by omega⟩, ⟨by omega, by omega⟩, ⟨by omega, by omega⟩, ?_⟩; generalize hA : (si ((dgi p m x).take ((1 : Int).toNat) ++ (dgi p m x).take (min (dgi p m x).length ((dgi p m x).length - ((1 : Int).toNat))) ++ (dgi p m x).drop ((1 : Int).toNat + (min (dgi p m x).length ((dgi p m x).length - ((1 : Int).toNat))))) (0 : Int) (0 : Int)) = A; have hAl : A.length = m := by
  rw [<- hA]; show (List.set _ _ _).length = m; rw [List.length_set]; simp only [List.length_append, List.length_take, List.length_drop, hlen]; show min 1 m + min (min m (m - 1)) m + (m - (1 + min m (m - 1))) = m; omega
 have hAv : ∀ i, i < m -> vo A i = sh (dv p x) i := fun i hi => by
  unfold sh; rw [<- hA]; show vo (List.set _ 0 0) i = _; rw [Qd]; by_cases h0 : i = 0
  .subst h0; rw [if_pos ⟨rfl, by simp only [List.length_append, List.length_take, hlen]; show 0 < min 1 m + _ + _; omega⟩, if_pos rfl]
  .rw [if_neg (fun h => h0 h.1.symm), if_neg h0]; have e1 : ((dgi p m x).take ((1 : Int).toNat)).length = 1 := by rw [List.length_take, hlen]; show min 1 m = 1; omega
   have e2 : (min (dgi p m x).length ((dgi p m x).length - ((1 : Int).toNat))) = m - 1 := by rw [hlen]; show min m (m - 1) = m - 1; omega
   rw [e2]; have e3 : ((dgi p m x).take (m - 1)).length = m - 1 := by rw [List.length_take, hlen]; omega
   unfold vo; rw [List.getD_eq_getElem?_getD, List.append_assoc, List.getElem?_append_right (by omega), e1, List.getElem?_append_left (by omega), List.getElem?_take, if_pos (by omega)]; have := Yt (p := p) (x := x) (i := i - 1) (n := m) (by omega); unfold vo at this; rw [List.getD_eq_getElem?_getD] at this; exact this
 rw [show (m : Int) - 1 = ((m - 1 : Nat) : Int) by omega, JW, Yt (by omega)]; have hshift : ∀ i, i < m -> 0 <= sh (dv p x) i /\ sh (dv p x) i < p := fun i hi => by
  unfold sh; split
  .omega
  .exact hcx (i - 1) (by omega)
 refine ⟨fun h0 => ?_, fun h0 => ?_⟩
 .rw [Jeo (p := p) (u := tX m (dv p v) (dv p x)) (by omega) hAl fun i hi => ?_]
  .exact h
  .have := hshift i hi; rw [hAv i hi]; rw [Jqr hi, h0, Int.mul_zero, Int.sub_zero, Int.emod_eq_of_lt this.1 this.2]
 .have hml : mf.length <= m := by
   by_cases hm1 : m = 1
   .rw [(F.m1 hm1).1]; simp
   .rw [F.m2 hm1, Qe]; omega
  have hcv := Jfv (p := p) (by omega) v m; have ht := hcx (m - 1) (by omega); refine ⟨fun l z => ∃ k : Nat, z = k /\ k <= mf.length /\ l.length = m /\ ∀ i, i < m -> vo l i = if i < k then tX m (dv p v) (dv p x) i % (p : Int) else vo A i, fun l z => (mf.length - z).toNat, ⟨0, rfl, Nat.zero_le _, hAl, fun i hi => by rw [if_neg (by omega)]⟩, ?_⟩; rintro l _ ⟨k, rfl, hk, hl, hv⟩; dsimp only; rw [JW, JW, Qo, F.vo]; refine ⟨fun hlt => ?_, fun hge => ?_⟩
  .have c1 := hcv k (by omega); have c2 := hshift k (by omega); have c3 := Jer (a := (p : Int) - dv p v k) (b := dv p x (m - 1)) hp2 ⟨by omega, by omega⟩ ⟨ht.1, by omega⟩; rw [hv k (by omega), if_neg (by omega), hAv k (by omega)]; refine ⟨⟨by omega, by omega⟩, ⟨by omega, by omega⟩, Ju (by omega) (by omega), Ju (by omega) (by omega), Ju (by omega) (by omega), by omega, ⟨by omega, by omega⟩, Ju (by omega) (by omega), ⟨k + 1, by push_cast; rfl, by omega, by rw [List.length_set, hl], fun i hi => ?_⟩, by omega⟩; rw [Qd]; by_cases hki : k = i
   .subst hki; rw [if_pos ⟨rfl, by omega⟩, if_pos (by omega), Jkr (by omega) c2.1 (by omega) ht.1, Jqr hi]
   .rw [if_neg (fun h => hki h.1), hv i hi]; by_cases hik : i < k
    .rw [if_pos hik, if_pos (by omega)]
    .rw [if_neg hik, if_neg (by omega)]
  .rw [Jeo (p := p) (u := tX m (dv p v) (dv p x)) (by omega) hl fun i hi => ?_]
   .exact h
   .rw [hv i hi]; by_cases hik : i < k
    .rw [if_pos hik]
    .rw [if_neg hik]; have hm1 : m = 1 := by
      by_cases hm1 : m = 1
      .exact hm1
      .rw [F.m2 hm1, Qe] at hge hk; omega
     have hi0 : i = 0 := by omega
     rw [hAv i hi, Jqr hi, (F.m1 hm1).2, Jel]; subst hi0; simp [sh, vz]
theorem hz_z {m : Nat} {c b y : Vec} {n : Nat} : ∀ {k : Nat}, k <= n -> (∀ i, n - k <= i -> i < n -> b i = 0) -> hz m c b y n k = vz
 | 0, _, _ => rfl
 | k + 1, hk, h => by
  show J7 (tX m c (hz m c b y n k)) (vsm (b (n - 1 - k)) y) = vz; rw [hz_z (k := k) (by omega) (fun i h1 h2 => h i (by omega) h2), h (n - 1 - k) (by omega) (by omega), tX_z]; funext i; simp [J7, vsm, vz]
theorem hz_sup {m : Nat} {c b y : Vec} {n : Nat} (hy : Sup m y) : ∀ k, Sup m (hz m c b y n k)
 | 0 => Sup.z
 | k + 1 => Sup.add Sup.tX hy.sm
theorem rep_z (p m : Nat) : List.replicate m (0 : Int) = dgi p m 0 := YB (by simp [Qe]) fun i hi => by
 rw [Jkd, Yt (by simpa using hi), Jel]; rfl
theorem nm_z {p m : Nat} (hp : 0 < p) : nm p m vz = 0 := by rw [<- Jel p, Jau hp (Nat.pow_pos hp)]
theorem Jof {P M : Int} {mf : LI} {p m v : Nat} (F : FV P M mf p m v) {o : LI} {x y : Nat} {Q : LI -> Prop} (ho : o.length = m) (hx : x < p ^ m) (hy : y < p ^ m) (h : Q (dgi p m (Jr p m (dv p v) x y))) : Jaf P M mf o (dgi p m x) (dgi p m y) Q := by
 have hp := F.p2; have hp2 := F.p256; have hm0 := F.m0; have hm8 := F.m8; obtain rfl := F.eP; obtain rfl := F.eM; have hlx := Qe p m x; have hly := Qe p m y; have hcx := Jfv (p := p) (by omega) x m; have hcy := Jfv (p := p) (by omega) y m; refine ⟨Ju (by omega) (by omega), fun z => ∃ k : Nat, z = k /\ k < m /\ ∀ i, k < i -> i < m -> dv p y i = 0, ⟨fun z => ∃ k : Nat, z = k /\ k < m /\ ∀ i, k < i -> i < m -> dv p y i = 0, fun z => z.toNat, ⟨m - 1, by omega, by omega, fun i h1 h2 => by omega⟩, ?_⟩, ?_⟩
 .rintro _ ⟨k, rfl, hk, hzz⟩; dsimp only; refine ⟨fun hlt => ⟨⟨by omega, by omega⟩, fun h0 => ⟨Ju (by omega) (by omega), ⟨k - 1, by omega, by omega, fun i h1 h2 => ?_⟩, by omega⟩, fun _ => ⟨k, rfl, hk, hzz⟩⟩, fun _ => ⟨k, rfl, hk, hzz⟩⟩; rw [JW, Yt hk] at h0; by_cases hik : i = k
  .subst hik; exact h0
  .exact hzz i (by omega) h2
 .rintro _ ⟨k0, rfl, hk0, hzz⟩; refine ⟨fun l z => ∃ k : Nat, z = (m : Int) - 1 - k /\ k <= m /\ l = dgi p m (nm p m (hz m (dv p v) (dv p y) (dv p x) m k)), fun l z => (z + 1).toNat, ⟨m - 1 - k0, by omega, by omega, ?_⟩, ?_⟩
  .rw [hz_z (by omega) (fun i h1 h2 => hzz i (by omega) h2), nm_z (by omega), ho, rep_z p m]
  .rintro _ _ ⟨k, rfl, hk, rfl⟩; dsimp only; refine ⟨fun hge => Jqg F (Jbp (by omega) _) ?_, fun hlt => ?_⟩
   .have hs := hz_sup (c := dv p v) (b := dv p y) (n := m) (Ys hx) k; rw [Zn (vcg.tX (vcg.refl _) (Jjk (by omega) hs))]; generalize hT : tX m (dv p v) (hz m (dv p v) (dv p y) (dv p x) m k) = T; have hnT := Jbp (p := p) (m := m) (by omega) T; refine ⟨fun l z => ∃ t : Nat, z = t /\ t <= m /\ l.length = m /\ ∀ i, i < m -> vo l i = if i < t then (T i + dv p y (m - 1 - k) * dv p x i) % (p : Int) else T i % (p : Int), fun l z => (m - z).toNat, ⟨0, rfl, Nat.zero_le _, Qe _ _ _, fun i hi => by rw [if_neg (by omega), Yt hi, Jnh (by omega) _ hi]⟩, ?_⟩; rintro l _ ⟨t, rfl, ht, hl, hv⟩; dsimp only; rw [show (m : Int) - 1 - k = ((m - 1 - k : Nat) : Int) by omega, JW, JW, JW, Qo]; rw [hlx]; refine ⟨fun hlt => ?_, fun hge2 => ?_⟩
    .rw [hv t (by omega), if_neg (by omega), Yt (by omega), Yt (by omega)]; have c1 := hcy (m - 1 - k) (by omega); have c2 := hcx t (by omega); have c3 := Jer (a := dv p y (m - 1 - k)) (b := dv p x t) hp2 ⟨c1.1, by omega⟩ ⟨c2.1, by omega⟩; have c4 : 0 <= T t % (p : Int) /\ T t % (p : Int) < p := ⟨Int.emod_nonneg _ (by omega), Int.emod_lt_of_pos _ (by omega)⟩
     refine ⟨⟨by omega, by omega⟩, ⟨by omega, by omega⟩, ⟨by omega, by omega⟩, Ju (by omega) (by omega), Ju (by omega) (by omega), by omega, ⟨by omega, by omega⟩, Ju (by omega) (by omega), ⟨t + 1, by push_cast; rfl, by omega, by rw [List.length_set, hl], fun i hi => ?_⟩, by omega⟩; rw [Qd]; by_cases hti : t = i
     .subst hti; rw [if_pos ⟨rfl, by omega⟩, if_pos (by omega), Int.tmod_eq_emod_of_nonneg (by omega)]; exact Jl2 (Int.emod_emod _ _) rfl
     .rw [if_neg (fun h => hti h.1), hv i hi]; by_cases hit : i < t
      .rw [if_pos hit, if_pos (by omega)]
      .rw [if_neg hit, if_neg (by omega)]
    .refine ⟨Ju (by omega) (by omega), ⟨k + 1, by omega, by omega, ?_⟩, by omega⟩; refine Jeo (by omega) hl fun i hi => ?_; rw [hv i hi, if_pos (by omega)]; show _ = (J7 (tX m (dv p v) (hz m (dv p v) (dv p y) (dv p x) m k)) (vsm (dv p y (m - 1 - k)) (dv p x))) i % _; rw [hT]; rfl
   .have hkm : k = m := by omega
    subst hkm; rw [hz_all]; exact h
def pwl (M : Nat -> Nat -> Nat) (x n : Nat) : LI := (List.range n).map fun k => ((pw M x k : Nat) : Int)
theorem Z4 (M : Nat -> Nat -> Nat) (x n : Nat) : (pwl M x n).length = n := by simp [pwl]
theorem Jd5 {M : Nat -> Nat -> Nat} {x n i : Nat} (h : i < n) : vo (pwl M x n) i = ((pw M x i : Nat) : Int) := by
 unfold vo pwl; rw [List.getD_eq_getElem?_getD, List.getElem?_map, List.getElem?_range h]; rfl
theorem Jq7 (M : Nat -> Nat -> Nat) (x n : Nat) : pwl M x (n + 1) = pwl M x n ++ [((pw M x n : Nat) : Int)] := by simp [pwl, List.range_succ]
structure Od (M : Nat -> Nat -> Nat) (x n : Nat) : Prop where
  pos : 0 < n
  one : pw M x n = 1
  least : ∀ k, 0 < k -> k < n -> pw M x k ≠ 1
theorem Jqj {P M : Int} {mf : LI} {p m v : Nat} (F : FV P M mf p m v) {x : Nat} {Q : LI -> Prop} (h0 : 0 < x) (hx : x < p ^ m)
  (h : ∀ n, Od (Jr p m (dv p v)) x n -> n <= p ^ m - 1 -> Q (pwl (Jr p m (dv p v)) x n)) : Jb5 P M mf x Q := by
 have hp := F.p2; have hp2 := F.p256; have hm0 := F.m0; have hm8 := F.m8; have hq := F.q; have R := F.ring; obtain ⟨g, G⟩ := F.gen; have hone := G.xone R h0 hx; have hq2 := R.q2; obtain rfl := F.eP; obtain rfl := F.eM; refine Jf7 hp hp2 fun r hr _ => ?_; rw [Int.toNat_natCast] at hr; rw [hr hq]; refine ⟨⟨by omega, by omega, by omega⟩, by omega, _, Jdw (by omega) (by omega) (by omega) rfl, _, Jdw (by omega) (by omega) (by omega) rfl, ⟨by omega, by omega, by omega⟩, ?_⟩; refine ⟨fun l z a b => ∃ k : Nat, 0 < k /\ k <= p ^ m - 1 /\ l = pwl (Jr p m (dv p v)) x k /\ z = ((pw (Jr p m (dv p v)) x k : Nat) : Int) /\ a = dgi p m (pw (Jr p m (dv p v)) x k) /\ b.length = m /\ ∀ j, 0 < j -> j < k -> pw (Jr p m (dv p v)) x j ≠ 1, fun l z a b => 300 - l.length, ⟨1, by omega, by omega, rfl, by rw [R.pw_one hx], by rw [R.pw_one hx], by simp, fun j h1 h2 => by omega⟩, ?_⟩; rintro _ _ _ b ⟨k, hk0, hk, rfl, rfl, rfl, hb, hno⟩; dsimp only; refine ⟨fun hne => ?_, fun heq => ?_⟩
 .have hkq : k < p ^ m - 1 := by
   rcases Nat.lt_or_ge k (p ^ m - 1) with hc | hc
   .exact hc
   .have : k = p ^ m - 1 := by omega
    rw [this, hone] at hne; exact absurd rfl hne
  rw [Z4]; refine ⟨by omega, ?_⟩; refine Jof F hb (R.pw_lt x k) hx ?_; have hlt := R.pw_lt x (k + 1); refine Jf8 hp hp2 (by rw [Qe]; exact Jem (by omega) hlt _) (by rw [Qe]; exact hq) ?_; have hvd := vl_dgi (p := p) (m := m) (by omega) hlt; refine ⟨⟨k + 1, by omega, by omega, (Jq7 _ _ _).symm, hvd, rfl, Qe _ _ _, fun j h1 h2 => ?_⟩, ?_⟩
  .by_cases hjk : j = k
   .subst hjk; intro e; rw [e] at hne; exact hne rfl
   .exact hno j h1 (by omega)
  .rw [List.length_append, Z4]; simp; omega
 .refine h k ⟨hk0, ?_, hno⟩ hk; have : ((pw (Jr p m (dv p v)) x k : Nat) : Int) = 1 := by
   by_cases hc : ((pw (Jr p m (dv p v)) x k : Nat) : Int) = 1
   .exact hc
   .exact absurd hc heq
  omega
end Go.Proofs.Ytjgpkljepgcekaa
