/- Contracts of functions of the program, and what they lean on: D31, D33, C1, Gf, D2, D3, D4, D5, D6, D7, D11, Dt, Fa, Fb, Fg, Fp, Fk, Fc, V1, V2, D32, D34, C2, D10, B2, V3, V4, V5, V6, P1, P2, P3, P4, P5, P6, D25, D26, D27, D28, D29, D21, D30, D22, H2, C3. -/
import Derived.Test.YtppkigdakobebaaBchClosuresG2
set_option linter.unusedSimpArgs false
set_option linter.unusedVariables false
set_option maxRecDepth 4000
set_option maxHeartbeats 4000000
namespace Go.Proofs.Ytppkigdakobebaa
open Go.RowKit
def Qz (qq : Int) (n : Int) (Q : LL × Int -> Prop) : Prop :=
  ((qq < 2) -> (Q (([] : LL), (6 : Int)))) /\ (¬ (qq < 2) -> ((((256 : Int) < qq) -> (Q (([] : LL), (6 : Int)))) /\ (¬ ((256 : Int) < qq) -> (((n < 1) -> (Q (([] : LL), (6 : Int)))) /\ (¬ (n < 1) -> ((((65536 : Int) < n) -> (Q (([] : LL), (6 : Int)))) /\ (¬ ((65536 : Int) < n) -> (Jaf qq n (fun (r20, r21) => ((r21 ≠ 0) -> (Q (([] : LL), r21))) /\ (¬ (r21 ≠ 0) -> (((r20 ≠ 1) -> (Q (([] : LL), (10 : Int)))) /\ (¬ (r20 ≠ 1) -> ((0 <= n /\ n * 1 <= 281474976710656 /\ n <= 281474976710656) /\ (∃ (I51 : List Bool -> LL -> Int -> Prop) (μ52 : List Bool -> LL -> Int -> Nat), I51 (List.replicate n.toNat false) ([] : LL) (0 : Int) /\ ∀ (x44 : List Bool) (x45 : LL) (z50 : Int), (I51 x44 x45 z50 -> (((z50 < n) -> (∃ J63 : LL -> List Bool -> Int -> Bool -> Bool -> Prop, (∃ (I82 : List Bool -> LI -> Int -> Prop) (μ83 : List Bool -> LI -> Int -> Nat), I82 x44 ([] : LI) z50 /\ ∀ (x76 : List Bool) (x77 : LI) (z81 : Int), (I82 x76 x77 z81 -> ((0 <= z81 /\ z81 < (n.toNat : Nat)) /\ ((((!(gb x76 z81)) = true) -> ((0 <= z81 /\ z81 < (n.toNat : Nat)) /\ ((((x77.length : Nat) + (1 : Nat) : Int) * 8 <= 140737488355328) /\ ((I64 (z81 * qq)) /\ ((n ≠ 0) /\ (I82 (sb x76 z81 true) (x77 ++ ([z81] : LI)) ((z81 * qq).tmod n) /\ μ83 (sb x76 z81 true) (x77 ++ ([z81] : LI)) ((z81 * qq).tmod n) < μ83 x76 x77 z81)))))) /\ ((!(gb x76 z81)) = false -> ((((0 : Int) < (x77.length : Int)) -> (ZE x77 (fun x100 => (((x45.length : Nat) + (1 : Nat) : Int) * 24 <= 140737488355328) /\ (J63 (x45 ++ [x100]) x76 z81 (!(gb x76 z81)) (decide ((0 : Int) < (x77.length : Int))))))) /\ (¬ ((0 : Int) < (x77.length : Int)) -> (J63 x45 x76 z81 (!(gb x76 z81)) (decide ((0 : Int) < (x77.length : Int))))))))))) /\ ∀ (x55 : LL) (x59 : List Bool) (z60 : Int) (b61 : Bool) (b62 : Bool), (J63 x55 x59 z60 b61 b62 -> ((I64 (z50 + 1)) /\ (I51 x59 x55 (z50 + 1) /\ μ52 x59 x55 (z50 + 1) < μ52 x44 x45 z50))))) /\ (¬ (z50 < n) -> (Q (x45, (0 : Int))))))))))))))))))))
theorem Jan {w : World} {Q : LL × Int -> Prop} {qq : Int} {n : Int}  (hv : Qz qq n Q) :
   Calls Try.prog 52 #[.int .i64 qq, .int .i64 n] w <| Rt w fun v Qr => ∃ (r0 : LL) (r1 : Int) (A0 : Option Addr) (k0 : Nat) (hs0 : Hs), v = .tuple #[.slice A0 r0.length k0, .int .i64 r1] /\ Qr = [mx 22 3 A0 r0.length k0 hs0 r0] /\ Q (r0, r1) := by
 refine Je <| Jf (vs := [nI qq, nI n]) [4, 5] XF52 rfl rfl rfl rfl ?_; have hS := Jk w; unfold Qz at hv; refine Jb 10 <| Jh rfl rfl ?_; by_cases g11 : qq < 2
 .have hv := hv.1 g11; rw [decide_eq_true g11]; refine Ja 12 <| JP rfl <| Jb 5 <| W.ret ?_; have hS := hS.mxNil 22 3; have hm0 := hS.mxlen (i := 0) rfl; have hS := hS.relenMx (i := 0) rfl hm0.symm
  change St _ _ _ _ [_] at hS
  refine ⟨_, rfl, Fin.nil ?_⟩; exact ⟨_, hS.ext, (hS.pick [0] rfl).rows, JG (hS.pick [0] rfl).rows rfl, ⟨([] : LL), (6 : Int), none, 0, (fun _ => (none, 0)), (by (try unfold nS); first | (rw [show (Value.slice none 0 0) = Value.slice none (([] : LL)).length 0 from sm0 hm0.symm]; done) | (rw [show (Value.slice none 0 0) = Value.slice none (([] : LL)).length 0 from sm0 hm0.symm]; rfl)), rfl, hv⟩⟩
 have hv := hv.2 g11; rw [decide_eq_false g11]; refine Ja 5 <| Jh rfl rfl ?_; by_cases g13 : (256 : Int) < qq
 .have hv := hv.1 g13; rw [decide_eq_true g13]; refine Ja 8 <| JP rfl <| Jb 5 <| W.ret ?_; have hS := hS.mxNil 22 3; have hm0 := hS.mxlen (i := 0) rfl; have hS := hS.relenMx (i := 0) rfl hm0.symm
  change St _ _ _ _ [_] at hS
  refine ⟨_, rfl, Fin.nil ?_⟩; exact ⟨_, hS.ext, (hS.pick [0] rfl).rows, JG (hS.pick [0] rfl).rows rfl, ⟨([] : LL), (6 : Int), none, 0, (fun _ => (none, 0)), (by (try unfold nS); first | (rw [show (Value.slice none 0 0) = Value.slice none (([] : LL)).length 0 from sm0 hm0.symm]; done) | (rw [show (Value.slice none 0 0) = Value.slice none (([] : LL)).length 0 from sm0 hm0.symm]; rfl)), rfl, hv⟩⟩
 have hv := hv.2 g13; rw [decide_eq_false g13]; refine Ja 5 <| Jh rfl rfl ?_; by_cases g15 : n < 1
 .have hv := hv.1 g15; rw [decide_eq_true g15]; refine Ja 4 <| JP rfl <| Jb 5 <| W.ret ?_; have hS := hS.mxNil 22 3; have hm0 := hS.mxlen (i := 0) rfl; have hS := hS.relenMx (i := 0) rfl hm0.symm
  change St _ _ _ _ [_] at hS
  refine ⟨_, rfl, Fin.nil ?_⟩; exact ⟨_, hS.ext, (hS.pick [0] rfl).rows, JG (hS.pick [0] rfl).rows rfl, ⟨([] : LL), (6 : Int), none, 0, (fun _ => (none, 0)), (by (try unfold nS); first | (rw [show (Value.slice none 0 0) = Value.slice none (([] : LL)).length 0 from sm0 hm0.symm]; done) | (rw [show (Value.slice none 0 0) = Value.slice none (([] : LL)).length 0 from sm0 hm0.symm]; rfl)), rfl, hv⟩⟩
 have hv := hv.2 g15; rw [decide_eq_false g15]; refine Ja 6 <| Jd rfl (fun c17 => ?_) (fun c17 => ?_)
 .have hv := hv.1 (oT c17); refine Jb 5 <| W.ret ?_; have hS := hS.mxNil 22 3; have hm0 := hS.mxlen (i := 0) rfl; have hS := hS.relenMx (i := 0) rfl hm0.symm
  change St _ _ _ _ [_] at hS
  refine ⟨_, rfl, Fin.nil ?_⟩; exact ⟨_, hS.ext, (hS.pick [0] rfl).rows, JG (hS.pick [0] rfl).rows rfl, ⟨([] : LL), (6 : Int), none, 0, (fun _ => (none, 0)), (by (try unfold nS); first | (rw [show (Value.slice none 0 0) = Value.slice none (([] : LL)).length 0 from sm0 hm0.symm]; done) | (rw [show (Value.slice none 0 0) = Value.slice none (([] : LL)).length 0 from sm0 hm0.symm]; rfl)), rfl, hv⟩⟩
 have hv := hv.2 (oF c17); refine Jg <| Jb 4 <| SL.call hS (ok_Gcd  hv) XF99 rfl XN99 rfl rfl ?_; rintro _ _ w19 ⟨r20, r21, rfl, rfl, hv⟩ hGw19 hS; have hS := hS.n0; refine Ja 6 <| Jb 6 <| Jd rfl (fun c22 => ?_) (fun c22 => ?_)
 .have hv := hv.1 (oT c22); refine Jb 6 <| W.ret ?_; have hS := hS.mxNil 22 3; have hm0 := hS.mxlen (i := 0) rfl; have hS := hS.relenMx (i := 0) rfl hm0.symm
  change St _ _ _ _ [_] at hS
  refine ⟨_, rfl, Fin.nil ?_⟩; exact ⟨_, hS.ext, (hS.pick [0] rfl).rows, JG (hS.pick [0] rfl).rows rfl, ⟨([] : LL), r21, none, 0, (fun _ => (none, 0)), (by (try unfold nS); first | (rw [show (Value.slice none 0 0) = Value.slice none (([] : LL)).length 0 from sm0 hm0.symm]; done) | (rw [show (Value.slice none 0 0) = Value.slice none (([] : LL)).length 0 from sm0 hm0.symm]; rfl)), rfl, hv⟩⟩
 have hv := hv.2 (oF c22); refine Jg <| Jb 6 <| Jd rfl (fun c24 => ?_) (fun c24 => ?_)
 .have hv := hv.1 (oT c24); refine Jb 5 <| W.ret ?_; have hS := hS.mxNil 22 3; have hm0 := hS.mxlen (i := 0) rfl; have hS := hS.relenMx (i := 0) rfl hm0.symm
  change St _ _ _ _ [_] at hS
  refine ⟨_, rfl, Fin.nil ?_⟩; exact ⟨_, hS.ext, (hS.pick [0] rfl).rows, JG (hS.pick [0] rfl).rows rfl, ⟨([] : LL), (10 : Int), none, 0, (fun _ => (none, 0)), (by (try unfold nS); first | (rw [show (Value.slice none 0 0) = Value.slice none (([] : LL)).length 0 from sm0 hm0.symm]; done) | (rw [show (Value.slice none 0 0) = Value.slice none (([] : LL)).length 0 from sm0 hm0.symm]; rfl)), rfl, hv⟩⟩
 have hv := hv.2 (oF c24); refine Jg <| Jb 7 ?_; obtain ⟨o26, hv⟩ := hv; refine QT (J := n) hS Qw XE4 rfl rfl o26 (QO _) rfl ?_; intro A27 w28 hS; refine Ja 2 <| Jb 6 <| W.block ?_; obtain ⟨I51, μ52, hv, hk112⟩ := hv; have hS := hS.mxNil 22 3; have hm0 : 0 = ([] : LL).length := (hS.mxlen (i := 0) rfl).symm; have hS := hS.relenMx (i := 0) rfl hm0
 change St _ _ _ _ [_, _] at hS
 refine JD (σ := List Bool × LL × Int × Option Addr × Nat × Hs) (fun q w1 => match q with | (x44, x45, z50, A46, k47, hs48) => I51 x44 x45 z50 /\ St TT w none w1 [mx 22 3 A46 x45.length k47 hs48 x45, .row 4 1 A27 n.toNat n.toNat (bs x44)]) (fun (x44, x45, z50, A46, k47, hs48) => [(0, nI qq), (1, nI n), (4, .slice none 0 0), (5, nI 0), (8, nS A46 x45 k47), (9, .slice A27 n.toNat n.toNat), (40, nI n), (41, nI z50)]) (fun (x44, x45, z50, A46, k47, hs48) => μ52 x44 x45 z50) (List.replicate n.toNat false, ([] : LL), (0 : Int), none, 0, (fun _ => (none, 0))) ⟨hv, hS⟩ ⟨rfl, rfl, rfl, rfl, (sm (by first | rfl | assumption | omega)), rfl, rfl, rfl, trivial⟩ ?_; rintro ⟨x44, x45, z50, A46, k47, hs48⟩ w53 ⟨hv, hS⟩; have hv := hk112 x44 x45 z50 hv; refine Jb 5 <| Jd rfl (fun c54 => ?_) (fun c54 => ?_)
 .have hv := hv.1 (oT c54); refine Jg <| JO ?_; obtain ⟨J63, hv, hk111⟩ := hv; refine YD (σ := LL × List Bool × Int × Bool × Bool × Option Addr × Nat × Hs) (fun q w1 => match q with | (x55, x59, z60, b61, b62, A56, k57, hs58) => J63 x55 x59 z60 b61 b62 /\ St TT w none w1 [mx 22 3 A56 x55.length k57 hs58 x55, .row 4 1 A27 n.toNat n.toNat (bs x59)]) (fun (x55, x59, z60, b61, b62, A56, k57, hs58) => [(0, nI qq), (1, nI n), (4, .slice none 0 0), (5, nI 0), (8, nS A56 x55 k57), (9, .slice A27 n.toNat n.toNat), (10, nI z50), (12, nI z60), (40, nI n), (41, nI z50), (42, .bool (decide (z50 < n))), (49, .bool b61), (64, .bool b62)]) ?_ ?_
  .refine W.block ?_; refine Jb 15 <| W.block ?_; obtain ⟨I82, μ83, hv, hk108⟩ := hv; have hS := hS.nil (e := 3) (z := 1); have hm0 : 0 = ([] : LI).length := (hS.rd (i := 0) rfl).ilen.symm; have hS := hS.relen (i := 0) rfl hm0
   change St _ _ _ _ [_, _, _] at hS
   refine JD (σ := List Bool × LI × Int × Option Addr × Nat) (fun q w1 => match q with | (x76, x77, z81, A78, k79) => I82 x76 x77 z81 /\ St TT w none w1 [nR 3 A78 x77 k79, mx 22 3 A46 x45.length k47 hs48 x45, .row 4 1 A27 n.toNat n.toNat (bs x76)]) (fun (x76, x77, z81, A78, k79) => [(0, nI qq), (1, nI n), (4, .slice none 0 0), (5, nI 0), (8, nS A46 x45 k47), (9, .slice A27 n.toNat n.toNat), (10, nI z50), (11, nS A78 x77 k79), (12, nI z81), (40, nI n), (41, nI z50), (42, .bool (decide (z50 < n)))]) (fun (x76, x77, z81, A78, k79) => μ83 x76 x77 z81) (x44, ([] : LI), z50, none, 0) ⟨hv, hS⟩ ⟨rfl, rfl, rfl, rfl, rfl, rfl, rfl, (sm (by first | rfl | assumption | omega)), rfl, rfl, rfl, rfl, trivial⟩ ?_; rintro ⟨x76, x77, z81, A78, k79⟩ w84 ⟨hv, hS⟩; have hv := hk108 x76 x77 z81 hv; refine Jb 5 ?_; obtain ⟨o85, hv⟩ := hv; refine Jp Qw XE4 (hS.rd (i := 2) rfl) rfl rfl o85 rfl <| Jy XU4 rfl rfl (Zc (hS.rd (i := 2) rfl) o85) rfl <| Ja 2 <| Jd rfl (fun c86 => ?_) (fun c86 => ?_)
   .have hv := hv.1 (c86); refine Jg <| JO <| W.block <| Jb 4 ?_; obtain ⟨o87, hv⟩ := hv; refine Jp Qw XE4 (hS.rd (i := 2) rfl) rfl rfl o87 rfl <| Qd (cs' := bs (sb x76 z81 true)) 2 z81.toNat hS rfl XE4 rfl rfl rfl (Z9 (hS.rd (i := 2) rfl) o87) (YB _ _ _) ?_; intro w88 hS; refine Jl <| Jb 3 <| QU (vs := is ([z81] : LI)) hS JK XE3 rfl rfl rfl rfl (Qk _) rfl ?_; intro A89 w90 hS; obtain ⟨o92, hv⟩ := hv; refine SL.append (cs := is x77) (cs' := is ([z81] : LI)) 1 ((x77 ++ ([z81] : LI)).length) (is (x77 ++ ([z81] : LI))) hS rfl JK XE3 (hS.rd (i := 0) rfl) (Qk _) rfl rfl (apk o92).1 (apk o92).2 (Z2 (hS.rd (i := 1) rfl) (hS.rd (i := 0) rfl)) (Qg _ _) rfl ?_; intro A93 k94 w95 hS; refine Ja 2 <| Jb 3 ?_; obtain ⟨o96, hv⟩ := hv; refine WL.mul (r := (z81 * qq)) rfl rfl (wr o96) rfl <| Jh rfl rfl ?_; obtain ⟨o97, hv⟩ := hv; refine J7 (r := ((z81 * qq).tmod n)) rfl rfl o97 rfl rfl <| Ja 2 ?_; have hS := hS.pick [1, 2, 3] rfl; exact ⟨(sb x76 z81 true, x77 ++ ([z81] : LI), ((z81 * qq).tmod n), A93, k94), sp rfl, hv.2, rfl, hv.1, hS⟩
   have hv := hv.2 (c86); refine JE <| Jb 3 <| WL.len JK rfl rfl <| Ja 2 <| Jd rfl (fun c98 => ?_) (fun c98 => ?_)
   .have hv := hv.1 (oT c98); refine Jb 3 <| SL.callm 0 hS rfl (ZT (hS.own (i := 0) rfl) hv) XF56 rfl XN56 rfl rfl ?_; rintro _ _ w99 ⟨x100, rfl, rfl, hv⟩ hS; refine Jl <| Jb 3 <| QU (vs := [nS A78 x77 k79]) hS XU76 XE22 rfl rfl rfl rfl (by simp [Value.oneCell']) rfl ?_; intro A101 w102 hS; obtain ⟨o104, hv⟩ := hv; have hS := hS.pick [2, 0, 1, 3] rfl; have hS := hS.pick [1, 2, 0, 3] rfl; have hS := Jcx (hS.rd (i := 1) rfl).ilen.symm hS
    change St _ _ _ _ [_, _, _] at hS
    refine Zb hS XU76 XE22 rfl rfl (apk o104).1 (apk o104).2 rfl ?_; intro A105 k106 w107 hS; refine Ja 2 ?_; exact ⟨(x45 ++ [x100], x76, z81, (!(gb x76 z81)), (decide ((0 : Int) < (x77.length : Int))), A105, k106, (Q8 x45.length hs48 (fun _ => (A78, k79)))), sp rfl, rfl, hv, hS⟩
   have hv := hv.2 (oF c98); refine Jg ?_; have hS := hS.pick [1, 2] rfl; exact ⟨(x45, x76, z81, (!(gb x76 z81)), (decide ((0 : Int) < (x77.length : Int))), A46, k47, hs48), sp rfl, rfl, hv, hS⟩
  rintro ⟨x55, x59, z60, b61, b62, A56, k57, hs58⟩ w109 ⟨hv, hS⟩; have hv := hk111 x55 x59 z60 b61 b62 hv; refine J9 ?_; obtain ⟨o110, hv⟩ := hv; refine WL.add (r := (z50 + 1)) rfl rfl (wr o110) rfl <| Ja 2 ?_; exact ⟨(x59, x55, (z50 + 1), A56, k57, hs58), sp rfl, hv.2, rfl, hv.1, hS⟩
 have hv := hv.2 (oF c54); refine JE <| Jb 6 <| W.ret <| ⟨_, rfl, Fin.nil ?_⟩
 exact (hS.pick [0] rfl).fin rfl ⟨x45, (0 : Int), A46, k47, hs48, rfl, rfl, hv⟩
end Go.Proofs.Ytppkigdakobebaa
namespace Go.Proofs.Ytppkigdakobebaa
open Go.RowKit
def Ji (qq : Int) (n : Int) (Q : Int -> Prop) : Prop :=
  ((qq < 2) -> (Q 6)) /\ (¬ (qq < 2) -> ((((256 : Int) < qq) -> (Q 6)) /\ (¬ ((256 : Int) < qq) -> (((n < 1) -> (Q 4)) /\ (¬ (n < 1) -> ((((64 : Int) < n) -> (Q 4)) /\ (¬ ((64 : Int) < n) -> (Qh qq n (fun r16 => ((r16 ≠ 1) -> (Q 10)) /\ (¬ (r16 ≠ 1) -> (Q 0)))))))))))
theorem Js {w : World} {Q : Int -> Prop} {qq : Int} {n : Int}  (hv : Ji qq n Q) :
   Calls Try.prog 18 #[.int .i64 qq, .int .i64 n] w <| Rt w fun v Qr => ∃ (r0 : Int), v = .int .i64 r0 /\ Qr = [] /\ Q r0 := by
 refine Je <| Jf (vs := [nI qq, nI n]) [4] Ja0 rfl rfl rfl rfl ?_; have hS := Jk w; unfold Ji at hv; refine Jb 9 <| Jh rfl rfl ?_; by_cases g11 : qq < 2
 .have hv := hv.1 g11; rw [decide_eq_true g11]; refine Ja 4 <| JP rfl <| Jb 4 <| W.ret <| ⟨_, rfl, Fin.nil ?_⟩
  exact (hS.pick [] rfl).fin rfl ⟨(6 : Int), rfl, rfl, hv⟩
 have hv := hv.2 g11; rw [decide_eq_false g11]; refine Ja 6 <| Jd rfl (fun c12 => ?_) (fun c12 => ?_)
 .have hv := hv.1 (oT c12); refine Jb 4 <| W.ret <| ⟨_, rfl, Fin.nil ?_⟩
  exact (hS.pick [] rfl).fin rfl ⟨(6 : Int), rfl, rfl, hv⟩
 have hv := hv.2 (oF c12); refine Jg <| Jb 5 <| Jh rfl rfl ?_; by_cases g13 : n < 1
 .have hv := hv.1 g13; rw [decide_eq_true g13]; refine Ja 4 <| JP rfl <| Jb 4 <| W.ret <| ⟨_, rfl, Fin.nil ?_⟩
  exact (hS.pick [] rfl).fin rfl ⟨(4 : Int), rfl, rfl, hv⟩
 have hv := hv.2 g13; rw [decide_eq_false g13]; refine Ja 6 <| Jd rfl (fun c14 => ?_) (fun c14 => ?_)
 .have hv := hv.1 (oT c14); refine Jb 4 <| W.ret <| ⟨_, rfl, Fin.nil ?_⟩
  exact (hS.pick [] rfl).fin rfl ⟨(4 : Int), rfl, rfl, hv⟩
 have hv := hv.2 (oF c14); refine Jg <| Jb 5 <| SL.call hS (Zq  hv) XF51 rfl XN51 rfl rfl ?_; rintro _ _ w15 ⟨r16, rfl, rfl, hv⟩ hGw15 hS; have hS := hS.n0; refine Ja 2 <| Jd rfl (fun c17 => ?_) (fun c17 => ?_)
 .have hv := hv.1 (oT c17); refine Jb 4 <| W.ret <| ⟨_, rfl, Fin.nil ?_⟩
  exact (hS.pick [] rfl).fin rfl ⟨(10 : Int), rfl, rfl, hv⟩
 have hv := hv.2 (oF c17); refine Jg <| Jb 4 <| W.ret <| ⟨_, rfl, Fin.nil ?_⟩
 exact (hS.pick [] rfl).fin rfl ⟨(0 : Int), rfl, rfl, hv⟩
def Qa (qq : Int) (n : Int) (x : Int) (Q : LI -> Prop) : Prop :=
  (0 <= n /\ n * 1 <= 281474976710656 /\ n <= 281474976710656) /\ ((n ≠ 0) /\ (∃ (I22 : List Bool -> Int -> Prop) (μ23 : List Bool -> Int -> Nat), I22 (List.replicate n.toNat false) (x.tmod n) /\ ∀ (x20 : List Bool) (z21 : Int), (I22 x20 z21 -> ((0 <= z21 /\ z21 < (n.toNat : Nat)) /\ ((((!(gb x20 z21)) = true) -> ((0 <= z21 /\ z21 < (n.toNat : Nat)) /\ ((I64 (z21 * qq)) /\ ((n ≠ 0) /\ (I22 (sb x20 z21 true) ((z21 * qq).tmod n) /\ μ23 (sb x20 z21 true) ((z21 * qq).tmod n) < μ23 x20 z21))))) /\ ((!(gb x20 z21)) = false -> (∃ (I46 : LI -> Int -> Prop) (μ47 : LI -> Int -> Nat), I46 ([] : LI) (0 : Int) /\ ∀ (x41 : LI) (z45 : Int), (I46 x41 z45 -> (((z45 < n) -> (∃ J53 : LI -> Prop, ((0 <= z45 /\ z45 < (n.toNat : Nat)) /\ ((((gb x20 z45) = true) -> ((((x41.length : Nat) + (1 : Nat) : Int) * 8 <= 140737488355328) /\ (J53 (x41 ++ ([z45] : LI))))) /\ ((gb x20 z45) = false -> J53 x41))) /\ ∀ (x50 : LI), (J53 x50 -> ((I64 (z45 + 1)) /\ (I46 x50 (z45 + 1) /\ μ47 x50 (z45 + 1) < μ47 x41 z45))))) /\ (¬ (z45 < n) -> Q x41))))))))))
theorem Jal {w : World} {Q : LI -> Prop} {qq : Int} {n : Int} {x : Int}  (hv : Qa qq n x Q) :
   Calls Try.prog 57 #[.int .i64 qq, .int .i64 n, .int .i64 x] w <| Rt w fun v Qr => ∃ (x : LI)  (A : Option Addr) (c : Nat), v = .slice A x.length c /\ Qr = [.row 3 1 A x.length c (is x)] /\ Q x := by
 refine Je <| Jf (vs := [nI qq, nI n, nI x]) [6] XF57 rfl rfl rfl rfl ?_; have hS := Jk w; unfold Qa at hv; refine Jb 7 ?_; obtain ⟨o11, hv⟩ := hv; refine QT (J := n) hS Qw XE4 rfl rfl o11 (QO _) rfl ?_; intro A12 w13 hS; refine Ja 2 <| Jb 5 ?_; obtain ⟨o15, hv⟩ := hv; refine J7 (r := (x.tmod n)) rfl rfl o15 rfl rfl <| Ja 2 <| W.block ?_; obtain ⟨I22, μ23, hv, hk67⟩ := hv; refine JD (σ := List Bool × Int) (fun q w1 => match q with | (x20, z21) => I22 x20 z21 /\ St TT w none w1 [.row 4 1 A12 n.toNat n.toNat (bs x20)]) (fun (x20, z21) => [(0, nI qq), (1, nI n), (6, .slice none 0 0), (7, .slice A12 n.toNat n.toNat), (8, nI z21)]) (fun (x20, z21) => μ23 x20 z21) (List.replicate n.toNat false, (x.tmod n)) ⟨hv, hS⟩ ⟨rfl, rfl, rfl, rfl, rfl, trivial⟩ ?_; rintro ⟨x20, z21⟩ w24 ⟨hv, hS⟩; have hv := hk67 x20 z21 hv; refine Jb 5 ?_; obtain ⟨o25, hv⟩ := hv; refine Jp Qw XE4 (hS.rd (i := 0) rfl) rfl rfl o25 rfl <| Jy XU4 rfl rfl (Zc (hS.rd (i := 0) rfl) o25) rfl <| Ja 2 <| Jd rfl (fun c26 => ?_) (fun c26 => ?_)
 .have hv := hv.1 (c26); refine Jg <| JO <| W.block <| Jb 3 ?_; obtain ⟨o27, hv⟩ := hv; refine Jp Qw XE4 (hS.rd (i := 0) rfl) rfl rfl o27 rfl <| Qd (cs' := bs (sb x20 z21 true)) 0 z21.toNat hS rfl XE4 rfl rfl rfl (Z9 (hS.rd (i := 0) rfl) o27) (YB _ _ _) ?_; intro w28 hS; refine Jl <| Jb 3 ?_; obtain ⟨o29, hv⟩ := hv; refine WL.mul (r := (z21 * qq)) rfl rfl (wr o29) rfl <| Jh rfl rfl ?_; obtain ⟨o30, hv⟩ := hv; refine J7 (r := ((z21 * qq).tmod n)) rfl rfl o30 rfl rfl <| Ja 2 ?_; exact ⟨(sb x20 z21 true, ((z21 * qq).tmod n)), sp rfl, hv.2, rfl, hv.1, hS⟩
 have hv := hv.2 (c26); refine JE <| Jb 9 <| W.block ?_; obtain ⟨I46, μ47, hv, hk66⟩ := hv; have hS := hS.nil (e := 3) (z := 1); have hm0 : 0 = ([] : LI).length := (hS.rd (i := 0) rfl).ilen.symm; have hS := hS.relen (i := 0) rfl hm0
 change St _ _ _ _ [_, _] at hS
 refine JD (σ := LI × Int × Option Addr × Nat) (fun q w1 => match q with | (x41, z45, A42, k43) => I46 x41 z45 /\ St TT w none w1 [nR 3 A42 x41 k43, .row 4 1 A12 n.toNat n.toNat (bs x20)]) (fun (x41, z45, A42, k43) => [(1, nI n), (6, .slice none 0 0), (7, .slice A12 n.toNat n.toNat), (9, nS A42 x41 k43), (10, nI z45)]) (fun (x41, z45, A42, k43) => μ47 x41 z45) (([] : LI), (0 : Int), none, 0) ⟨hv, hS⟩ ⟨rfl, rfl, rfl, (sm (by first | rfl | assumption | omega)), rfl, trivial⟩ ?_; rintro ⟨x41, z45, A42, k43⟩ w48 ⟨hv, hS⟩; have hv := hk66 x41 z45 hv; refine Jb 7 <| Jd rfl (fun c49 => ?_) (fun c49 => ?_)
 .have hv := hv.1 (oT c49); refine Jg <| JO ?_; obtain ⟨J53, hv, hk65⟩ := hv; refine YD (σ := LI × Option Addr × Nat) (fun q w1 => match q with | (x50, A51, k52) => J53 x50 /\ St TT w none w1 [nR 3 A51 x50 k52, .row 4 1 A12 n.toNat n.toNat (bs x20)]) (fun (x50, A51, k52) => [(1, nI n), (6, .slice none 0 0), (7, .slice A12 n.toNat n.toNat), (9, nS A51 x50 k52), (10, nI z45), (31, .bool (decide (z45 < n))), (37, .bool (gb x20 z45))]) ?_ ?_
  .refine W.block ?_; refine Jb 4 ?_; obtain ⟨o54, hv⟩ := hv; refine Jp Qw XE4 (hS.rd (i := 1) rfl) rfl rfl o54 rfl <| Jy XU4 rfl rfl (Zc (hS.rd (i := 1) rfl) o54) rfl <| Jl <| Jd rfl (fun c55 => ?_) (fun c55 => ?_)
   .have hv := hv.1 (c55); refine Jb 3 <| QU (vs := is ([z45] : LI)) hS JK XE3 rfl rfl rfl rfl (Qk _) rfl ?_; intro A56 w57 hS; obtain ⟨o59, hv⟩ := hv; refine SL.append (cs := is x41) (cs' := is ([z45] : LI)) 1 ((x41 ++ ([z45] : LI)).length) (is (x41 ++ ([z45] : LI))) hS rfl JK XE3 (hS.rd (i := 0) rfl) (Qk _) rfl rfl (apk o59).1 (apk o59).2 (Z2 (hS.rd (i := 1) rfl) (hS.rd (i := 0) rfl)) (Qg _ _) rfl ?_; intro A60 k61 w62 hS; refine Ja 2 ?_; have hS := hS.pick [1, 2] rfl; exact ⟨(x41 ++ ([z45] : LI), A60, k61), sp rfl, rfl, hv, hS⟩
   have hv := hv.2 (c55); refine Jg ?_; exact ⟨(x41, A42, k43), sp rfl, rfl, hv, hS⟩
  rintro ⟨x50, A51, k52⟩ w63 ⟨hv, hS⟩; have hv := hk65 x50 hv; refine Jb 2 ?_; obtain ⟨o64, hv⟩ := hv; refine WL.add (r := (z45 + 1)) rfl rfl (wr o64) rfl <| Ja 2 ?_; exact ⟨(x50, (z45 + 1), A51, k52), sp rfl, hv.2, rfl, hv.1, hS⟩
 have hv := hv.2 (oF c49); refine JE <| Jb 5 <| W.ret <| ⟨_, rfl, Fin.nil ?_⟩
 exact (hS.pick [0] rfl).fin rfl ⟨x41, A42, k43, rfl, rfl, hv⟩
def JA (qq : Int) (n : Int) (y : LI) (Q : LI -> Prop) : Prop :=
  (0 <= n /\ n * 1 <= 281474976710656 /\ n <= 281474976710656) /\ (∃ (I21 : List Bool -> Int -> Prop) (μ22 : List Bool -> Int -> Nat), I21 (List.replicate n.toNat false) (0 : Int) /\ ∀ (x19 : List Bool) (z20 : Int), (I21 x19 z20 -> (((z20 < (y.length : Int)) -> ((0 <= z20 /\ z20 < (y.length : Nat)) /\ (YE (gi y z20) n (fun r27 => Qa qq n r27 (fun x29 => ∃ (I39 : List Bool -> Int -> Prop) (μ40 : List Bool -> Int -> Nat), I39 x19 (0 : Int) /\ ∀ (x37 : List Bool) (z38 : Int), (I39 x37 z38 -> (((z38 < (x29.length : Int)) -> ((0 <= z38 /\ z38 < (x29.length : Nat)) /\ ((0 <= (gi x29 z38) /\ (gi x29 z38) < (n.toNat : Nat)) /\ ((I64 (z38 + 1)) /\ (I39 (sb x37 (gi x29 z38) true) (z38 + 1) /\ μ40 (sb x37 (gi x29 z38) true) (z38 + 1) < μ40 x37 z38))))) /\ (¬ (z38 < (x29.length : Int)) -> ((I64 (z20 + 1)) /\ (I21 x37 (z20 + 1) /\ μ22 x37 (z20 + 1) < μ22 x19 z20)))))))))) /\ (¬ (z20 < (y.length : Int)) -> (∃ (I65 : LI -> Int -> Prop) (μ66 : LI -> Int -> Nat), I65 ([] : LI) (0 : Int) /\ ∀ (x59 : LI) (z63 : Int), (I65 x59 z63 -> (((z63 < n) -> (∃ J72 : LI -> Prop, ((0 <= z63 /\ z63 < (n.toNat : Nat)) /\ ((((gb x19 z63) = true) -> ((((x59.length : Nat) + (1 : Nat) : Int) * 8 <= 140737488355328) /\ (J72 (x59 ++ ([z63] : LI))))) /\ ((gb x19 z63) = false -> J72 x59))) /\ ∀ (x69 : LI), (J72 x69 -> ((I64 (z63 + 1)) /\ (I65 x69 (z63 + 1) /\ μ66 x69 (z63 + 1) < μ66 x59 z63))))) /\ (¬ (z63 < n) -> Q x59))))))))
theorem QI {w : World} {Q : LI -> Prop} {qq : Int} {n : Int} {y : LI} {By : Nat} {Ay : Option Addr} {ny ky : Nat} (hy : Rd By w 1 Ay ny ky (is y)) (hv : JA qq n y Q) :
   Calls Try.prog 21 #[.int .i64 qq, .int .i64 n, .slice Ay ny ky] w <| Rt w fun v Qr => ∃ (x : LI)  (A : Option Addr) (c : Nat), v = .slice A x.length c /\ Qr = [.row 3 1 A x.length c (is x)] /\ Q x := by
 have hny := hy.ilen; subst hny; refine Je <| Jf (vs := [nI qq, nI n, nS Ay y ky]) [6] XF21 rfl rfl rfl rfl ?_; have hS := Jk w; unfold JA at hv; refine Jb 7 ?_; obtain ⟨o11, hv⟩ := hv; refine QT (J := n) hS Qw XE4 rfl rfl o11 (QO _) rfl ?_; intro A12 w13 hS; refine Ja 2 <| Jb 5 <| W.block ?_; obtain ⟨I21, μ22, hv, hk86⟩ := hv; refine JD (σ := List Bool × Int) (fun q w1 => match q with | (x19, z20) => I21 x19 z20 /\ St TT w none w1 [.row 4 1 A12 n.toNat n.toNat (bs x19)]) (fun (x19, z20) => [(0, nI qq), (1, nI n), (2, nS Ay y ky), (6, .slice none 0 0), (7, .slice A12 n.toNat n.toNat), (8, nI z20)]) (fun (x19, z20) => μ22 x19 z20) (List.replicate n.toNat false, (0 : Int)) ⟨hv, hS⟩ ⟨rfl, rfl, rfl, rfl, rfl, rfl, trivial⟩ ?_; rintro ⟨x19, z20⟩ w23 ⟨hv, hS⟩; have hv := hk86 x19 z20 hv; refine Jb 5 <| WL.len JK rfl rfl <| Ja 2 <| Jd rfl (fun c24 => ?_) (fun c24 => ?_)
 .have hv := hv.1 (oT c24); refine Jg <| JO <| W.block <| Jb 6 ?_; obtain ⟨o25, hv⟩ := hv; refine Jp JK XE3 (hS.ro hy) rfl rfl o25 rfl <| Jy XU3 rfl rfl (Yn (hS.ro hy) o25) rfl <| Jh rfl rfl <| SL.call hS (Jde  hv) XF28 rfl XN28 rfl rfl ?_; rintro _ _ w26 ⟨r27, rfl, rfl, hv⟩ hGw26 hS; have hS := hS.n0; refine SL.call hS (Jal  hv) XF57 rfl XN57 rfl rfl ?_; rintro _ _ w28 ⟨x29, A30, k31, rfl, rfl, hv⟩ hGw28 hS; have hS := hS.n1; refine Ja 2 <| Jb 4 <| W.block ?_; obtain ⟨I39, μ40, hv, hk48⟩ := hv; refine JD (σ := List Bool × Int) (fun q w1 => match q with | (x37, z38) => I39 x37 z38 /\ St TT w none w1 [nR 3 A30 x29 k31, .row 4 1 A12 n.toNat n.toNat (bs x37)]) (fun (x37, z38) => [(0, nI qq), (1, nI n), (2, nS Ay y ky), (6, .slice none 0 0), (7, .slice A12 n.toNat n.toNat), (8, nI z20), (9, nS A30 x29 k31), (10, nI z38), (18, .bool (decide (z20 < (y.length : Int))))]) (fun (x37, z38) => μ40 x37 z38) (x19, (0 : Int)) ⟨hv, hS⟩ ⟨rfl, rfl, rfl, rfl, rfl, rfl, rfl, rfl, rfl, trivial⟩ ?_; rintro ⟨x37, z38⟩ w41 ⟨hv, hS⟩; have hv := hk48 x37 z38 hv; refine Jb 5 <| WL.len JK rfl rfl <| Ja 2 <| Jd rfl (fun c42 => ?_) (fun c42 => ?_)
  .have hv := hv.1 (oT c42); refine Jg <| JO <| W.block <| Jb 4 ?_; obtain ⟨o43, hv⟩ := hv; refine Jp JK XE3 (hS.rd (i := 0) rfl) rfl rfl o43 rfl <| Jy XU3 rfl rfl (Yn (hS.rd (i := 0) rfl) o43) rfl ?_; obtain ⟨o44, hv⟩ := hv; refine Jp Qw XE4 (hS.rd (i := 1) rfl) rfl rfl o44 rfl <| Qd (cs' := bs (sb x37 (gi x29 z38) true)) 1 (gi x29 z38).toNat hS rfl XE4 rfl rfl rfl (Z9 (hS.rd (i := 1) rfl) o44) (YB _ _ _) ?_; intro w45 hS; refine Jl <| Jb 2 ?_; obtain ⟨o46, hv⟩ := hv; refine WL.add (r := (z38 + 1)) rfl rfl (wr o46) rfl <| Ja 2 ?_; exact ⟨(sb x37 (gi x29 z38) true, (z38 + 1)), sp rfl, hv.2, rfl, hv.1, hS⟩
  have hv := hv.2 (oF c42); refine JE <| Jb 2 ?_; obtain ⟨o47, hv⟩ := hv; refine WL.add (r := (z20 + 1)) rfl rfl (wr o47) rfl <| Ja 2 ?_; have hS := hS.pick [1] rfl; exact ⟨(x37, (z20 + 1)), sp rfl, hv.2, rfl, hv.1, hS⟩
 have hv := hv.2 (oF c24); refine JE <| Jb 9 <| W.block ?_; obtain ⟨I65, μ66, hv, hk85⟩ := hv; have hS := hS.nil (e := 3) (z := 1); have hm0 : 0 = ([] : LI).length := (hS.rd (i := 0) rfl).ilen.symm; have hS := hS.relen (i := 0) rfl hm0
 change St _ _ _ _ [_, _] at hS
 refine JD (σ := LI × Int × Option Addr × Nat) (fun q w1 => match q with | (x59, z63, A60, k61) => I65 x59 z63 /\ St TT w none w1 [nR 3 A60 x59 k61, .row 4 1 A12 n.toNat n.toNat (bs x19)]) (fun (x59, z63, A60, k61) => [(1, nI n), (6, .slice none 0 0), (7, .slice A12 n.toNat n.toNat), (11, nS A60 x59 k61), (12, nI z63)]) (fun (x59, z63, A60, k61) => μ66 x59 z63) (([] : LI), (0 : Int), none, 0) ⟨hv, hS⟩ ⟨rfl, rfl, rfl, (sm (by first | rfl | assumption | omega)), rfl, trivial⟩ ?_; rintro ⟨x59, z63, A60, k61⟩ w67 ⟨hv, hS⟩; have hv := hk85 x59 z63 hv; refine Jb 7 <| Jd rfl (fun c68 => ?_) (fun c68 => ?_)
 .have hv := hv.1 (oT c68); refine Jg <| JO ?_; obtain ⟨J72, hv, hk84⟩ := hv; refine YD (σ := LI × Option Addr × Nat) (fun q w1 => match q with | (x69, A70, k71) => J72 x69 /\ St TT w none w1 [nR 3 A70 x69 k71, .row 4 1 A12 n.toNat n.toNat (bs x19)]) (fun (x69, A70, k71) => [(1, nI n), (6, .slice none 0 0), (7, .slice A12 n.toNat n.toNat), (11, nS A70 x69 k71), (12, nI z63), (44, .bool (decide (z63 < n))), (50, .bool (gb x19 z63))]) ?_ ?_
  .refine W.block ?_; refine Jb 4 ?_; obtain ⟨o73, hv⟩ := hv; refine Jp Qw XE4 (hS.rd (i := 1) rfl) rfl rfl o73 rfl <| Jy XU4 rfl rfl (Zc (hS.rd (i := 1) rfl) o73) rfl <| Jl <| Jd rfl (fun c74 => ?_) (fun c74 => ?_)
   .have hv := hv.1 (c74); refine Jb 3 <| QU (vs := is ([z63] : LI)) hS JK XE3 rfl rfl rfl rfl (Qk _) rfl ?_; intro A75 w76 hS; obtain ⟨o78, hv⟩ := hv; refine SL.append (cs := is x59) (cs' := is ([z63] : LI)) 1 ((x59 ++ ([z63] : LI)).length) (is (x59 ++ ([z63] : LI))) hS rfl JK XE3 (hS.rd (i := 0) rfl) (Qk _) rfl rfl (apk o78).1 (apk o78).2 (Z2 (hS.rd (i := 1) rfl) (hS.rd (i := 0) rfl)) (Qg _ _) rfl ?_; intro A79 k80 w81 hS; refine Ja 2 ?_; have hS := hS.pick [1, 2] rfl; exact ⟨(x59 ++ ([z63] : LI), A79, k80), sp rfl, rfl, hv, hS⟩
   have hv := hv.2 (c74); refine Jg ?_; exact ⟨(x59, A60, k61), sp rfl, rfl, hv, hS⟩
  rintro ⟨x69, A70, k71⟩ w82 ⟨hv, hS⟩; have hv := hk84 x69 hv; refine Jb 2 ?_; obtain ⟨o83, hv⟩ := hv; refine WL.add (r := (z63 + 1)) rfl rfl (wr o83) rfl <| Ja 2 ?_; exact ⟨(x69, (z63 + 1), A70, k71), sp rfl, hv.2, rfl, hv.1, hS⟩
 have hv := hv.2 (oF c68); refine JE <| Jb 5 <| W.ret <| ⟨_, rfl, Fin.nil ?_⟩
 exact (hS.pick [0] rfl).fin rfl ⟨x59, A60, k61, rfl, rfl, hv⟩
def JU (l : LI) (o : LI) (Q : Bool -> Prop) : Prop :=
  (((l.length : Int) ≠ (o.length : Int)) -> Q false) /\ (¬ ((l.length : Int) ≠ (o.length : Int)) -> (∃ (I15 : Int -> Prop) (μ16 : Int -> Nat), I15 0 /\ ∀ (z14 : Int), (I15 z14 -> (((z14 < (l.length : Int)) -> ((0 <= z14 /\ z14 < (l.length : Nat)) /\ ((0 <= z14 /\ z14 < (o.length : Nat)) /\ ((((gi l z14) ≠ (gi o z14)) -> Q false) /\ (¬ ((gi l z14) ≠ (gi o z14)) -> ((I64 (z14 + 1)) /\ (I15 (z14 + 1) /\ μ16 (z14 + 1) < μ16 z14))))))) /\ (¬ (z14 < (l.length : Int)) -> Q true)))))
theorem Yg {w : World} {Q : Bool -> Prop} {l : LI} {o : LI} {Bl : Nat} {Al : Option Addr} {nl kl : Nat} (hl : Rd Bl w 1 Al nl kl (is l)) {Bo : Nat} {Ao : Option Addr} {no ko : Nat} (ho : Rd Bo w 1 Ao no ko (is o)) (hv : JU l o Q) :
   Calls Try.prog 20 #[.slice Al nl kl, .slice Ao no ko] w <| Rt w fun v Qr => ∃ (r0 : Bool), v = .bool r0 /\ Qr = [] /\ Q r0 := by
 have hnl := hl.ilen; subst hnl; have hno := ho.ilen; subst hno; refine Je <| Jf (vs := [nS Al l kl, nS Ao o ko]) [4] XF20 rfl rfl rfl rfl ?_; have hS := Jk w; unfold JU at hv; refine Jb 8 <| WL.len JK rfl rfl <| Jh rfl rfl <| WL.len JK rfl rfl <| Ja 2 <| Jd rfl (fun c11 => ?_) (fun c11 => ?_)
 .have hv := hv.1 (oT c11); refine Jb 4 <| W.ret <| ⟨_, rfl, Fin.nil ?_⟩
  exact (hS.pick [] rfl).fin rfl ⟨false, rfl, rfl, hv⟩
 have hv := hv.2 (oF c11); refine Jg <| Jb 5 <| W.block ?_; obtain ⟨I15, μ16, hv, hk33⟩ := hv; refine JD (σ := Int) (fun z14 w1 => I15 z14 /\ St TT w none w1 []) (fun z14 => [(0, nS Al l kl), (1, nS Ao o ko), (4, .bool false), (5, nI z14)]) (fun z14 => μ16 z14) (0 : Int) ⟨hv, hS⟩ ⟨rfl, rfl, rfl, rfl, trivial⟩ ?_; rintro z14 w17 ⟨hv, hS⟩; have hv := hk33 z14 hv; refine Jb 5 <| WL.len JK rfl rfl <| Ja 2 <| Jd rfl (fun c18 => ?_) (fun c18 => ?_)
 .have hv := hv.1 (oT c18); refine Jg <| JO <| W.block <| JO ?_; obtain ⟨o22, hv⟩ := hv; obtain ⟨o27, hv⟩ := hv; refine Jae 9 [⟨[], [0], true⟩, ⟨[], [5], true⟩, ⟨[0, 1], [], true⟩, ⟨[2], [], false⟩, ⟨[], [1], true⟩, ⟨[], [5], true⟩, ⟨[4, 5], [], true⟩, ⟨[6], [], false⟩, ⟨[3, 7], [], true⟩] [(17, nS Al l kl), (18, nI z14), (19, .pointer (some ((JT Al).add z14.toNat))), (20, nI (gi l z14)), (21, nS Ao o ko), (22, nI z14), (23, .pointer (some ((JT Ao).add z14.toNat))), (24, nI (gi o z14)), (25, .bool (decide ((gi l z14) ≠ (gi o z14))))] Try.mixed (by kernel_rfl) rfl rfl ?_ ?_
  .refine ⟨oD, oD, fun _ _ _ => Jp JK XE3 (hS.ro hl) rfl rfl o22 rfl <| Jl ⟨rfl, rfl⟩, og hS fun _ _ hS => Jy XU3 rfl rfl (Yn (hS.ro hl) o22) rfl <| Jl ⟨rfl, Qu _⟩, oD, oD, fun _ _ _ => Jp JK XE3 (hS.ro ho) rfl rfl o27 rfl <| Jl ⟨rfl, rfl⟩, og hS fun _ _ hS => Jy XU3 rfl rfl (Yn (hS.ro ho) o27) rfl <| Jl ⟨rfl, Qu _⟩, oD, trivial⟩
  intro w30 hT; have hS := hS.grow hT; refine WA.e <| Jd rfl (fun c31 => ?_) (fun c31 => ?_)
  .have hv := hv.1 (oT c31); refine Jb 4 <| W.ret <| ⟨_, rfl, Fin.nil ?_⟩
   exact (hS.pick [] rfl).fin rfl ⟨false, rfl, rfl, hv⟩
  have hv := hv.2 (oF c31); refine Jg <| Jb 2 ?_; obtain ⟨o32, hv⟩ := hv; refine WL.add (r := (z14 + 1)) rfl rfl (wr o32) rfl <| Ja 2 ?_; exact ⟨(z14 + 1), sp rfl, hv.2, rfl, hv.1, hS⟩
 have hv := hv.2 (oF c18); refine JE <| Jb 4 <| W.ret <| ⟨_, rfl, Fin.nil ?_⟩
 exact (hS.pick [] rfl).fin rfl ⟨true, rfl, rfl, hv⟩
end Go.Proofs.Ytppkigdakobebaa
namespace Go.Proofs.Ytppkigdakobebaa
/-! ### ascending lists -/
section
open Classical
/-- the numbers below m that have a property -/
noncomputable def AL (P : Nat -> Prop) (m : Nat) : LI := ((List.range m).filter fun j => decide (P j)).map fun j : Nat => ((j : Nat) : Int)
theorem Jd6 (P : Nat -> Prop) : AL P 0 = [] := rfl
theorem YH {P : Nat -> Prop} {m : Nat} (h : P m) : AL P (m + 1) = AL P m ++ [(m : Int)] := by
 unfold AL; rw [List.range_succ, List.filter_append, List.map_append, List.filter_cons_of_pos (p := fun j => decide (P j)) (decide_eq_true h)]; rfl
theorem YI {P : Nat -> Prop} {m : Nat} (h : ¬ P m) : AL P (m + 1) = AL P m := by
 unfold AL; rw [List.range_succ, List.filter_append, List.filter_cons_of_neg (p := fun j => decide (P j)) (by rw [decide_eq_false h]; decide), List.filter_nil, List.append_nil]
theorem YJ {P : Nat -> Prop} {m : Nat} {x : Int} : x ∈ AL P m ↔ ∃ j : Nat, j < m /\ P j /\ x = j := by
 unfold AL; rw [List.mem_map]; constructor
 .rintro ⟨j, hj, e⟩; have := List.mem_filter.1 hj; exact ⟨j, List.mem_range.1 this.1, of_decide_eq_true this.2, e.symm⟩
 .rintro ⟨j, h1, h2, e⟩; exact ⟨j, List.mem_filter.2 ⟨List.mem_range.2 h1, decide_eq_true h2⟩, e.symm⟩
theorem ZH (P : Nat -> Prop) (m : Nat) : (AL P m).Pairwise fun x y => x < y := by
 unfold AL; rw [List.pairwise_map]; exact (List.pairwise_lt_range.filter _).imp fun h => by omega
theorem Qq (P : Nat -> Prop) : ∀ m, (AL P m).length <= m
 | 0 => by rw [Jd6]; simp
 | m + 1 => by
  have := Qq P m; by_cases h : P m
  .rw [YH h, List.length_append]; simp; omega
  .rw [YI h]; omega
theorem Jaz {l : LI} (h : l.Pairwise fun x y => x < y) : l.Nodup := h.imp fun q e => by omega
theorem Jaa : ∀ {l o : LI}, (l.Pairwise fun x y => x < y) -> (o.Pairwise fun x y => x < y) -> (∀ x, x ∈ l ↔ x ∈ o) -> l = o
 | [], [], _, _, _ => rfl
 | [], b :: o, _, _, h => absurd ((h b).2 (List.mem_cons_self ..)) (by simp)
 | a :: l, [], _, _, h => absurd ((h a).1 (List.mem_cons_self ..)) (by simp)
 | a :: l, b :: o, h1, h2, h => by
  have p1 := List.pairwise_cons.1 h1; have p2 := List.pairwise_cons.1 h2; have e : a = b := by
   rcases List.mem_cons.1 ((h a).1 (List.mem_cons_self ..)) with e | e
   .exact e
   .rcases List.mem_cons.1 ((h b).2 (List.mem_cons_self ..)) with e' | e'
    .exact e'.symm
    .have := p1.1 b e'; have := p2.1 a e; omega
  subst e; rw [Jaa p1.2 p2.2 fun x => ?_]; constructor
  .intro hx; rcases List.mem_cons.1 ((h x).1 (List.mem_cons_of_mem _ hx)) with e | e
   .have := p1.1 x hx; omega
   .exact e
  .intro hx; rcases List.mem_cons.1 ((h x).2 (List.mem_cons_of_mem _ hx)) with e | e
   .have := p2.1 x hx; omega
   .exact e
theorem Jc6 {l : LI} (h : l.Nodup) : (srt l).Pairwise fun x y => x < y := by
 have h1 := Zm l; have h2 : (srt l).Nodup := (QX l).nodup_iff.2 h; exact (h1.and h2).imp fun ⟨a, b⟩ => by omega
theorem Jbj {l : LI} {P : Nat -> Prop} {m : Nat} (h : l.Nodup) (hm : ∀ x, x ∈ l ↔ ∃ j : Nat, j < m /\ P j /\ x = j) : srt l = AL P m :=
 Jaa (Jc6 h) (ZH P m) fun x => by rw [(QX l).mem_iff, hm, YJ]
end
/-! ### the orbits of the multiplication by q -/
def itr (q n i : Nat) : Nat -> Nat
  | 0 => i
  | t + 1 => itr q n i t * q % n
/-- j is in the coset of i -/
def Cst (q n i j : Nat) : Prop := ∃ t, itr q n i t = j
section
variable {q n : Nat}
theorem J4 (hn : 0 < n) {i : Nat} (hi : i < n) : ∀ t, itr q n i t < n
 | 0 => hi
 | t + 1 => Nat.mod_lt _ hn
theorem Qt (q n i s : Nat) : ∀ t, itr q n (itr q n i s) t = itr q n i (s + t)
 | 0 => rfl
 | t + 1 => by show itr q n (itr q n i s) t * q % n = _; rw [Qt q n i s t]; rfl
theorem Jc3 (hc : Nat.gcd q n = 1) {x y : Nat} (hx : x < n) (hy : y < n) (e : x * q % n = y * q % n) : x = y := by
 have key : ∀ x y : Nat, x <= y -> y < n -> x * q % n = y * q % n -> x = y := fun x y hxy hy e => by
  have h1 := Nat.sub_mod_eq_zero_of_mod_eq e.symm; rw [<- Nat.sub_mul] at h1; have h2 : n ∣ y - x := Nat.Coprime.dvd_of_dvd_mul_right (by rw [Nat.Coprime, Nat.gcd_comm]; exact hc) (Nat.dvd_of_mod_eq_zero h1); rcases Nat.eq_zero_or_pos (y - x) with h | h
  .omega
  .have := Nat.le_of_dvd h h2; omega
 rcases Nat.le_total x y with h | h
 .exact key x y h hy e
 .exact (key y x h hx e.symm).symm
theorem Z1 (hc : Nat.gcd q n = 1) (hn : 0 < n) {i j : Nat} (hi : i < n) (hj : j < n) : ∀ s, itr q n i s = itr q n j s -> i = j
 | 0, e => e
 | s + 1, e => Z1 hc hn hi hj s (Jc3 hc (J4 hn hi s) (J4 hn hj s) e)
theorem Jb0 (hc : Nat.gcd q n = 1) (hn : 0 < n) {i : Nat} (hi : i < n) : ∃ t, 0 < t /\ itr q n i t = i := by
 refine Classical.byContradiction fun hno => ?_; have hd : ∀ s t : Nat, s < t -> itr q n i s ≠ itr q n i t := fun s t hst e => hno ⟨t - s, by omega, by
  have h1 : itr q n (itr q n i (t - s)) s = itr q n i t := by rw [Qt, show t - s + s = t by omega]
  exact Z1 hc hn (J4 hn hi _) hi s (h1.trans e.symm)⟩
 have := Z8 n (n + 1) (fun _ => True) (itr q n i) (fun s _ => ⟨J4 hn hi s, trivial⟩) fun s t hst _ => hd s t hst; have := Jcb (fun _ => True) n; omega
theorem Cst.refl (i : Nat) : Cst q n i i := ⟨0, rfl⟩
theorem Cst.trans {i j k : Nat} : Cst q n i j -> Cst q n j k -> Cst q n i k := by
 rintro ⟨s, rfl⟩ ⟨t, rfl⟩; exact ⟨s + t, (Qt q n i s t).symm⟩
theorem Cst.lt (hn : 0 < n) {i j : Nat} (hi : i < n) (h : Cst q n i j) : j < n := by obtain ⟨t, rfl⟩ := h; exact J4 hn hi t
theorem Cst.symm (hc : Nat.gcd q n = 1) (hn : 0 < n) {i j : Nat} (hi : i < n) (h : Cst q n i j) : Cst q n j i := by
 obtain ⟨t, rfl⟩ := h; obtain ⟨T, hT, e⟩ := Jb0 (q := q) hc hn hi; have hm : ∀ m, itr q n i (m * T) = i := fun m => by
  induction m with
  | zero => rw [Nat.zero_mul]; rfl
  | succ m ih => rw [Nat.succ_mul, <- Qt, ih, e]
 refine ⟨t * T - t, ?_⟩; rw [Qt, show t + (t * T - t) = t * T by have := Nat.le_mul_of_pos_right t hT; omega, hm]
/-- an initial part of an orbit that its last member's successor lies in is all of it -/
theorem Q5 {i t : Nat} (h : ∃ s, s < t /\ itr q n i t = itr q n i s) : ∀ u, ∃ s, s < t /\ itr q n i u = itr q n i s
  | 0 => ⟨0, by obtain ⟨s, hs, _⟩ := h; omega, rfl⟩
  | u + 1 => by
    obtain ⟨s, hs, e⟩ := Q5 h u
    by_cases hst : s + 1 < t
    . exact ⟨s + 1, hst, by show itr q n i u * q % n = itr q n i s * q % n; rw [e]⟩
    . have : s + 1 = t := by omega
      subst this
      obtain ⟨s', hs', e'⟩ := h
      exact ⟨s', hs', by rw [<- e']; show itr q n i u * q % n = itr q n i s * q % n; rw [e]⟩
theorem Qp {i t : Nat} (h : ∃ s, s < t /\ itr q n i t = itr q n i s) {j : Nat} : Cst q n i j ↔ ∃ s, s < t /\ itr q n i s = j := by
 constructor
 .rintro ⟨u, rfl⟩; obtain ⟨s, hs, e⟩ := Q5 h u; exact ⟨s, hs, e.symm⟩
 .rintro ⟨s, _, e⟩; exact ⟨s, e⟩
/-- no smaller number is in its coset -/
def Ldr (q n i : Nat) : Prop := ∀ j, j < i -> ¬ Cst q n j i
theorem Ldr.ex (hc : Nat.gcd q n = 1) (hn : 0 < n) : ∀ {i : Nat}, i < n -> ∃ j, j <= i /\ Ldr q n j /\ Cst q n j i := fun {i} hi => by
 induction i using Nat.strongRecOn with
 | _ i ih =>
  by_cases h : Ldr q n i
  .exact ⟨i, Nat.le_refl i, h, Cst.refl i⟩
  .have : ∃ j, j < i /\ Cst q n j i := Classical.byContradiction fun c => h fun j hj hr => c ⟨j, hj, hr⟩; obtain ⟨j, hj, hr⟩ := this; obtain ⟨k, hk, hm, hr'⟩ := ih j hj (by omega); exact ⟨k, by omega, hm, hr'.trans hr⟩
theorem Ldr.uniq (hc : Nat.gcd q n = 1) (hn : 0 < n) {i j : Nat} (hi : i < n) (hj : j < n) (h : Ldr q n i) (h' : Ldr q n j) (hr : Cst q n i j) : i = j := by
 rcases Nat.lt_trichotomy i j with c | c | c
 .exact absurd hr (h' i c)
 .exact c
 .exact absurd (hr.symm hc hn hi) (h j c)
/-- the coset of i, and the cosets of the numbers below m -/
noncomputable def orb (q n i : Nat) : LI := AL (Cst q n i) n
noncomputable def CL (q n m : Nat) : LL := (AL (Ldr q n) m).map fun i => orb q n i.toNat
theorem CL_pos {m : Nat} (h : Ldr q n m) : CL q n (m + 1) = CL q n m ++ [orb q n m] := by unfold CL; rw [YH h, List.map_append]; rfl
theorem CL_neg {m : Nat} (h : ¬ Ldr q n m) : CL q n (m + 1) = CL q n m := by unfold CL; rw [YI h]
theorem Jcz (m : Nat) : (CL q n m).length <= m := by unfold CL; rw [List.length_map]; exact Qq _ m
theorem Zd {m k : Nat} (hk : k < (CL q n m).length) : ∃ i : Nat, i < m /\ Ldr q n i /\ gi (AL (Ldr q n) m) k = i /\ gl (CL q n m) k = orb q n i := by
 have hk' : k < (AL (Ldr q n) m).length := by unfold CL at hk; rwa [List.length_map] at hk
 have hm : (AL (Ldr q n) m)[k] ∈ AL (Ldr q n) m := List.getElem_mem hk'; obtain ⟨i, hi, hM, e⟩ := YJ.1 hm; refine ⟨i, hi, hM, ?_, ?_⟩
 .unfold gi; rw [Int.toNat_natCast, List.getD_eq_getElem?_getD, List.getElem?_eq_getElem hk']; exact e
 .unfold gl CL; rw [Int.toNat_natCast, List.getD_eq_getElem?_getD, List.getElem?_map, List.getElem?_eq_getElem hk']; show orb q n ((AL (Ldr q n) m)[k]).toNat = _; rw [e]; rfl
theorem CL_of {m i : Nat} (hi : i < m) (hM : Ldr q n i) : ∃ k, k < (CL q n m).length /\ gl (CL q n m) k = orb q n i := by
 have hm : ((i : Nat) : Int) ∈ AL (Ldr q n) m := YJ.2 ⟨i, hi, hM, rfl⟩; obtain ⟨k, hk, e⟩ := List.mem_iff_getElem.1 hm; refine ⟨k, by unfold CL; rwa [List.length_map], ?_⟩; unfold gl CL; rw [Int.toNat_natCast, List.getD_eq_getElem?_getD, List.getElem?_map, List.getElem?_eq_getElem hk]; show orb q n ((AL (Ldr q n) m)[k]).toNat = _; rw [e]; rfl
theorem JF {i : Nat} {x : Int} : x ∈ orb q n i ↔ ∃ j : Nat, j < n /\ Cst q n i j /\ x = j := YJ
end
end Go.Proofs.Ytppkigdakobebaa
namespace Go.Proofs.Ytppkigdakobebaa
open Go.RowKit
/-! ### a field in memory -/
structure GFv where
  P : Int
  M : Int
  mod : LI
  q : Int
  exp : LI
  log : LI
  above : LI
def GFR (B : Nat) (w : World) (ad : Addr) (F : GFv) : Prop := ∃ A1 k1 A2 k2 A3 k3 A4 k4,
  Rd B w 7 (some ad) 1 1 [.int .i64 F.P, .int .i64 F.M, .slice A1 F.mod.length k1, .int .i64 F.q, .slice A2 F.exp.length k2, .slice A3 F.log.length k3, .slice A4 F.above.length k4] /\
  Rd B w 1 A1 F.mod.length k1 (is F.mod) /\ Rd B w 1 A2 F.exp.length k2 (is F.exp) /\ Rd B w 1 A3 F.log.length k3 (is F.log) /\ Rd B w 1 A4 F.above.length k4 (is F.above)
theorem GFR.ext {B : Nat} {w w' : World} {ad : Addr} {F : GFv} (h : GFR B w ad F) (hg : w.grownBy w' none) : GFR B w' ad F := by
 obtain ⟨A1, k1, A2, k2, A3, k3, A4, k4, h1, h2, h3, h4, h5⟩ := h; exact ⟨A1, k1, A2, k2, A3, k3, A4, k4, h1.ext hg, h2.ext hg, h3.ext hg, h4.ext hg, h5.ext hg⟩
/-- A field that lies between two blocks. -/
def GFX (lo B : Nat) (w : World) (ad : Addr) (F : GFv) : Prop := ∃ A1 k1 A2 k2 A3 k3 A4 k4,
  (Rd B w 7 (some ad) 1 1 [.int .i64 F.P, .int .i64 F.M, .slice A1 F.mod.length k1, .int .i64 F.q, .slice A2 F.exp.length k2, .slice A3 F.log.length k3, .slice A4 F.above.length k4] /\ lo <= ad.block) /\
  (Rd B w 1 A1 F.mod.length k1 (is F.mod) /\ ∀ g, bl A1 = some g -> lo <= g) /\ (Rd B w 1 A2 F.exp.length k2 (is F.exp) /\ ∀ g, bl A2 = some g -> lo <= g) /\ (Rd B w 1 A3 F.log.length k3 (is F.log) /\ ∀ g, bl A3 = some g -> lo <= g) /\ (Rd B w 1 A4 F.above.length k4 (is F.above) /\ ∀ g, bl A4 = some g -> lo <= g)
theorem Rd.steady {lo B : Nat} {w w' : World} {z : Nat} {A : Option Addr} {m c : Nat} {cs : List Value} (h : Rd B w z A m c cs) (hl : ∀ g, bl A = some g -> lo <= g) (hw : ∀ k, lo <= k -> k < B -> w'.heap[k]? = w.heap[k]?) : Rd B w' z A m c cs :=
 ⟨h.len, h.cap, h.max, fun hm => by
  obtain ⟨ad, e1, e2, e3⟩ := h.cells hm; refine ⟨ad, e1, e2, fun j u hu => (World.cell?_of_block (hw _ ?_ ?_)).trans (e3 j u hu)⟩
  .rw [JB]; exact hl _ (by rw [e1]; rfl)
  .rw [JB]; exact e2⟩
theorem GFX.steady {lo B : Nat} {ad : Addr} {F : GFv} : Jcw lo B (fun w => GFX lo B w ad F) := by
 rintro w w' hw ⟨A1, k1, A2, k2, A3, k3, A4, k4, h1, h2, h3, h4, h5⟩; exact ⟨A1, k1, A2, k2, A3, k3, A4, k4, ⟨h1.1.steady (fun g hg => by cases hg; exact h1.2) hw, h1.2⟩, ⟨h2.1.steady h2.2 hw, h2.2⟩, ⟨h3.1.steady h3.2 hw, h3.2⟩, ⟨h4.1.steady h4.2 hw, h4.2⟩, ⟨h5.1.steady h5.2 hw, h5.2⟩⟩
theorem GFR.norm {B : Nat} {w : World} {ad : Addr} {F : GFv} (h : GFR B w ad F) : GFR w.heap.size w ad F := by
 obtain ⟨A1, k1, A2, k2, A3, k3, A4, k4, h1, h2, h3, h4, h5⟩ := h; exact ⟨A1, k1, A2, k2, A3, k3, A4, k4, h1.norm, h2.norm, h3.norm, h4.norm, h5.norm⟩
end Go.Proofs.Ytppkigdakobebaa
namespace Go.Proofs.Ytppkigdakobebaa
open Go.RowKit
def YF (l : LI) (p : Int -> (Bool -> Prop) -> Prop) (Q : Int -> Prop) : Prop :=
  ∃ (I14 : Int -> Prop) (μ15 : Int -> Nat), I14 0 /\ ∀ (z13 : Int), (I14 z13 -> (((z13 < (l.length : Int)) -> ((0 <= z13 /\ z13 < (l.length : Nat)) /\ (p (gi l z13) (fun b20 => ((b20 = true) -> Q z13) /\ (b20 = false -> ((I64 (z13 + 1)) /\ (I14 (z13 + 1) /\ μ15 (z13 + 1) < μ15 z13))))))) /\ (¬ (z13 < (l.length : Int)) -> (Q (-1 : Int)))))
theorem Jbu {w : World} {Q : Int -> Prop} {l : LI} {p : Int -> (Bool -> Prop) -> Prop} {Bl : Nat} {Al : Option Addr} {nl kl : Nat} (hl : Rd Bl w 1 Al nl kl (is l)) {cfp : Nat} {cgp : Func} {ccp : Code} {csp : List Value} (hcfp : Try.prog.funcs[cfp]? = some cgp) (hcbp : cgp.body = some ccp) (hcnp : (cgp.name == "runtime.NumGoroutine") = false) (hclp : ∀ (wc : World) (xc : Int) (Qc : Bool -> Prop), w.grownBy wc none -> p xc Qc -> Calls Try.prog cfp (.int .i64 xc :: csp).toArray wc fun e w' => ∃ v Qr, e = .returned v /\ wc.grownBy w' none /\ Rows wc.heap.size none w' Qr /\ News wc.heap.size Qr /\ ∃ b : Bool, v = .bool b /\ Qr = [] /\ Qc b) (hv : YF l p Q) :
   Calls Try.prog 101 #[.slice Al nl kl, .func (.func cfp) #[] csp.toArray] w <| Rt w fun v Qr => ∃ (r0 : Int), v = .int .i64 r0 /\ Qr = [] /\ Q r0 := by
 have hnl := hl.ilen; subst hnl; refine Je <| Jf (vs := [nS Al l kl, .func (.func cfp) #[] csp.toArray]) [4] XF101 rfl rfl rfl rfl ?_; have hS := Jk w; unfold YF at hv; refine Jb 8 <| WL.len JK rfl rfl <| Ja 2 <| W.block ?_; obtain ⟨I14, μ15, hv, hk23⟩ := hv; refine JD (σ := Int) (fun z13 w1 => I14 z13 /\ St TT w none w1 []) (fun z13 => [(0, nS Al l kl), (1, .func (.func cfp) #[] csp.toArray), (4, nI 0), (7, nI (l.length : Int)), (8, nI z13)]) (fun z13 => μ15 z13) (0 : Int) ⟨hv, hS⟩ ⟨rfl, rfl, rfl, rfl, rfl, trivial⟩ ?_; rintro z13 w16 ⟨hv, hS⟩; have hv := hk23 z13 hv; refine Jb 5 <| Jd rfl (fun c17 => ?_) (fun c17 => ?_)
 .have hv := hv.1 (oT c17); refine Jg <| JO <| W.block <| Jb 10 ?_; obtain ⟨o18, hv⟩ := hv; refine Jp JK XE3 (hS.ro hl) rfl rfl o18 rfl <| Jy XU3 rfl rfl (Yn (hS.ro hl) o18) rfl <| Jcy (vs := [nI (gi l z13)]) (cs := csp) hS (hclp _ _ _ hS.ext hv) rfl hcfp hcbp hcnp rfl rfl ?_; rintro _ _ w19 ⟨b20, rfl, rfl, hv⟩ hGw19 hS
  change St _ _ _ _ [] at hS
  refine Jl <| Jd rfl (fun c21 => ?_) (fun c21 => ?_)
  .have hv := hv.1 (c21); refine Jb 5 <| W.ret <| ⟨_, rfl, Fin.nil ?_⟩
   exact (hS.pick [] rfl).fin rfl ⟨z13, rfl, rfl, hv⟩
  have hv := hv.2 (c21); refine Jg <| J9 ?_; obtain ⟨o22, hv⟩ := hv; refine WL.add (r := (z13 + 1)) rfl rfl (wr o22) rfl <| Ja 2 ?_; exact ⟨(z13 + 1), sp rfl, hv.2, rfl, hv.1, hS⟩
 have hv := hv.2 (oF c17); refine JE <| Jb 4 <| W.ret <| ⟨_, rfl, Fin.nil ?_⟩
 exact (hS.pick [] rfl).fin rfl ⟨(-1 : Int), rfl, rfl, hv⟩
def J1 (l : LI) (p : Int -> (Bool -> Prop) -> Prop) (Q : Bool -> Prop) : Prop :=
  YF l p (fun r12 => Q (decide ((0 : Int) <= r12)))
theorem YU {w : World} {Q : Bool -> Prop} {l : LI} {p : Int -> (Bool -> Prop) -> Prop} {Bl : Nat} {Al : Option Addr} {nl kl : Nat} (hl : Rd Bl w 1 Al nl kl (is l)) {cfp : Nat} {cgp : Func} {ccp : Code} {csp : List Value} (hcfp : Try.prog.funcs[cfp]? = some cgp) (hcbp : cgp.body = some ccp) (hcnp : (cgp.name == "runtime.NumGoroutine") = false) (hclp : ∀ (wc : World) (xc : Int) (Qc : Bool -> Prop), w.grownBy wc none -> p xc Qc -> Calls Try.prog cfp (.int .i64 xc :: csp).toArray wc fun e w' => ∃ v Qr, e = .returned v /\ wc.grownBy w' none /\ Rows wc.heap.size none w' Qr /\ News wc.heap.size Qr /\ ∃ b : Bool, v = .bool b /\ Qr = [] /\ Qc b) (hv : J1 l p Q) :
  Calls Try.prog 54 #[.slice Al nl kl, .func (.func cfp) #[] csp.toArray] w <| Rt w fun v Qr => ∃ (r0 : Bool), v = .bool r0 /\ Qr = [] /\ Q r0 := by
 have hnl := hl.ilen; subst hnl; refine Je <| Jf (vs := [nS Al l kl, .func (.func cfp) #[] csp.toArray]) [4] XF54 rfl rfl rfl rfl ?_; have hS := Jk w; unfold J1 at hv; refine Jb 8 <| SL.call hS (Jbu (hS.ro hl) hcfp hcbp hcnp (fun wc xc Qc hg hv => hclp wc xc Qc (QB hS.ext hg) hv) hv) XF101 rfl XN101 rfl rfl ?_; rintro _ _ w11 ⟨r12, rfl, rfl, hv⟩ hGw11 hS; have hS := hS.n0; refine Ja 3 <| W.ret <| ⟨_, rfl, Fin.nil ?_⟩
 exact (hS.pick [] rfl).fin rfl ⟨(decide ((0 : Int) <= r12)), rfl, rfl, hv⟩
end Go.Proofs.Ytppkigdakobebaa
namespace Go.Proofs.Ytppkigdakobebaa
open Go.RowKit
end Go.Proofs.Ytppkigdakobebaa
namespace Go.Proofs.Ytppkigdakobebaa
open Go.RowKit
end Go.Proofs.Ytppkigdakobebaa
namespace Go.Proofs.Ytppkigdakobebaa
open Go.RowKit
end Go.Proofs.Ytppkigdakobebaa
namespace Go.Proofs.Ytppkigdakobebaa
open Go.RowKit
end Go.Proofs.Ytppkigdakobebaa
namespace Go.Proofs.Ytppkigdakobebaa
open Go.RowKit
end Go.Proofs.Ytppkigdakobebaa
namespace Go.Proofs.Ytppkigdakobebaa
open Go.RowKit
end Go.Proofs.Ytppkigdakobebaa
namespace Go.Proofs.Ytppkigdakobebaa
end Go.Proofs.Ytppkigdakobebaa
namespace Go.Proofs.Ytppkigdakobebaa
abbrev Vec := Nat -> Int
def tX (m : Nat) (c : Vec) (v : Vec) : Vec := fun i => if i < m then (if i = 0 then 0 else v (i - 1)) - c i * v (m - 1) else 0
def Jq (u v : Vec) : Vec := fun i => u i + v i
def vsm (a : Int) (v : Vec) : Vec := fun i => a * v i
def vz : Vec := fun _ => 0
def e0 : Vec := fun i => if i = 0 then 1 else 0
def tXn (m : Nat) (c : Vec) : Nat -> Vec -> Vec
  | 0, v => v
  | n + 1, v => tX m c (tXn m c n v)
def opr (m : Nat) (c b : Vec) : Nat -> Vec -> Vec
  | 0, _ => vz
  | n + 1, v => Jq (opr m c b n v) (vsm (b n) (tXn m c n v))
def JL (m : Nat) (c a b : Vec) : Vec := opr m c b m a
section
variable (m : Nat) (c : Vec)
theorem tX_add (u v : Vec) : tX m c (Jq u v) = Jq (tX m c u) (tX m c v) := by
 funext i; simp only [tX, Jq]; split
 .split <;> grind
 .rfl
theorem tX_sm (a : Int) (v : Vec) : tX m c (vsm a v) = vsm a (tX m c v) := by
 funext i; simp only [tX, vsm]; split
 .split <;> grind
 .grind
theorem tX_z : tX m c vz = vz := by funext i; simp [tX, vz]
theorem Yp (u : Vec) : Jq u vz = u := by funext i; simp [Jq, vz]
theorem Jai (u v : Vec) : Jq u v = Jq v u := by funext i; simp only [Jq]; omega
theorem Zi (u v w : Vec) : Jq (Jq u v) w = Jq u (Jq v w) := by funext i; simp only [Jq]; omega
theorem ZI (a : Int) (u v : Vec) : vsm a (Jq u v) = Jq (vsm a u) (vsm a v) := by funext i; simp only [Jq, vsm]; grind
theorem vsm_sm (a b : Int) (u : Vec) : vsm a (vsm b u) = vsm (a * b) u := by funext i; simp only [vsm]; grind
theorem vsm_z (a : Int) : vsm a vz = vz := by funext i; simp [vsm, vz]
theorem ZO (n : Nat) (u v : Vec) : tXn m c n (Jq u v) = Jq (tXn m c n u) (tXn m c n v) := by
 induction n with
 | zero => rfl
 | succ n ih => simp only [tXn, ih, tX_add]
theorem Jbg (n : Nat) (a : Int) (v : Vec) : tXn m c n (vsm a v) = vsm a (tXn m c n v) := by
 induction n with
 | zero => rfl
 | succ n ih => simp only [tXn, ih, tX_sm]
theorem tXn_z (n : Nat) : tXn m c n vz = vz := by
 induction n with
 | zero => rfl
 | succ n ih => simp only [tXn, ih, tX_z]
theorem Jc2 (n k : Nat) (v : Vec) : tXn m c n (tXn m c k v) = tXn m c (n + k) v := by
 induction n with
 | zero => simp [tXn]
 | succ n ih => rw [Nat.succ_add]; simp only [tXn, ih]
variable (b : Vec)
theorem Jdd (n : Nat) (u v : Vec) : opr m c b n (Jq u v) = Jq (opr m c b n u) (opr m c b n v) := by
 induction n with
 | zero => simp [opr, Yp]
 | succ n ih => simp only [opr, ih, ZO, ZI]; funext i; simp only [Jq]; omega
theorem Jbs (n : Nat) (a : Int) (v : Vec) : opr m c b n (vsm a v) = vsm a (opr m c b n v) := by
 induction n with
 | zero => simp [opr, vsm_z]
 | succ n ih => simp only [opr, ih, Jbg, ZI, vsm_sm]; rw [Int.mul_comm (b n) a]
theorem opr_z (n : Nat) : opr m c b n vz = vz := by
 induction n with
 | zero => rfl
 | succ n ih => simp only [opr, ih, tXn_z, vsm_z, Yp]
theorem Jdc (n k : Nat) (v : Vec) : opr m c b n (tXn m c k v) = tXn m c k (opr m c b n v) := by
 induction n with
 | zero => simp [opr, tXn_z]
 | succ n ih => simp only [opr, ih, ZO, Jbg, Jc2]; rw [Nat.add_comm n k]
theorem YS (d : Vec) (n k : Nat) (v : Vec) : opr m c b n (opr m c d k v) = opr m c d k (opr m c b n v) := by
 induction n with
 | zero => simp only [opr, opr_z]
 | succ n ih => simp only [opr, ih, Jdd, Jbs, Jdc]
theorem Jbr (d : Vec) (n : Nat) (v : Vec) : opr m c (Jq b d) n v = Jq (opr m c b n v) (opr m c d n v) := by
 induction n with
 | zero => simp [opr, Yp]
 | succ n ih => simp only [opr, ih]; funext i; simp only [Jq, vsm]; grind
end
def vei (k : Nat) : Vec := fun i => if i = k then 1 else 0
theorem Jbh {m : Nat} {c : Vec} : ∀ {k : Nat}, k < m -> tXn m c k e0 = vei k
 | 0, _ => rfl
 | k + 1, h => by
  have ih : tXn m c k e0 = vei k := Jbh (by omega); simp only [tXn, ih]; funext i; simp only [tX, vei]; split
  .rw [if_neg (show ¬ m - 1 = k by omega)]; by_cases h0 : i = 0
   .subst h0; simp
   .simp only [h0, if_false]; by_cases h1 : i = k + 1
    .subst h1; simp
    .rw [if_neg (by omega), if_neg h1]; simp
  .rw [if_neg (by omega)]
theorem Jbt {m : Nat} {c a : Vec} : ∀ {n : Nat}, n <= m -> ∀ i, opr m c a n e0 i = if i < n then a i else 0
  | 0, _, i => by simp [opr, vz]
  | n + 1, h, i => by
    simp only [opr, Jq, vsm]
    rw [Jbt (n := n) (by omega) i, Jbh (by omega)]
    simp only [vei]
    by_cases h1 : i = n
    . subst h1; simp
    . by_cases h2 : i < n
      . simp [h2, h1, show i < n + 1 by omega]
      . simp [h2, h1, show ¬ i < n + 1 by omega]
def Sup (m : Nat) (v : Vec) : Prop := ∀ i, m <= i -> v i = 0
theorem QZ {m : Nat} {c a : Vec} (h : Sup m a) : opr m c a m e0 = a := by
 funext i; rw [Jbt (Nat.le_refl m)]; split
 .rfl
 .exact (h i (by omega)).symm
theorem Sup.z {m : Nat} : Sup m vz := fun _ _ => rfl
theorem Sup.tX {m : Nat} {c v : Vec} : Sup m (tX m c v) := fun i h => by simp [Go.Proofs.Ytppkigdakobebaa.tX, show ¬ i < m by omega]
theorem Sup.add {m : Nat} {u v : Vec} (hu : Sup m u) (hv : Sup m v) : Sup m (Jq u v) := fun i h => by simp [Jq, hu i h, hv i h]
theorem Sup.sm {m : Nat} {a : Int} {v : Vec} (hv : Sup m v) : Sup m (vsm a v) := fun i h => by simp [vsm, hv i h]
theorem Sup.tXn {m : Nat} {c v : Vec} (hv : Sup m v) : ∀ n, Sup m (tXn m c n v)
 | 0 => hv
 | _ + 1 => Sup.tX
theorem Sup.opr {m : Nat} {c b v : Vec} (hv : Sup m v) : ∀ n, Sup m (opr m c b n v)
 | 0 => Sup.z
 | n + 1 => (Sup.opr hv n).add (hv.tXn n).sm
theorem QA {m : Nat} {c a b : Vec} (ha : Sup m a) (hb : Sup m b) : JL m c a b = JL m c b a := by
 unfold JL
 calc opr m c b m a = opr m c b m (opr m c a m e0) := by rw [QZ ha]
  _ = opr m c a m (opr m c b m e0) := YS ..
  _ = opr m c a m b := by rw [QZ hb]
theorem Zh {m : Nat} {c a b d : Vec} (ha : Sup m a) (hb : Sup m b) (hd : Sup m d) : JL m c (JL m c a b) d = JL m c a (JL m c b d) := by
 rw [QA (a := a) (b := JL m c b d) ha (Sup.opr hb m)]; show opr m c d m (opr m c b m a) = opr m c a m (opr m c d m b); rw [<- YS m c d a m m b]; show opr m c d m (JL m c a b) = opr m c d m (JL m c b a); rw [QA ha hb]
theorem Jbb {m : Nat} {c a b d : Vec} : JL m c a (Jq b d) = Jq (JL m c a b) (JL m c a d) := Jbr ..
theorem Jba {m : Nat} {c a : Vec} (hm : 0 < m) : JL m c a e0 = a := by
 have key : ∀ n, 0 < n -> opr m c e0 n a = a := by
  intro n
  induction n with
  | zero => intro h; omega
  | succ n ih =>
   intro _; rcases Nat.eq_zero_or_pos n with h | h
   .subst h; funext i; simp [opr, e0, Jq, vsm, vz, tXn]
   .simp only [opr, ih h]; funext i; simp [e0, Jq, vsm, show n ≠ 0 by omega]
 exact key m hm
def vcg (p : Int) (u v : Vec) : Prop := ∀ i, u i % p = v i % p
section
variable {p : Int} {m : Nat} {c c' u u' v v' b b' : Vec}
theorem vcg.refl (u : Vec) : vcg p u u := fun _ => rfl
theorem vcg.symm (h : vcg p u v) : vcg p v u := fun i => (h i).symm
theorem vcg.trans {w : Vec} (h : vcg p u v) (k : vcg p v w) : vcg p u w := fun i => (h i).trans (k i)
theorem Q2 {a a' d d' : Int} (h : a % p = a' % p) (k : d % p = d' % p) : (a * d) % p = (a' * d') % p := by
 rw [Int.mul_emod, h, k, <- Int.mul_emod]
theorem Jck {a a' d d' : Int} (h : a % p = a' % p) (k : d % p = d' % p) : (a + d) % p = (a' + d') % p := by
 rw [Int.add_emod, h, k, <- Int.add_emod]
theorem Zl {a a' d d' : Int} (h : a % p = a' % p) (k : d % p = d' % p) : (a - d) % p = (a' - d') % p := by
 rw [Int.sub_emod, h, k, <- Int.sub_emod]
theorem vcg.add (h : vcg p u u') (k : vcg p v v') : vcg p (Jq u v) (Jq u' v') := fun i => Jck (h i) (k i)
theorem vcg.sm {a a' : Int} (ha : a % p = a' % p) (h : vcg p u u') : vcg p (vsm a u) (vsm a' u') := fun i => Q2 ha (h i)
theorem vcg.tX (hc : vcg p c c') (h : vcg p u u') : vcg p (tX m c u) (tX m c' u') := fun i => by
 simp only [Go.Proofs.Ytppkigdakobebaa.tX]; split
 .split
  .exact Zl rfl (Q2 (hc i) (h _))
  .exact Zl (h _) (Q2 (hc i) (h _))
 .rfl
theorem vcg.tXn (hc : vcg p c c') (h : vcg p u u') : ∀ n, vcg p (tXn m c n u) (tXn m c' n u')
 | 0 => h
 | n + 1 => vcg.tX hc (vcg.tXn hc h n)
theorem vcg.opr (hc : vcg p c c') (hb : vcg p b b') (h : vcg p u u') : ∀ n, vcg p (opr m c b n u) (opr m c' b' n u')
 | 0 => .refl _
 | n + 1 => (vcg.opr hc hb h n).add (vcg.sm (hb n) (vcg.tXn hc h n))
theorem vcg.mul (hc : vcg p c c') (h : vcg p u u') (hb : vcg p b b') : vcg p (JL m c u b) (JL m c' u' b') := vcg.opr hc hb h m
end
end Go.Proofs.Ytppkigdakobebaa
namespace Go.Proofs.Ytppkigdakobebaa
def dv (p x : Nat) : Vec := fun i => ((x / p ^ i % p : Nat) : Int)
def vl (p : Nat) : Nat -> Vec -> Int
  | 0, _ => 0
  | n + 1, v => v 0 + (p : Int) * vl p n (fun i => v (i + 1))
def Cn (p n : Nat) (v : Vec) : Prop := ∀ i, i < n -> 0 <= v i /\ v i < p
def nm (p m : Nat) (v : Vec) : Nat := (vl p m (fun i => v i % (p : Int))).toNat
theorem QQ (p x i : Nat) : dv p x (i + 1) = dv p (x / p) i := by
 simp only [dv]; rw [Nat.pow_succ', <- Nat.div_div_eq_div_mul]
theorem Qv (p x : Nat) : dv p x 0 = ((x % p : Nat) : Int) := by simp [dv]
theorem Cn.tl {p n : Nat} {v : Vec} (h : Cn p (n + 1) v) : Cn p n (fun i => v (i + 1)) := fun i hi => h (i + 1) (by omega)
theorem Jbc {p : Nat} (hp : 0 < p) : ∀ {n : Nat} {v : Vec}, Cn p n v -> 0 <= vl p n v /\ vl p n v < ((p ^ n : Nat) : Int)
 | 0, v, _ => by simp [vl]
 | n + 1, v, h => by
  have ih := Jbc hp h.tl; have h0 := h 0 (by omega); simp only [vl]; have h1 : (p : Int) * vl p n (fun i => v (i + 1)) <= p * (((p ^ n : Nat) : Int) - 1) := Int.mul_le_mul_of_nonneg_left (by omega) (by omega); have h2 : 0 <= (p : Int) * vl p n (fun i => v (i + 1)) := Int.mul_nonneg (by omega) ih.1; have h3 : ((p ^ (n + 1) : Nat) : Int) = p * ((p ^ n : Nat) : Int) := by rw [Nat.pow_succ']; push_cast; rfl
  have h4 : (p : Int) * (((p ^ n : Nat) : Int) - 1) = p * ((p ^ n : Nat) : Int) - p := by rw [Int.mul_sub, Int.mul_one]
  omega
theorem QV {p : Nat} : ∀ {n : Nat} {u v : Vec}, (∀ i, i < n -> u i = v i) -> vl p n u = vl p n v
 | 0, _, _, _ => rfl
 | n + 1, u, v, h => by simp only [vl]; rw [h 0 (by omega), QV (n := n) fun i hi => h (i + 1) (by omega)]
theorem vl_dv {p : Nat} (hp : 0 < p) : ∀ {n x : Nat}, x < p ^ n -> vl p n (dv p x) = x
 | 0, x, h => by simp at h; subst h; rfl
 | n + 1, x, h => by
  simp only [vl]; have : (fun i => dv p x (i + 1)) = dv p (x / p) := by funext i; exact QQ p x i
  rw [this, vl_dv hp (n := n) (by rw [Nat.div_lt_iff_lt_mul hp, <- Nat.pow_succ]; exact h), Qv]; have := Nat.mod_add_div x p; have h2 : ((x % p + p * (x / p) : Nat) : Int) = (x : Int) := by rw [this]
  push_cast at h2 ⊢; exact h2
theorem dv_vl {p : Nat} (hp : 0 < p) : ∀ {n : Nat} {v : Vec}, Cn p n v -> ∀ i, i < n -> dv p (vl p n v).toNat i = v i
 | 0, _, _, i, hi => by omega
 | n + 1, v, h, i, hi => by
  have ih := Jbc hp h.tl; have h0 := h 0 (by omega); obtain ⟨t, ht⟩ := Int.eq_ofNat_of_zero_le ih.1; obtain ⟨a, ha⟩ := Int.eq_ofNat_of_zero_le h0.1; have hv : (vl p (n + 1) v).toNat = a + p * t := by
   simp only [vl]; rw [ht, ha]; have : (a : Int) + (p : Int) * (t : Int) = ((a + p * t : Nat) : Int) := by push_cast; rfl
   rw [this]; rfl
  have hap : a < p := by have := h0.2; rw [ha] at this; omega
  rw [hv]; cases i with
  | zero => rw [Qv, Nat.add_mul_mod_self_left, Nat.mod_eq_of_lt hap, ha]
  | succ i =>
   rw [QQ]; have h2 : (a + p * t) / p = t := by rw [Nat.add_mul_div_left _ _ hp, Nat.div_eq_of_lt hap, Nat.zero_add]
   have ih2 := dv_vl hp h.tl i (by omega); rw [ht] at ih2; rw [h2]; exact ih2
section
variable {p m : Nat}
theorem md_cn (hp : 0 < p) (v : Vec) (n : Nat) : Cn p n (fun i => v i % (p : Int)) := fun i _ => ⟨Int.emod_nonneg _ (by omega), Int.emod_lt_of_pos _ (by omega)⟩
theorem ZZ (hp : 0 < p) (v : Vec) : nm p m v < p ^ m := by
 have := Jbc hp (md_cn hp v m); unfold nm; omega
theorem dv_nm (hp : 0 < p) (v : Vec) {i : Nat} (hi : i < m) : dv p (nm p m v) i = v i % (p : Int) := dv_vl hp (md_cn hp v m) i hi
theorem Jb9 {x i : Nat} (hx : x < p ^ m) (hi : m <= i) : dv p x i = 0 := by
 rcases Nat.eq_zero_or_pos p with rfl | hp
 .simp only [dv]; cases m with
  | zero =>
   have : x = 0 := by simpa using hx
   subst this; simp
  | succ m => simp at hx
 .have : x / p ^ i = 0 := Nat.div_eq_of_lt (Nat.lt_of_lt_of_le hx (Nat.pow_le_pow_right hp hi)); simp [dv, this]
theorem JS {x : Nat} (hx : x < p ^ m) : Sup m (dv p x) := fun i hi => Jb9 hx hi
theorem dv_mod (x i : Nat) : dv p x i % (p : Int) = dv p x i := by
 simp only [dv]; rw [<- Int.natCast_emod, Nat.mod_mod]
theorem Yh (hp : 0 < p) {x : Nat} (hx : x < p ^ m) : nm p m (dv p x) = x := by
 unfold nm; rw [QV (v := dv p x) fun i _ => dv_mod x i, vl_dv hp hx]; rfl
theorem nm_cg {u v : Vec} (h : ∀ i, i < m -> u i % (p : Int) = v i % (p : Int)) : nm p m u = nm p m v := by
 unfold nm; rw [QV h]
theorem J3 {u v : Vec} (h : vcg p u v) : nm p m u = nm p m v := nm_cg fun i _ => h i
theorem Jce (hp : 0 < p) {v : Vec} (hv : Sup m v) : vcg p (dv p (nm p m v)) v := fun i => by
 rcases Nat.lt_or_ge i m with h | h
 .rw [dv_nm hp v h, Int.emod_emod]
 .rw [Jb9 (ZZ hp v) h, hv i h]
end
def JR (p m x y : Nat) : Nat := nm p m (Jq (dv p x) (dv p y))
def Y1 (p m x : Nat) : Nat := nm p m (vsm (-1) (dv p x))
def Jz (p m : Nat) (c : Vec) (x y : Nat) : Nat := nm p m (JL m c (dv p x) (dv p y))
section
variable {p m : Nat} {c : Vec}
theorem Jdo (hp : 0 < p) (x y : Nat) : JR p m x y < p ^ m := ZZ hp _
theorem Z6 (hp : 0 < p) (x : Nat) : Y1 p m x < p ^ m := ZZ hp _
theorem Jdn (hp : 0 < p) (x y : Nat) : Jz p m c x y < p ^ m := ZZ hp _
theorem Yz (hp : 0 < p) {x y : Nat} (hx : x < p ^ m) (hy : y < p ^ m) : vcg p (dv p (JR p m x y)) (Jq (dv p x) (dv p y)) := Jce hp ((JS hx).add (JS hy))
theorem Jdq (hp : 0 < p) {x : Nat} (hx : x < p ^ m) : vcg p (dv p (Y1 p m x)) (vsm (-1) (dv p x)) := Jce hp (JS hx).sm
theorem Ja9 {a b : Vec} (ha : Sup m a) : Sup m (JL m c a b) := Sup.opr ha m
theorem QR (hp : 0 < p) {x y : Nat} (hx : x < p ^ m) : vcg p (dv p (Jz p m c x y)) (JL m c (dv p x) (dv p y)) := Jce hp (Ja9 (JS hx))
theorem Jaw (x y : Nat) : JR p m x y = JR p m y x := by unfold JR; rw [Jai]
theorem ZA (hp : 0 < p) {x y z : Nat} (hx : x < p ^ m) (hy : y < p ^ m) (hz : z < p ^ m) : JR p m (JR p m x y) z = JR p m x (JR p m y z) := by
 show nm p m (Jq (dv p (JR p m x y)) (dv p z)) = nm p m (Jq (dv p x) (dv p (JR p m y z))); rw [J3 ((Yz hp hx hy).add (vcg.refl _)), J3 ((vcg.refl (p := p) (dv p x)).add (Yz hp hy hz)), Zi]
theorem Jax (p : Nat) : dv p 0 = vz := by funext i; simp [dv, vz]
theorem Jav (hp : 0 < p) {x : Nat} (hx : x < p ^ m) : JR p m x 0 = x := by unfold JR; rw [Jax, Yp, Yh hp hx]
theorem Y3 (hp : 0 < p) {x : Nat} (hx : x < p ^ m) : JR p m x (Y1 p m x) = 0 := by
 show nm p m (Jq (dv p x) (dv p (Y1 p m x))) = 0; rw [J3 ((vcg.refl (p := p) (dv p x)).add (Jdq hp hx))]; have : Jq (dv p x) (vsm (-1) (dv p x)) = vz := by funext i; simp only [Jq, vsm, vz]; omega
 rw [this, <- Jax p, Yh hp (by exact Nat.pow_pos hp)]
theorem Yk {x y : Nat} (hx : x < p ^ m) (hy : y < p ^ m) : Jz p m c x y = Jz p m c y x := by
 unfold Jz; rw [QA (JS hx) (JS hy)]
theorem Zy (hp : 0 < p) {x y z : Nat} (hx : x < p ^ m) (hy : y < p ^ m) (hz : z < p ^ m) : Jz p m c (Jz p m c x y) z = Jz p m c x (Jz p m c y z) := by
 show nm p m (JL m c (dv p (Jz p m c x y)) (dv p z)) = nm p m (JL m c (dv p x) (dv p (Jz p m c y z))); rw [J3 (vcg.mul (vcg.refl c) (QR hp hx) (vcg.refl _)), J3 (vcg.mul (vcg.refl c) (vcg.refl (dv p x)) (QR hp hy)), Zh (JS hx) (JS hy) (JS hz)]
theorem dv_one (hp : 2 <= p) : dv p 1 = e0 := by
 funext i; cases i with
 | zero => rw [Qv, Nat.mod_eq_of_lt (by omega)]; rfl
 | succ i =>
  have : (1 : Nat) / p ^ (i + 1) = 0 := Nat.div_eq_of_lt (Nat.one_lt_pow (by omega) (by omega)); simp [dv, this, e0]
theorem Jb5 (hp : 2 <= p) (hm : 0 < m) {x : Nat} (hx : x < p ^ m) : Jz p m c x 1 = x := by
 unfold Jz; rw [dv_one hp, Jba hm, Yh (by omega) hx]
theorem Jat (hp : 0 < p) {x : Nat} (hx : x < p ^ m) : Jz p m c x 0 = 0 := by
 rw [Yk hx (Nat.pow_pos hp)]; unfold Jz; rw [Jax]; have : JL m c vz (dv p x) = vz := opr_z ..; rw [this, <- Jax p, Yh hp (Nat.pow_pos hp)]
theorem Jb6 (hp : 0 < p) {x y z : Nat} (hx : x < p ^ m) (hy : y < p ^ m) (hz : z < p ^ m) : Jz p m c x (JR p m y z) = JR p m (Jz p m c x y) (Jz p m c x z) := by
 show nm p m (JL m c (dv p x) (dv p (JR p m y z))) = nm p m (Jq (dv p (Jz p m c x y)) (dv p (Jz p m c x z))); rw [J3 (vcg.mul (vcg.refl c) (vcg.refl (dv p x)) (Yz hp hy hz)), J3 ((QR (c := c) hp hx).add (QR hp hx)), Jbb]
end
structure CR (q : Nat) (A M : Nat -> Nat -> Nat) : Prop where
  q2 : 2 <= q
  Al : ∀ x y, A x y < q
  Ml : ∀ x y, M x y < q
  Ac : ∀ x y, A x y = A y x
  Aa : ∀ {x y z}, x < q -> y < q -> z < q -> A (A x y) z = A x (A y z)
  Az : ∀ {x}, x < q -> A x 0 = x
  An : ∀ {x}, x < q -> ∃ y, y < q /\ A x y = 0
  Mc : ∀ {x y}, x < q -> y < q -> M x y = M y x
  Ma : ∀ {x y z}, x < q -> y < q -> z < q -> M (M x y) z = M x (M y z)
  M1 : ∀ {x}, x < q -> M x 1 = x
  M0 : ∀ {x}, x < q -> M x 0 = 0
  Md : ∀ {x y z}, x < q -> y < q -> z < q -> M x (A y z) = A (M x y) (M x z)
theorem CR.mk' {p m : Nat} (c : Vec) (hp : 2 <= p) (hm : 0 < m) : CR (p ^ m) (JR p m) (Jz p m c) where
 q2 := Nat.le_trans hp (by have := Nat.pow_le_pow_right (n := p) (by omega) hm; simpa using this)
 Al := Jdo (by omega)
 Ml := Jdn (by omega)
 Ac := Jaw
 Aa := ZA (by omega)
 Az := Jav (by omega)
 An := fun {x} hx => ⟨Y1 p m x, Z6 (by omega) x, Y3 (by omega) hx⟩
 Mc := Yk
 Ma := Zy (by omega)
 M1 := Jb5 hp hm
 M0 := Jat (by omega)
 Md := Jb6 (by omega)
end Go.Proofs.Ytppkigdakobebaa
namespace Go.Proofs.Ytppkigdakobebaa
def pw (M : Nat -> Nat -> Nat) (g : Nat) : Nat -> Nat
  | 0 => 1
  | k + 1 => M (pw M g k) g
theorem php : ∀ (n : Nat) (f : Nat -> Nat), (∀ i, i < n + 1 -> f i < n) -> ∃ i j, i < j /\ j < n + 1 /\ f i = f j
 | 0, f, h => absurd (h 0 (by omega)) (by omega)
 | n + 1, f, h => by
  by_cases hc : ∃ i, i < n + 1 /\ f i = f (n + 1)
  .obtain ⟨i, hi, he⟩ := hc; exact ⟨i, n + 1, hi, by omega, he⟩
  .have hv := h (n + 1) (by omega); obtain ⟨i, j, hij, hj, he⟩ := php n (fun i => if f i = n then f (n + 1) else f i) (fun i hi => by
    have hne : f i ≠ f (n + 1) := fun e => hc ⟨i, hi, e⟩; have := h i (by omega); show (if f i = n then f (n + 1) else f i) < n; split
    .omega
    .omega)
   refine ⟨i, j, hij, by omega, ?_⟩; have hi1 : f i ≠ f (n + 1) := fun e => hc ⟨i, by omega, e⟩; have hj1 : f j ≠ f (n + 1) := fun e => hc ⟨j, by omega, e⟩; split at he <;> split at he <;> omega
theorem YN {n : Nat} {f : Nat -> Nat} (hb : ∀ i, i < n -> f i < n) (hi : ∀ i j, i < j -> j < n -> f i ≠ f j) {y : Nat} (hy : y < n) : ∃ i, i < n /\ f i = y := by
 obtain ⟨i, j, hij, hj, he⟩ := php n (fun i => if i < n then f i else y) (fun i _ => by
  show (if i < n then f i else y) < n; split
  .rename_i h; exact hb i h
  .exact hy)
 rcases Nat.lt_or_ge j n with h | h
 .rw [if_pos h, if_pos (show i < n by omega)] at he; exact absurd he (hi i j hij h)
 .rw [if_neg (show ¬ j < n by omega), if_pos (show i < n by omega)] at he; exact ⟨i, by omega, he⟩
section
variable {q : Nat} {A M : Nat -> Nat -> Nat} (R : CR q A M)
include R
namespace CR
theorem one_lt : 1 < q := R.q2
theorem pos : 0 < q := by have := R.q2; omega
theorem Z0 {x : Nat} (hx : x < q) : M 0 x = 0 := by rw [R.Mc R.pos hx, R.M0 hx]
theorem pw_lt (g : Nat) : ∀ k, pw M g k < q
 | 0 => R.one_lt
 | k + 1 => R.Ml _ _
theorem pw_add {g : Nat} (hg : g < q) (i : Nat) : ∀ j, pw M g (i + j) = M (pw M g i) (pw M g j)
 | 0 => (R.M1 (R.pw_lt g i)).symm
 | j + 1 => by
  show M (pw M g (i + j)) g = M (pw M g i) (M (pw M g j) g); rw [pw_add hg i j, R.Ma (R.pw_lt g i) (R.pw_lt g j) hg]
theorem pw_pw {g : Nat} (hg : g < q) (i : Nat) : ∀ j, pw M (pw M g i) j = pw M g (i * j)
 | 0 => rfl
 | j + 1 => by
  show M (pw M (pw M g i) j) (pw M g i) = _; rw [pw_pw hg i j, <- R.pw_add hg]; rfl
theorem one_pw : ∀ j, pw M 1 j = 1
 | 0 => rfl
 | j + 1 => by show M (pw M 1 j) 1 = 1; rw [one_pw j, R.M1 R.one_lt]
end CR
end
structure Gn (q : Nat) (M : Nat -> Nat -> Nat) (g : Nat) : Prop where
  lt : g < q
  one : pw M g (q - 1) = 1
  no : ∀ k, 0 < k -> k < q - 1 -> pw M g k ≠ 1
namespace Gn
variable {q g : Nat} {A M : Nat -> Nat -> Nat}
theorem per (G : Gn q M g) (R : CR q A M) (i k : Nat) : pw M g (i + (q - 1) * k) = pw M g i := by
 rw [R.pw_add G.lt, <- R.pw_pw G.lt, G.one, R.one_pw, R.M1 (R.pw_lt g i)]
theorem ne0 (G : Gn q M g) (R : CR q A M) (k : Nat) : pw M g k ≠ 0 := fun h => by
 have h1 := G.per R 0 (k + 1); have hq := R.q2; rw [Nat.zero_add] at h1; have : (q - 1) * (k + 1) = k + ((q - 1) * (k + 1) - k) := by
  have : k + 1 <= (q - 1) * (k + 1) := Nat.le_mul_of_pos_left _ (by omega); omega
 rw [this, R.pw_add G.lt, h, R.Z0 (R.pw_lt g _)] at h1; exact absurd h1 (by show ¬ (0 : Nat) = 1; omega)
theorem inj (G : Gn q M g) (R : CR q A M) {i j : Nat} (hij : i < j) (hj : j < q - 1) : pw M g i ≠ pw M g j := fun h => by
 have e1 : M (pw M g i) (pw M g (q - 1 - i)) = 1 := by rw [<- R.pw_add G.lt, show i + (q - 1 - i) = q - 1 by omega, G.one]
 have e2 : M (pw M g j) (pw M g (q - 1 - i)) = pw M g (j - i) := by
  rw [<- R.pw_add G.lt, show j + (q - 1 - i) = (j - i) + (q - 1) * 1 by omega, G.per R]
 rw [h] at e1; exact G.no (j - i) (by omega) (by omega) (e2.symm.trans e1)
theorem surj (G : Gn q M g) (R : CR q A M) {x : Nat} (h0 : 0 < x) (hx : x < q) : ∃ k, k < q - 1 /\ pw M g k = x := by
 obtain ⟨i, hi, he⟩ := YN (n := q - 1) (f := fun k => pw M g k - 1) (fun i hi => by
  have := R.pw_lt g i; have := G.ne0 R i; show pw M g i - 1 < q - 1; omega) (fun i j hij hj he => by
  have h1 := G.ne0 R i; have h2 := G.ne0 R j; exact G.inj R hij hj (by omega)) (y := x - 1) (by omega)
 have := G.ne0 R i; exact ⟨i, hi, by omega⟩
open Classical in
noncomputable def lg (q : Nat) (M : Nat -> Nat -> Nat) (g x : Nat) : Nat := if h : ∃ k, k < q - 1 /\ pw M g k = x then Classical.choose h else 0
end Gn
end Go.Proofs.Ytppkigdakobebaa
namespace Go.Proofs.Ytppkigdakobebaa
structure IsLf (n d : Nat) : Prop where
  two : 2 <= d
  dvd : n % d = 0
  min : ∀ e, 2 <= e -> n % e = 0 -> d <= e
def Jcd : Nat -> Nat -> Nat
  | _, 0 => 1
  | 0, _ + 1 => 0
  | n + 1, k + 1 => Jcd n k + Jcd n (k + 1)
section
variable {q : Nat} {A M : Nat -> Nat -> Nat} (R : CR q A M)
include R
namespace CR
theorem Aac {a b c : Nat} (ha : a < q) (hb : b < q) (hc : c < q) : A (A a b) c = A (A a c) b := by
 rw [R.Aa ha hb hc, R.Ac b c, <- R.Aa ha hc hb]
theorem A4 {a b c d : Nat} (ha : a < q) (hb : b < q) (hc : c < q) (hd : d < q) : A (A a b) (A c d) = A (A a c) (A b d) := by
 rw [<- R.Aa (R.Al a b) hc hd, R.Aac ha hb hc, R.Aa (R.Al a c) hb hd]
end CR
end
end Go.Proofs.Ytppkigdakobebaa
namespace Go.Proofs.Ytppkigdakobebaa
def hz (m : Nat) (c b y : Vec) (n : Nat) : Nat -> Vec
  | 0 => vz
  | k + 1 => Jq (tX m c (hz m c b y n k)) (vsm (b (n - 1 - k)) y)
def dgl (p : Nat) : Nat -> Nat -> List Nat
  | 0, _ => []
  | n + 1, x => (x % p) :: dgl p n (x / p)
theorem YA (p : Nat) : ∀ n x, (dgl p n x).length = n
 | 0, _ => rfl
 | n + 1, x => by simp [dgl, YA p n]
theorem Jca (p : Nat) : ∀ n x i, i < n -> (((dgl p n x).getD i 0 : Nat) : Int) = dv p x i
 | 0, _, i, h => by omega
 | n + 1, x, 0, _ => by rw [Qv]; rfl
 | n + 1, x, i + 1, h => by
  show (((dgl p n (x / p)).getD i 0 : Nat) : Int) = _; rw [Jca p n (x / p) i (by omega), QQ]
@[reducible] noncomputable def hd0 (l : List Nat) : Nat := List.rec (motive := fun _ => Nat) 0 (fun x _ _ => x) l
@[reducible] noncomputable def tl0 (l : List Nat) : List Nat := List.rec (motive := fun _ => List Nat) [] (fun _ l _ => l) l
noncomputable def go (p a top : Nat) (cs : List Nat) : Nat -> List Nat -> List Nat -> List Nat :=
  List.rec (motive := fun _ => Nat -> List Nat -> List Nat -> List Nat) (fun _ _ _ => [])
    (fun c _ ih prev us ys => ((prev + (p - c) * top + a * hd0 ys) % p) :: ih (hd0 us) (tl0 us) (tl0 ys)) cs
noncomputable def tp (l : List Nat) : Nat -> Nat := List.rec (motive := fun _ => Nat -> Nat) (fun d => d) (fun x _ ih _ => ih x) l
noncomputable def mulL (p : Nat) (cs ys gs : List Nat) : List Nat -> List Nat :=
  List.rec (motive := fun _ => List Nat -> List Nat) (fun acc => acc) (fun g _ ih acc => ih (go p g (tp acc 0) cs 0 acc ys)) gs
noncomputable def az (l : List Nat) : Bool := List.rec (motive := fun _ => Bool) true (fun x _ ih => bif Nat.beq x 0 then ih else false) l
noncomputable def is1 (l : List Nat) : Bool := List.rec (motive := fun _ => Bool) false (fun x t _ => bif Nat.beq x 1 then az t else false) l
noncomputable def run (p : Nat) (cs gs : List Nat) (n : Nat) : List Nat -> Bool :=
  Nat.rec (motive := fun _ => List Nat -> Bool) (fun y => is1 y) (fun _ ih y => bif is1 y then false else ih (mulL p cs y gs y)) n
theorem Jb3 (l : List Nat) : hd0 l = l.getD 0 0 := by cases l <;> rfl
theorem Zj (l : List Nat) (i : Nat) : (tl0 l).getD i 0 = l.getD (i + 1) 0 := by cases l <;> rfl
theorem Yy (p a top c : Nat) (cs : List Nat) (prev : Nat) (us ys : List Nat) : go p a top (c :: cs) prev us ys = ((prev + (p - c) * top + a * hd0 ys) % p) :: go p a top cs (hd0 us) (tl0 us) (tl0 ys) := rfl
theorem Jb4 (p a top : Nat) : ∀ (cs : List Nat) (prev : Nat) (us ys : List Nat), (go p a top cs prev us ys).length = cs.length
 | [], _, _, _ => rfl
 | c :: cs, prev, us, ys => by rw [Yy, List.length_cons, Jb4 p a top cs, List.length_cons]
theorem go_at (p a top : Nat) : ∀ (cs : List Nat) (prev : Nat) (us ys : List Nat) (i : Nat), i < cs.length -> (go p a top cs prev us ys).getD i 0 = ((if i = 0 then prev else us.getD (i - 1) 0) + (p - cs.getD i 0) * top + a * ys.getD i 0) % p
 | [], _, _, _, i, h => by simp at h
 | c :: cs, prev, us, ys, 0, _ => by rw [Yy, Jb3]; rfl
 | c :: cs, prev, us, ys, i + 1, h => by
  rw [Yy]; show (go p a top cs (hd0 us) (tl0 us) (tl0 ys)).getD i 0 = _; rw [go_at p a top cs _ _ _ i (by simpa using h)]; cases i with
  | zero => rw [if_pos rfl, if_neg (by omega), Jb3, Zj]; rfl
  | succ i => rw [if_neg (by omega), if_neg (by omega), Zj, Zj]; rfl
theorem tp_eq : ∀ (l : List Nat) (d : Nat), 0 < l.length -> tp l d = l.getD (l.length - 1) 0
 | [], _, h => by simp at h
 | [x], d, _ => rfl
 | x :: y :: l, d, _ => by
  show tp (y :: l) x = _; rw [tp_eq (y :: l) x (by simp)]; simp
def Rep (p m : Nat) (L : List Nat) (v : Vec) : Prop := L.length = m /\ ∀ i, i < m -> ((L.getD i 0 : Nat) : Int) = v i % (p : Int)
def hl (m : Nat) (c y : Vec) : List Nat -> Vec -> Vec
  | [], u => u
  | g :: gs, u => hl m c y gs (Jq (tX m c u) (vsm g y))
theorem Rep.step {p m : Nat} {cs us ys : List Nat} {c u y : Vec} (hp : 0 < p) (hm : 0 < m) (hc : Rep p m cs c) (hu : Rep p m us u) (hy : Rep p m ys y) (g : Nat) :
  Rep p m (go p g (tp us 0) cs 0 us ys) (Jq (tX m c u) (vsm g y)) := by
 refine ⟨by rw [Jb4, hc.1], fun i hi => ?_⟩; rw [go_at _ _ _ _ _ _ _ _ (by rw [hc.1]; exact hi), tp_eq _ _ (by rw [hu.1]; exact hm), hu.1]; have h1 := hu.2 (m - 1) (by omega); have h2 := hc.2 i hi; have h3 := hy.2 i hi; have hlt : cs.getD i 0 <= p := by
  have := Int.emod_lt_of_pos (c i) (show (0 : Int) < p by omega); omega
 have e : (((if i = 0 then 0 else us.getD (i - 1) 0) : Nat) : Int) % p = (if i = 0 then (0 : Int) else u (i - 1)) % p := by
  split
  .rfl
  .rw [hu.2 (i - 1) (by omega), Int.emod_emod]
 simp only [Jq, vsm, tX, if_pos hi]; generalize (if i = 0 then 0 else us.getD (i - 1) 0 : Nat) = A at *
 generalize (if i = 0 then (0 : Int) else u (i - 1)) = B at *
 generalize us.getD (m - 1) 0 = T at *
 generalize cs.getD i 0 = C at *
 generalize ys.getD i 0 = Y at *
 have hT : ((T : Nat) : Int) % p = u (m - 1) % p := by rw [h1, Int.emod_emod]
 have hC : ((C : Nat) : Int) % p = c i % p := by rw [h2, Int.emod_emod]
 have hY : ((Y : Nat) : Int) % p = y i % p := by rw [h3, Int.emod_emod]
 obtain ⟨D, hD⟩ : ∃ D, p = C + D := ⟨p - C, by omega⟩
 have hsub : p - C = D := by omega
 rw [hsub]; have hcast : ((A + D * T + g * Y : Nat) : Int) = ((A : Int) - C * T + g * Y) + p * T := by
  have : (p : Int) = C + D := by omega
  rw [this]; push_cast; rw [Int.add_mul]; omega
 rw [Int.natCast_emod, hcast, Int.add_mul_emod_self_left]; exact Jck (Zl e (Q2 hC hT)) (Q2 rfl hY)
theorem Jap (p : Nat) (cs ys : List Nat) (g : Nat) (gs acc : List Nat) : mulL p cs ys (g :: gs) acc = mulL p cs ys gs (go p g (tp acc 0) cs 0 acc ys) := rfl
theorem Rep.mul {p m : Nat} {cs ys : List Nat} {c y : Vec} (hp : 0 < p) (hm : 0 < m) (hc : Rep p m cs c) (hy : Rep p m ys y) : ∀ {gs us : List Nat} {u : Vec}, Rep p m us u -> Rep p m (mulL p cs ys gs us) (hl m c y gs u)
 | [], _, _, h => h
 | g :: gs, us, u, h => by rw [Jap]; exact Rep.mul hp hm hc hy (Rep.step hp hm hc h hy g)
def rst (p d i : Nat) (l R : Vec) : Vec := fun j => if i <= j + d /\ j < i then (R j - l (j + d - i) * R i) % (p : Int) else R j
def rem (p d : Nat) (l R : Vec) (n : Nat) : Nat -> Vec
  | 0 => R
  | k + 1 => rst p d (n - 1 - k) l (rem p d l R n k)
def Dvd (p d : Nat) (l R : Vec) (n : Nat) : Prop := ∀ j, j < d -> rem p d l R n (n - d) j = 0
def Irr (p m : Nat) (c : Vec) : Prop := ∀ d, 0 < d -> 2 * d <= m -> ∀ w, w < p ^ d -> ¬ Dvd p d (dv p w) (fun i => if i = m then 1 else c i) (m + 1)
end Go.Proofs.Ytppkigdakobebaa
namespace Go.Proofs.Ytppkigdakobebaa
end Go.Proofs.Ytppkigdakobebaa
namespace Go.Proofs.Ytppkigdakobebaa
def vo (l : LI) : Vec := fun i => l.getD i 0
theorem Jbl (l : LI) (i : Nat) (x : Int) : si l (i : Int) x = l.set i x := rfl
theorem vo_set (l : LI) (i j : Nat) (x : Int) : vo (l.set i x) j = if i = j /\ i < l.length then x else vo l j := by
 unfold vo; rw [List.getD_eq_getElem?_getD, List.getD_eq_getElem?_getD, List.getElem?_set]; by_cases h : i = j
 .subst h; by_cases h2 : i < l.length
  .simp [h2]
  .simp [h2]
 .simp [h]
theorem vo_hi {l : LI} {i : Nat} (h : l.length <= i) : vo l i = 0 := by
 unfold vo; rw [List.getD_eq_getElem?_getD, List.getElem?_eq_none h]; rfl
theorem vo_ext {l o : LI} (h : l.length = o.length) (hv : ∀ i, i < l.length -> vo l i = vo o i) : l = o := by
 refine List.ext_getElem h fun i h1 h2 => ?_; have := hv i h1; unfold vo at this; rw [List.getD_eq_getElem?_getD, List.getD_eq_getElem?_getD, List.getElem?_eq_getElem h1, List.getElem?_eq_getElem h2] at this; exact this
theorem Qi {x : Int} (h : -1000000000000 <= x) (h2 : x <= 1000000000000) : I64 x := ⟨by omega, by omega⟩
def dgi (p n x : Nat) : LI := (dgl p n x).map fun (a : Nat) => (a : Int)
theorem Jdr (p n x : Nat) : (dgi p n x).length = n := by simp [dgi, YA]
theorem dgi_at {p n x i : Nat} (h : i < n) : vo (dgi p n x) i = dv p x i := by
 rw [<- Jca p n x i h]; unfold vo dgi; rw [List.getD_eq_getElem?_getD, List.getElem?_map, List.getD_eq_getElem?_getD]; rw [List.getElem?_eq_getElem (by rw [YA]; exact h)]; rfl
theorem IsLf.uniq {n d e : Nat} (h : IsLf n d) (h' : IsLf n e) : d = e := Nat.le_antisymm (h.min e h'.two h'.dvd) (h'.min d h.two h.dvd)
theorem Jbq {p a b : Nat} (hp : 0 < p) (h : a <= b) : p ^ a <= p ^ b := Nat.pow_le_pow_right hp h
def YR (P M : Int) : Int := if 2 <= P /\ 1 <= M /\ P.toNat ^ M.toNat <= 256 then ((P.toNat ^ M.toNat : Nat) : Int) else 0
end Go.Proofs.Ytppkigdakobebaa
namespace Go.Proofs.Ytppkigdakobebaa
theorem dgi_vo {p d w : Nat} (hw : w < p ^ d) : vo (dgi p d w) = dv p w := by
 funext i; rcases Nat.lt_or_ge i d with h | h
 .exact dgi_at h
 .rw [vo_hi (by rw [Jdr]; exact h), Jb9 hw h]
structure FV (P M : Int) (mf : LI) (p m v : Nat) : Prop where
  eP : P = p
  eM : M = m
  pr : IsLf p p
  m0 : 0 < m
  q : p ^ m <= 256
  vlt : v < p ^ m
  m1 : m = 1 -> mf = [] /\ v = 0
  m2 : m ≠ 1 -> mf = dgi p m v
  irr : Irr p m (dv p v)
def Qx (P M : Int) (mf : LI) : Prop := ∃ p m v, FV P M mf p m v
open Classical in
noncomputable def ck (P M : Int) (mf : LI) : Int := if Qx P M mf then 0 else 1
theorem FV.vo {P M : Int} {mf : LI} {p m v : Nat} (h : FV P M mf p m v) : Go.Proofs.Ytppkigdakobebaa.vo mf = dv p v := by
 by_cases hm : m = 1
 .rw [(h.m1 hm).1, (h.m1 hm).2, Jax]; rfl
 .rw [h.m2 hm, dgi_vo h.vlt]
end Go.Proofs.Ytppkigdakobebaa
namespace Go.Proofs.Ytppkigdakobebaa
open Go.RowKit
def J2 (x : Int) (z : List Bool) (Q : Bool -> Prop) : Prop :=
  (0 <= x /\ x < (z.length : Nat)) /\ (Q (gb z x))
theorem YV {w : World} {Q : Bool -> Prop} {x : Int} {z : List Bool} {cz : Addr} {Bz bz : Nat} {Az : Option Addr} {nz kz : Nat} (hz : Rd Bz w 1 Az nz kz (bs z)) (hcz : Rd bz w 1 (some cz) 1 1 [.slice Az nz kz]) (hv : J2 x z Q) :
  Calls Try.prog 55 #[.int .i64 x, .pointer (some cz)] w <| Rt w fun v Qr => ∃ (r0 : Bool), v = .bool r0 /\ Qr = [] /\ Q r0 := by
 have hnz := hz.blen; subst hnz; refine Je <| Jf (vs := [nI x, .pointer (some cz)]) [3] XF55 rfl rfl rfl rfl ?_; have hS := Jk w; unfold J2 at hv; refine Jb 6 <| Jy Qw rfl rfl (Rd.at_ (hS.ro hcz) (j := 0) rfl) rfl <| Jh rfl rfl ?_; obtain ⟨o11, hv⟩ := hv; refine Jp Qw XE4 (hS.ro hz) rfl rfl o11 rfl <| Jy XU4 rfl rfl (Zc (hS.ro hz) o11) rfl <| Ja 2 <| W.ret <| ⟨_, rfl, Fin.nil ?_⟩
 exact (hS.pick [] rfl).fin rfl ⟨(gb z x), rfl, rfl, hv⟩
def JN (qq : Int) (n : Int) (y : LI) (Q : LI × Int -> Prop) : Prop :=
  ((qq < 2) -> (Q (([] : LI), (6 : Int)))) /\ (¬ (qq < 2) -> ((((256 : Int) < qq) -> (Q (([] : LI), (6 : Int)))) /\ (¬ ((256 : Int) < qq) -> (J0 n (fun r14 => (((!r14) = true) -> (Q (([] : LI), (4 : Int)))) /\ ((!r14) = false -> (Qz qq n (fun (x17, r18) => ((r18 ≠ 0) -> (Q (([] : LI), r18))) /\ (¬ (r18 ≠ 0) -> (Qy n y (fun x25 => ∃ (I47 : LI -> Int -> Prop) (μ48 : LI -> Int -> Nat), I47 ([] : LI) (0 : Int) /\ ∀ (x42 : LI) (z46 : Int), (I47 x42 z46 -> (((z46 < (x17.length : Int)) -> (∃ J55 : LI -> Bool -> Prop, ((0 <= z46 /\ z46 < (x17.length : Nat)) /\ (J1 (gl x17 z46) (fun xc Qc => J2 xc x25 Qc) (fun r58 => ((r58 = true) -> ((((x42.length : Nat) + ((gl x17 z46).length : Nat) : Int) * 8 <= 140737488355328) /\ (J55 (x42 ++ (gl x17 z46)) r58))) /\ (r58 = false -> J55 x42 r58)))) /\ ∀ (x51 : LI) (b54 : Bool), (J55 x51 b54 -> ((I64 (z46 + 1)) /\ (I47 x51 (z46 + 1) /\ μ48 x51 (z46 + 1) < μ48 x42 z46))))) /\ (¬ (z46 < (x17.length : Int)) -> (ZE x42 (fun x68 => Q (x68, (0 : Int))))))))))))))))))
theorem Q1 {w : World} {Q : LI × Int -> Prop} {qq : Int} {n : Int} {y : LI} {By : Nat} {Ay : Option Addr} {ny ky : Nat} (hy : Rd By w 1 Ay ny ky (is y)) (hv : JN qq n y Q) :
   Calls Try.prog 19 #[.int .i64 qq, .int .i64 n, .slice Ay ny ky] w <| Rt w fun v Qr => ∃ (r0 : LI) (r1 : Int) (Ar0 : Option Addr) (cr0 : Nat), v = .tuple #[.slice Ar0 r0.length cr0, .int .i64 r1] /\ Qr = [.row 3 1 Ar0 r0.length cr0 (is r0)] /\ Q (r0, r1) := by
 have hny := hy.ilen; subst hny; refine Je <| Jf (vs := [nI qq, nI n, nS Ay y ky]) [6, 7] XF19 rfl rfl rfl rfl ?_; have hS := Jk w; unfold JN at hv; refine Jb 10 <| Jh rfl rfl ?_; by_cases g11 : qq < 2
 .have hv := hv.1 g11; rw [decide_eq_true g11]; refine Ja 4 <| JP rfl <| Jb 5 <| W.ret ?_; have hS := hS.nil (e := 3) (z := 1); refine ⟨_, rfl, Fin.nil ?_⟩; exact (hS.pick [0] rfl).fin rfl ⟨([] : LI), (6 : Int), none, 0, rfl, rfl, hv⟩
 have hv := hv.2 g11; rw [decide_eq_false g11]; refine Ja 6 <| Jd rfl (fun c12 => ?_) (fun c12 => ?_)
 .have hv := hv.1 (oT c12); refine Jb 5 <| W.ret ?_; have hS := hS.nil (e := 3) (z := 1); refine ⟨_, rfl, Fin.nil ?_⟩; exact (hS.pick [0] rfl).fin rfl ⟨([] : LI), (6 : Int), none, 0, rfl, rfl, hv⟩
 have hv := hv.2 (oF c12); refine Jg <| Jb 4 <| SL.call hS (YT  hv) XF48 rfl XN48 rfl rfl ?_; rintro _ _ w13 ⟨r14, rfl, rfl, hv⟩ hGw13 hS; have hS := hS.n0; refine Ja 2 <| Jd rfl (fun c15 => ?_) (fun c15 => ?_)
 .have hv := hv.1 (c15); refine Jb 5 <| W.ret ?_; have hS := hS.nil (e := 3) (z := 1); refine ⟨_, rfl, Fin.nil ?_⟩; exact (hS.pick [0] rfl).fin rfl ⟨([] : LI), (4 : Int), none, 0, rfl, rfl, hv⟩
 have hv := hv.2 (c15); refine Jg <| Jb 4 <| SL.call hS (Jan  hv) XF52 rfl XN52 rfl rfl ?_; rintro _ _ w16 ⟨x17, r18, A19, k20, hs21, rfl, rfl, hv⟩ hGw16 hS; have hS := hS.n1; refine Ja 6 <| Jb 6 <| Jd rfl (fun c23 => ?_) (fun c23 => ?_)
 .have hv := hv.1 (oT c23); refine Jb 6 <| W.ret ?_; have hS := hS.nil (e := 3) (z := 1); refine ⟨_, rfl, Fin.nil ?_⟩; exact (hS.pick [0] rfl).fin rfl ⟨([] : LI), r18, none, 0, rfl, rfl, hv⟩
 have hv := hv.2 (oF c23); refine Jg <| Jb 4 <| SL.call hS (Jam (hS.ro hy) hv) XF53 rfl XN53 rfl rfl ?_; rintro _ _ w24 ⟨x25, A26, k27, rfl, rfl, hv⟩ hGw24 hS; have hS := hS.n1; refine SL.alloc (cs := [.slice none 0 0]) hS XE79 rfl rfl ?_; intro g29 w30 hS; refine Qd (cs' := [nS A26 x25 k27]) 0 0 hS rfl XE79 rfl rfl rfl (of_ble rfl) rfl ?_; intro w31 hS; refine Jl <| Jb 8 <| WL.len XU76 rfl rfl <| Ja 2 <| W.block ?_; obtain ⟨I47, μ48, hv, hk69⟩ := hv; have hS := hS.nil (e := 3) (z := 1); have hm0 : 0 = ([] : LI).length := (hS.rd (i := 0) rfl).ilen.symm; have hS := hS.relen (i := 0) rfl hm0
 change St _ _ _ _ [_, _, _, _] at hS
 refine JD (σ := LI × Int × Option Addr × Nat) (fun q w1 => match q with | (x42, z46, A43, k44) => I47 x42 z46 /\ St TT w none w1 [nR 3 A43 x42 k44, nV 79 g29 (nS A26 x25 k27), .row 4 1 A26 x25.length k27 (bs x25), mx 22 3 A19 x17.length k20 hs21 x17]) (fun (x42, z46, A43, k44) => [(6, .slice none 0 0), (7, nI 0), (10, nP g29), (11, nS A43 x42 k44), (35, nS A19 x17 k20), (36, nI (x17.length : Int)), (37, nI z46)]) (fun (x42, z46, A43, k44) => μ48 x42 z46) (([] : LI), (0 : Int), none, 0) ⟨hv, hS⟩ ⟨rfl, rfl, rfl, (sm (by first | rfl | assumption | omega)), rfl, rfl, rfl, trivial⟩ ?_; rintro ⟨x42, z46, A43, k44⟩ w49 ⟨hv, hS⟩; have hv := hk69 x42 z46 hv; refine Jb 5 <| Jd rfl (fun c50 => ?_) (fun c50 => ?_)
 .have hv := hv.1 (oT c50); refine Jg <| JO ?_; obtain ⟨J55, hv, hk66⟩ := hv; refine YD (σ := LI × Bool × Option Addr × Nat) (fun q w1 => match q with | (x51, b54, A52, k53) => J55 x51 b54 /\ St TT w none w1 [nR 3 A52 x51 k53, nV 79 g29 (nS A26 x25 k27), .row 4 1 A26 x25.length k27 (bs x25), mx 22 3 A19 x17.length k20 hs21 x17]) (fun (x51, b54, A52, k53) => [(6, .slice none 0 0), (7, nI 0), (10, nP g29), (11, nS A52 x51 k53), (13, .slice ((hs21 z46.toNat).1) ((gl x17 z46).length) ((hs21 z46.toNat).2)), (35, nS A19 x17 k20), (36, nI (x17.length : Int)), (37, nI z46), (38, .bool (decide (z46 < (x17.length : Int)))), (43, .bool b54)]) ?_ ?_
  .refine W.block ?_; refine Jb 2 ?_; obtain ⟨o56, hv⟩ := hv; refine ZF 3 XU76 XE22 hS rfl rfl rfl o56 rfl <| Jy JK rfl rfl (hS.mxcell (i := 3) rfl o56) rfl <| Ja 2 <| Jb 3 <| Y9 (vs := [nP g29]) rfl rfl <| SL.call hS (YU (hS.mxrd (i := 3) rfl o56) XF55 rfl XN55 (fun wc xc Qc hg hv => YV ((hS.rd (i := 2) rfl).ext hg) ((hS.rd (i := 1) rfl).ext hg) hv) hv) XF54 rfl XN54 rfl rfl ?_; rintro _ _ w57 ⟨r58, rfl, rfl, hv⟩ hGw57 hS; have hS := hS.n0; refine Jl <| Jd rfl (fun c59 => ?_) (fun c59 => ?_)
   .have hv := hv.1 (c59); refine Jb 3 ?_; obtain ⟨o60, hv⟩ := hv; refine SL.append (cs := is x42) (cs' := is (gl x17 z46)) 0 ((x42 ++ (gl x17 z46)).length) (is (x42 ++ (gl x17 z46))) hS rfl JK XE3 (hS.mxrd (i := 3) rfl o56) (Qk _) rfl rfl (apk o60).1 (apk o60).2 (Z2 (hS.rd (i := 0) rfl) (hS.mxrd (i := 3) rfl o56)) (Qg _ _) rfl ?_; intro A61 k62 w63 hS; refine Ja 2 ?_; exact ⟨(x42 ++ (gl x17 z46), r58, A61, k62), sp rfl, rfl, hv, hS⟩
   have hv := hv.2 (c59); refine Jg ?_; exact ⟨(x42, r58, A43, k44), sp rfl, rfl, hv, hS⟩
  rintro ⟨x51, b54, A52, k53⟩ w64 ⟨hv, hS⟩; have hv := hk66 x51 b54 hv; refine J9 ?_; obtain ⟨o65, hv⟩ := hv; refine WL.add (r := (z46 + 1)) rfl rfl (wr o65) rfl <| Ja 2 ?_; exact ⟨(x51, (z46 + 1), A52, k53), sp rfl, hv.2, rfl, hv.1, hS⟩
 have hv := hv.2 (oF c50); refine JE <| Jb 3 <| SL.callm 0 hS rfl (ZT (hS.own (i := 0) rfl) hv) XF56 rfl XN56 rfl rfl ?_; rintro _ _ w67 ⟨x68, rfl, rfl, hv⟩ hS; refine Jl <| Jb 6 <| W.ret ?_; have hm0 := (hS.rd (i := 0) rfl).ilen; have hS := hS.relen (i := 0) rfl hm0.symm; refine ⟨_, rfl, Fin.nil ?_⟩; exact ⟨_, hS.ext, (hS.pick [0] rfl).rows, JG (hS.pick [0] rfl).rows rfl, ⟨x68, (0 : Int), A43, k44, (by (try unfold nS); first | (rw [hm0]; done) | (rw [hm0]; rfl)), rfl, hv⟩⟩
end Go.Proofs.Ytppkigdakobebaa
namespace Go.Proofs.Ytppkigdakobebaa
open Go.RowKit
def Qb (qq : Int) (n : Int) (y : LI) (Q : Bool -> Prop) : Prop :=
  (((200 : Int) < (y.length : Int)) -> Q true) /\ (¬ ((200 : Int) < (y.length : Int)) -> ((((300 : Int) < n) -> (Ji qq n (fun r14 => ((r14 = 0) -> Q true) /\ (¬ (r14 = 0) -> (JN qq n y (fun (x17, r21) => Ji qq n (fun r23 => ((r23 ≠ 0) -> (Ji qq n (fun r26 => ((r21 = r26) -> (Q (decide ((x17.length : Int) = (0 : Int))))) /\ (¬ (r21 = r26) -> Q false)))) /\ (¬ (r23 ≠ 0) -> (((r21 = 0) -> (JA qq n y (fun x30 => JU x17 x30 (fun r35 => Q r35)))) /\ (¬ (r21 = 0) -> Q false)))))))))) /\ (¬ ((300 : Int) < n) -> (JN qq n y (fun (x37, r41) => Ji qq n (fun r43 => ((r43 ≠ 0) -> (Ji qq n (fun r46 => ((r41 = r46) -> (Q (decide ((x37.length : Int) = (0 : Int))))) /\ (¬ (r41 = r46) -> Q false)))) /\ (¬ (r43 ≠ 0) -> (((r41 = 0) -> (JA qq n y (fun x50 => JU x37 x50 (fun r55 => Q r55)))) /\ (¬ (r41 = 0) -> Q false)))))))))
theorem Yv {w : World} {Q : Bool -> Prop} {qq : Int} {n : Int} {y : LI} {By : Nat} {Ay : Option Addr} {ny ky : Nat} (hy : Rd By w 1 Ay ny ky (is y)) (hv : Qb qq n y Q) :
   Calls Try.prog 4 #[.int .i64 qq, .int .i64 n, .slice Ay ny ky] w <| Rt w fun v Qr => ∃ (r0 : Bool), v = .bool r0 /\ Qr = [] /\ Q r0 := by
 have hny := hy.ilen; subst hny; refine Je <| Jf (vs := [nI qq, nI n, nS Ay y ky]) [6] XF4 rfl rfl rfl rfl ?_; have hS := Jk w; unfold Qb at hv; refine Jb 8 <| WL.len JK rfl rfl <| Jad rfl rfl rfl <| Jh rfl rfl ?_; by_cases g11 : (200 : Int) < (y.length : Int)
 .have hv := hv.1 g11; rw [decide_eq_true g11]; refine Ja 3 <| J8 rfl rfl <| J8 rfl rfl <| J8 rfl rfl <| J8 rfl rfl <| Ja 3 <| JP rfl <| Jb 4 <| W.ret <| ⟨_, rfl, Fin.nil ?_⟩
  exact (hS.pick [] rfl).fin rfl ⟨true, rfl, rfl, hv⟩
 have hv := hv.2 g11; rw [decide_eq_false g11]; refine Ja 5 <| Jh rfl rfl ?_; by_cases g12 : (300 : Int) < n
 .have hv := hv.1 g12; rw [decide_eq_true g12]; refine Ja 5 <| SL.call hS (Js  hv) Ja0 rfl XN18 rfl rfl ?_; rintro _ _ w13 ⟨r14, rfl, rfl, hv⟩ hGw13 hS; have hS := hS.n0; refine Ja 6 <| Jd rfl (fun c15 => ?_) (fun c15 => ?_)
  .have hv := hv.1 (oT c15); refine Jb 4 <| W.ret <| ⟨_, rfl, Fin.nil ?_⟩
   exact (hS.pick [] rfl).fin rfl ⟨true, rfl, rfl, hv⟩
  have hv := hv.2 (oF c15); refine Jg <| Jb 5 <| SL.call hS (Q1 (hS.ro hy) hv) XF19 rfl XN19 rfl rfl ?_; rintro _ _ w16 ⟨x17, r21, A18, k19, rfl, rfl, hv⟩ hGw16 hS; have hS := hS.n1; refine Ja 6 <| Jb 5 <| SL.call hS (Js  hv) Ja0 rfl XN18 rfl rfl ?_; rintro _ _ w22 ⟨r23, rfl, rfl, hv⟩ hGw22 hS; have hS := hS.n0; refine Ja 2 <| Jd rfl (fun c24 => ?_) (fun c24 => ?_)
  .have hv := hv.1 (oT c24); refine Jb 5 <| SL.call hS (Js  hv) Ja0 rfl XN18 rfl rfl ?_; rintro _ _ w25 ⟨r26, rfl, rfl, hv⟩ hGw25 hS; have hS := hS.n0; refine YC rfl rfl rfl <| Jh rfl rfl ?_; by_cases g27 : r21 = r26
   .have hv := hv.1 g27; rw [decide_eq_true g27]; refine Ja 3 <| WL.len JK rfl rfl <| Ja 5 <| W.ret <| ⟨_, rfl, Fin.nil ?_⟩
    exact (hS.pick [] rfl).fin rfl ⟨(decide ((x17.length : Int) = (0 : Int))), rfl, rfl, hv⟩
   have hv := hv.2 g27; rw [decide_eq_false g27]; refine Ja 6 <| W.ret <| ⟨_, rfl, Fin.nil ?_⟩
   exact (hS.pick [] rfl).fin rfl ⟨false, rfl, rfl, hv⟩
  have hv := hv.2 (oF c24); refine Jg <| Jb 4 <| Jh rfl rfl ?_; by_cases g28 : r21 = 0
  .have hv := hv.1 g28; rw [decide_eq_true g28]; refine Ja 9 <| SL.call hS (QI (hS.ro hy) hv) XF21 rfl XN21 rfl rfl ?_; rintro _ _ w29 ⟨x30, A31, k32, rfl, rfl, hv⟩ hGw29 hS; have hS := hS.n1; refine WL.take rfl <| SL.call hS (Yg (hS.rd (i := 1) rfl) (hS.rd (i := 0) rfl) hv) XF20 rfl XN20 rfl rfl ?_; rintro _ _ w34 ⟨r35, rfl, rfl, hv⟩ hGw34 hS; have hS := hS.n0; refine Ja 3 <| W.ret <| ⟨_, rfl, Fin.nil ?_⟩
   exact (hS.pick [] rfl).fin rfl ⟨r35, rfl, rfl, hv⟩
  have hv := hv.2 g28; rw [decide_eq_false g28]; refine Ja 9 <| W.ret <| ⟨_, rfl, Fin.nil ?_⟩
  exact (hS.pick [] rfl).fin rfl ⟨false, rfl, rfl, hv⟩
 have hv := hv.2 g12; rw [decide_eq_false g12]; refine Ja 8 <| Jd4 rfl <| Jg <| Jb 5 <| SL.call hS (Q1 (hS.ro hy) hv) XF19 rfl XN19 rfl rfl ?_; rintro _ _ w36 ⟨x37, r41, A38, k39, rfl, rfl, hv⟩ hGw36 hS; have hS := hS.n1; refine Ja 6 <| Jb 5 <| SL.call hS (Js  hv) Ja0 rfl XN18 rfl rfl ?_; rintro _ _ w42 ⟨r43, rfl, rfl, hv⟩ hGw42 hS; have hS := hS.n0; refine Ja 2 <| Jd rfl (fun c44 => ?_) (fun c44 => ?_)
 .have hv := hv.1 (oT c44); refine Jb 5 <| SL.call hS (Js  hv) Ja0 rfl XN18 rfl rfl ?_; rintro _ _ w45 ⟨r46, rfl, rfl, hv⟩ hGw45 hS; have hS := hS.n0; refine YC rfl rfl rfl <| Jh rfl rfl ?_; by_cases g47 : r41 = r46
  .have hv := hv.1 g47; rw [decide_eq_true g47]; refine Ja 3 <| WL.len JK rfl rfl <| Ja 5 <| W.ret <| ⟨_, rfl, Fin.nil ?_⟩
   exact (hS.pick [] rfl).fin rfl ⟨(decide ((x37.length : Int) = (0 : Int))), rfl, rfl, hv⟩
  have hv := hv.2 g47; rw [decide_eq_false g47]; refine Ja 6 <| W.ret <| ⟨_, rfl, Fin.nil ?_⟩
  exact (hS.pick [] rfl).fin rfl ⟨false, rfl, rfl, hv⟩
 have hv := hv.2 (oF c44); refine Jg <| Jb 4 <| Jh rfl rfl ?_; by_cases g48 : r41 = 0
 .have hv := hv.1 g48; rw [decide_eq_true g48]; refine Ja 9 <| SL.call hS (QI (hS.ro hy) hv) XF21 rfl XN21 rfl rfl ?_; rintro _ _ w49 ⟨x50, A51, k52, rfl, rfl, hv⟩ hGw49 hS; have hS := hS.n1; refine WL.take rfl <| SL.call hS (Yg (hS.rd (i := 1) rfl) (hS.rd (i := 0) rfl) hv) XF20 rfl XN20 rfl rfl ?_; rintro _ _ w54 ⟨r55, rfl, rfl, hv⟩ hGw54 hS; have hS := hS.n0; refine Ja 3 <| W.ret <| ⟨_, rfl, Fin.nil ?_⟩
  exact (hS.pick [] rfl).fin rfl ⟨r55, rfl, rfl, hv⟩
 have hv := hv.2 g48; rw [decide_eq_false g48]; refine Ja 9 <| W.ret <| ⟨_, rfl, Fin.nil ?_⟩
 exact (hS.pick [] rfl).fin rfl ⟨false, rfl, rfl, hv⟩
end Go.Proofs.Ytppkigdakobebaa
namespace Go.Proofs.Ytppkigdakobebaa
/-! ### cyclotomic cosets: the contracts -/
theorem Zw {x : List Bool} {r i : Nat} (hr : r < x.length) (b : Bool) : gb (sb x (r : Int) b) (i : Int) = if i = r then b else gb x (i : Int) := by
  rw [gb_sb (by omega) (by omega) (by omega)]
  by_cases e : i = r
  . rw [if_pos e, if_pos (by omega)]
  . rw [if_neg e, if_neg (by omega)]
theorem Zx (n : Nat) (i : Int) : gb (List.replicate n false) i = false := by
 unfold gb; rw [List.getD_eq_getElem?_getD, List.getElem?_replicate]; split <;> rfl
theorem Jcc {x : List Bool} {r : Nat} (hr : r < x.length) (h : gb x (r : Int) = false) : (sb x (r : Int) true).count false + 1 = x.count false := by
 unfold gb at h; rw [Int.toNat_natCast, List.getD_eq_getElem?_getD, List.getElem?_eq_getElem hr] at h; have h' : x[r] = false := h; unfold sb; rw [Int.toNat_natCast, List.count_set hr, h']; have : 0 < x.count false := List.count_pos_iff.2 (by rw [<- h']; exact List.getElem_mem hr); simp; omega
theorem Jby (a q n : Nat) : (((a : Int) * (q : Int))).tmod (n : Int) = ((a * q % n : Nat) : Int) := by
 rw [<- Int.natCast_mul]; rfl
theorem bn {b : Bool} (h : (!b) = true) : b = false := by cases b <;> simp_all
theorem bt {b : Bool} (h : (!b) = false) : b = true := by cases b <;> simp_all
section
variable {q N : Nat}
theorem Jbz {a : Nat} (ha : a < 300) (hq : q <= 256) : I64 ((a : Int) * (q : Int)) := by
 have : a * q <= 300 * 256 := Nat.mul_le_mul (by omega) hq; rw [<- Int.natCast_mul]; exact Qi (by omega) (by omega)
/-- walking along an orbit with marks -/
theorem Ja6 {i : Nat} {Q : LI -> Prop} (hi : i < N) (h300 : N <= 300) (hq : q <= 256) (h : Q (orb q N i)) : Qa q N i Q := by
  have e0 : ((i : Int)).tmod (N : Int) = (i : Int) := by
    rw [Int.tmod_eq_emod_of_nonneg (by omega), Int.emod_eq_of_lt (by omega) (by omega)]
  unfold Qa
  rw [Int.toNat_natCast, e0]
  refine ⟨⟨by omega, by omega, by omega⟩, by omega, fun x z => ∃ t : Nat, z = itr q N i t /\ x.length = N /\ ∀ j : Nat, j < N -> (gb x (j : Int) = true ↔ ∃ s, s < t /\ itr q N i s = j), fun x _ => x.count false, ⟨0, rfl, by simp, fun j hj => ⟨fun c => (by rw [Zx] at c; cases c), fun ⟨s, hs, _⟩ => by omega⟩⟩, ?_⟩
  rintro x _ ⟨t, rfl, hx, hm⟩
  have hz := J4 (q := q) (show 0 < N by omega) hi t
  refine ⟨⟨by omega, by omega⟩, fun hg => ⟨⟨by omega, by omega⟩, Jbz (by omega) hq, by omega, ⟨t + 1, Jby _ _ _, by rw [Yt]; exact hx, fun j hj => ?_⟩, ?_⟩, fun hg => ?_⟩
  . rw [Zw (by omega)]
    by_cases e : j = itr q N i t
    . rw [if_pos e]; exact ⟨fun _ => ⟨t, by omega, e.symm⟩, fun _ => rfl⟩
    . rw [if_neg e, hm j hj]
      constructor
      . rintro ⟨s, hs, e⟩; exact ⟨s, by omega, e⟩
      . rintro ⟨s, hs, e'⟩
        by_cases c : s = t
        . subst c; exact absurd e'.symm e
        . exact ⟨s, by omega, e'⟩
  . have := Jcc (x := x) (r := itr q N i t) (by omega) (bn hg)
    show (sb x _ true).count false < x.count false
    omega
  . have hcl := (hm _ hz).1 (bt hg)
    have hm' : ∀ j : Nat, j < N -> (gb x (j : Int) = true ↔ Cst q N i j) := fun j hj => by
      rw [hm j hj, Qp (by obtain ⟨s, hs, e⟩ := hcl; exact ⟨s, hs, e.symm⟩)]
    refine ⟨fun y z => ∃ j : Nat, z = j /\ j <= N /\ y = AL (Cst q N i) j, fun _ z => ((N : Int) - z).toNat, ⟨0, rfl, by omega, rfl⟩, ?_⟩
    rintro _ _ ⟨j, rfl, hj, rfl⟩
    have hl := Qq (Cst q N i) j
    refine ⟨fun hlt => ⟨fun y => y = AL (Cst q N i) (j + 1), ⟨⟨by omega, by omega⟩, fun hg => ⟨by omega, ?_⟩, fun hg => ?_⟩, ?_⟩, fun hge => ?_⟩
    . rw [YH ((hm' j (by omega)).1 hg)]
    . rw [YI (fun c => by rw [(hm' j (by omega)).2 c] at hg; cases hg)]
    . rintro _ rfl
      exact ⟨Qi (by omega) (by omega), ⟨j + 1, by push_cast; rfl, by omega, rfl⟩, by show ((N : Int) - ((j : Int) + 1)).toNat < ((N : Int) - (j : Int)).toNat; omega⟩
    . have : j = N := by omega
      subst this; exact h
theorem Ja8 {qq n : Int} {Q : LL × Int -> Prop} (h6 : ¬ (2 <= qq /\ qq <= 256 /\ 1 <= n /\ n <= 65536) -> Q ([], 6)) (h10 : 2 <= qq -> qq <= 256 -> 1 <= n -> n <= 65536 -> Int.gcd qq n ≠ 1 -> Q ([], 10))
  (hb : 2 <= qq -> qq <= 256 -> 1 <= n -> n <= 65536 -> Int.gcd qq n = 1 -> n <= 300) (h : ∀ q N : Nat, qq = q -> n = N -> 2 <= q -> q <= 256 -> 1 <= N -> N <= 300 -> Nat.gcd q N = 1 -> Q (CL q N N, 0)) : Qz qq n Q := by
 refine ⟨fun c => h6 (by omega), fun c1 => ⟨fun c => h6 (by omega), fun c2 => ⟨fun c => h6 (by omega), fun c3 => ⟨fun c => h6 (by omega), fun c4 => w_Gcd (by omega) (by omega) (by omega) (by omega) ?_⟩⟩⟩⟩; refine ⟨fun c => absurd rfl c, fun _ => ⟨fun c => h10 (by omega) (by omega) (by omega) (by omega) (by omega), fun c5 => ?_⟩⟩; have hg : Int.gcd qq n = 1 := by omega
 have h300 := hb (by omega) (by omega) (by omega) (by omega) hg; obtain ⟨q, rfl⟩ := Int.eq_ofNat_of_zero_le (show 0 <= qq by omega); obtain ⟨N, rfl⟩ := Int.eq_ofNat_of_zero_le (show 0 <= n by omega); have hc : Nat.gcd q N = 1 := by rwa [Int.gcd_natCast_natCast] at hg
 have hN : 0 < N := by omega
 rw [Int.toNat_natCast]; refine ⟨⟨by omega, by omega, by omega⟩, fun x y z => ∃ i : Nat, z = i /\ i <= N /\ x.length = N /\ y = CL q N i /\ ∀ j : Nat, j < N -> (gb x (j : Int) = true ↔ ∃ k, k < i /\ Cst q N k j), fun _ _ z => ((N : Int) - z).toNat, ⟨0, rfl, by omega, by simp, rfl, fun j hj => ⟨fun c => (by rw [Zx] at c; cases c), fun ⟨s, hs, _⟩ => by omega⟩⟩, ?_⟩; rintro x _ _ ⟨i, rfl, hi, hx, rfl, hm⟩; refine ⟨fun hlt => ?_, fun hge => ?_⟩
 case refine_2 =>
  have : i = N := by omega
  subst this; exact h q i rfl rfl (by omega) (by omega) (by omega) (by omega) hc
 have hiN : i < N := by omega
 have hCL := Jcz (q := q) (n := N) i; refine ⟨fun y x' z b1 b2 => x'.length = N /\ y = CL q N (i + 1) /\ ∀ j : Nat, j < N -> (gb x' (j : Int) = true ↔ ∃ k, k < i + 1 /\ Cst q N k j), ?_, fun y x' z b1 b2 ⟨h1, h2, h3⟩ => ⟨Qi (by omega) (by omega), ⟨i + 1, by push_cast; rfl, hiN, h1, h2, h3⟩, by show ((N : Int) - ((i : Int) + 1)).toNat < ((N : Int) - (i : Int)).toNat; omega⟩⟩; refine ⟨fun x' l z => ∃ t : Nat, z = itr q N i t /\ l.length = t /\ x'.length = N /\ t + x'.count false <= N /\ (∀ v : Int, v ∈ l ↔ ∃ s, s < t /\ v = itr q N i s) /\ l.Nodup /\ (∀ j : Nat, j < N -> (gb x' (j : Int) = true ↔ (∃ k, k < i /\ Cst q N k j) ∨ ∃ s, s < t /\ itr q N i s = j)) /\ (0 < t -> Ldr q N i), fun x' _ _ => x'.count false, ⟨0, rfl, rfl, hx, ?_, fun v => ?_, List.nodup_nil, fun j hj => ?_, fun c => absurd c (by omega)⟩, ?_⟩
 .have := List.count_le_length (a := false) (l := x); omega
 .exact ⟨fun c => absurd c (by simp), fun ⟨s, hs, _⟩ => by omega⟩
 .rw [hm j hj]; exact ⟨fun c => .inl c, fun c => c.elim id fun ⟨s, hs, _⟩ => by omega⟩
 rintro x' l _ ⟨t, rfl, hl, hx', hct, hml, hnd, hm', hL⟩; have hz := J4 (q := q) hN hiN t; refine ⟨⟨by omega, by omega⟩, fun hg' => ?_, fun hg' => ?_⟩
 .have hf := bn hg'; have hcs := Jcc (x := x') (r := itr q N i t) (by omega) hf; refine ⟨⟨by omega, by omega⟩, by omega, Jbz (by omega) (by omega), by omega, ⟨t + 1, Jby _ _ _, by rw [List.length_append, hl]; rfl, by rw [Yt]; exact hx', by omega, fun v => ?_, ?_, fun j hj => ?_, fun _ => ?_⟩, by show (sb x' _ true).count false < x'.count false; omega⟩
  .rw [List.mem_append, hml, List.mem_singleton]; constructor
   .rintro (⟨s, hs, e⟩ | e)
    .exact ⟨s, by omega, e⟩
    .exact ⟨t, by omega, e⟩
   .rintro ⟨s, hs, e⟩; by_cases c : s = t
    .subst c; exact .inr e
    .exact .inl ⟨s, by omega, e⟩
  .refine List.nodup_append.2 ⟨hnd, by simp, fun a ha b hb e => ?_⟩; rw [List.mem_singleton] at hb; subst hb; subst e; obtain ⟨s, hs, e⟩ := (hml _).1 ha; have := (hm' _ hz).2 (.inr ⟨s, hs, by omega⟩); rw [hf] at this; cases this
  .rw [Zw (by omega)]; by_cases e : j = itr q N i t
   .rw [if_pos e]; exact ⟨fun _ => .inr ⟨t, by omega, e.symm⟩, fun _ => rfl⟩
   .rw [if_neg e, hm' j hj]; constructor
    .rintro (c | ⟨s, hs, e⟩)
     .exact .inl c
     .exact .inr ⟨s, by omega, e⟩
    .rintro (c | ⟨s, hs, e'⟩)
     .exact .inl c
     .by_cases c : s = t
      .subst c; exact absurd e'.symm e
      .exact .inr ⟨s, by omega, e'⟩
  .rcases Nat.eq_zero_or_pos t with ht | ht
   .subst ht; intro k hk hr; have := (hm' i hiN).2 (.inl ⟨k, hk, hr⟩); rw [show gb x' (i : Int) = false from hf] at this; cases this
   .exact hL ht
 .have htr := (hm' _ hz).1 (bt hg'); rcases Nat.eq_zero_or_pos t with ht | ht
  .subst ht; have hk : ∃ k, k < i /\ Cst q N k i := htr.elim id fun ⟨s, hs, _⟩ => by omega
   refine ⟨fun c => by omega, fun _ => ⟨hx', ?_, fun j hj => ?_⟩⟩
   .obtain ⟨k, hk, hr⟩ := hk; rw [CL_neg fun c => c k hk hr]
   .rw [hm' j hj]; constructor
    .rintro (⟨k, hk, hr⟩ | ⟨s, hs, _⟩)
     .exact ⟨k, by omega, hr⟩
     .omega
    .rintro ⟨k, hk', hr⟩; by_cases c : k = i
     .subst c; obtain ⟨k', h1, h2⟩ := hk; exact .inl ⟨k', h1, h2.trans hr⟩
     .exact .inl ⟨k, by omega, hr⟩
  .have hM := hL ht; have hcl : ∃ s, s < t /\ itr q N i t = itr q N i s := htr.elim (fun ⟨k, hk, hr⟩ => absurd (hr.trans (Cst.symm hc hN hiN ⟨t, rfl⟩)) (hM k hk)) fun ⟨s, hs, e⟩ => ⟨s, hs, e.symm⟩
   refine ⟨fun _ => ⟨by omega, by omega, hx', ?_, fun j hj => ?_⟩, fun c => absurd (by omega) c⟩
   .rw [CL_pos hM, Jbj hnd (P := Cst q N i) (m := N) fun v => ?_]
    .rfl
    .rw [hml]; constructor
     .rintro ⟨s, hs, e⟩; exact ⟨itr q N i s, J4 hN hiN s, ⟨s, rfl⟩, e⟩
     .rintro ⟨j, hj, hr, e⟩; obtain ⟨s, hs, e'⟩ := (Qp hcl).1 hr; exact ⟨s, hs, by rw [e, e']⟩
   .rw [hm' j hj]; constructor
    .rintro (⟨k, hk, hr⟩ | ⟨s, hs, e⟩)
     .exact ⟨k, by omega, hr⟩
     .exact ⟨i, by omega, ⟨s, e⟩⟩
    .rintro ⟨k, hk', hr⟩; by_cases c : k = i
     .subst c; exact .inr ((Qp hcl).1 hr)
     .exact .inl ⟨k, by omega, hr⟩
end
end Go.Proofs.Ytppkigdakobebaa
namespace Go.Proofs.Ytppkigdakobebaa
open Go.RowKit
end Go.Proofs.Ytppkigdakobebaa
namespace Go.Proofs.Ytppkigdakobebaa
theorem nT {A B : Prop} (h : B) : ((!true) = true -> A) /\ ((!true) = false -> B) := ⟨fun e => absurd e (by decide), fun _ => h⟩
theorem nF {A B : Prop} (h : A) : ((!false) = true -> A) /\ ((!false) = false -> B) := ⟨fun _ => h, fun e => absurd e (by decide)⟩
end Go.Proofs.Ytppkigdakobebaa
namespace Go.Proofs.Ytppkigdakobebaa
namespace FV
variable {P M : Int} {mf : LI} {p m v : Nat} (F : FV P M mf p m v)
include F
theorem p2 : 2 <= p := F.pr.two
theorem pq : p <= p ^ m := by
 have := Jbq (p := p) (by have := F.pr.two; omega) F.m0
 rwa [show p ^ (0 + 1) = p from Nat.pow_one p] at this
theorem p256 : p <= 256 := Nat.le_trans F.pq F.q
end FV
def sh (v : Vec) : Vec := fun i => if i = 0 then 0 else v (i - 1)
structure Od (M : Nat -> Nat -> Nat) (x n : Nat) : Prop where
  pos : 0 < n
  one : pw M x n = 1
  least : ∀ k, 0 < k -> k < n -> pw M x k ≠ 1
end Go.Proofs.Ytppkigdakobebaa
namespace Go.Proofs.Ytppkigdakobebaa
structure GFk (F : GFv) (p m v g : Nat) : Prop where
  fv : FV F.P F.M F.mod p m v
  q : F.q = ((p ^ m : Nat) : Int)
  G : Gn (p ^ m) (Jz p m (dv p v)) g
  el : F.exp.length = 2 * (p ^ m - 1)
  ev : ∀ k, k < 2 * (p ^ m - 1) -> vo F.exp k = ((pw (Jz p m (dv p v)) g k : Nat) : Int)
  ll : F.log.length = p ^ m
  l0 : vo F.log 0 = -1
  lv : ∀ k, k < p ^ m - 1 -> vo F.log (pw (Jz p m (dv p v)) g k) = (k : Int)
  al : F.above.length = p ^ m - 1
  av : ∀ k, k < p ^ m - 1 -> vo F.above k = vo F.log (JR p m (pw (Jz p m (dv p v)) g k) 1)
end Go.Proofs.Ytppkigdakobebaa
namespace Go.Proofs.Ytppkigdakobebaa
def inE (q : Nat) (x : Int) : Nat := if 0 <= x /\ x < q then x.toNat else 0
theorem inE_lt {q : Nat} (hq : 0 < q) (x : Int) : inE q x < q := by unfold inE; split <;> omega
theorem Jdm {q x : Nat} (h : x < q) : inE q (x : Int) = x := by unfold inE; rw [if_pos (by omega)]; rfl
section
variable {P M : Int} {mf : LI} {p m v : Nat}
theorem FV.ord (F : FV P M mf p m v) : YR P M = ((p ^ m : Nat) : Int) := by
 rw [F.eP, F.eM, YR, if_pos]
 .simp
 .have := F.p2; have := F.m0; have := F.q; exact ⟨by omega, by omega, by simpa using this⟩
theorem FV.i64 (F : FV P M mf p m v) : I64 P := by
 have := F.p256; rw [F.eP]; exact Qi (by omega) (by omega)
end
section
variable {P M : Int} {mf : LI} {p m v : Nat}
end
end Go.Proofs.Ytppkigdakobebaa
namespace Go.Proofs.Ytppkigdakobebaa
section
variable {F : GFv} {p m v g : Nat}
theorem mul_neg {p m : Nat} {c : Vec} {x : Nat} (hp : 2 <= p) (hm : 0 < m) (hx : x < p ^ m) : Jz p m c (p - 1) x = Y1 p m x := by
 unfold Jz Y1; have hd : vcg p (dv p (p - 1)) (vsm (-1) e0) := fun i => by
  cases i with
  | zero =>
   rw [Qv, Nat.mod_eq_of_lt (by omega)]; show ((p - 1 : Nat) : Int) % p = (-1 * 1) % p; rw [show ((p - 1 : Nat) : Int) = -1 * 1 + p * 1 by omega, Int.add_mul_emod_self_left]
  | succ i =>
   rw [QQ, Nat.div_eq_of_lt (by omega), Jax]; simp [vz, vsm, e0]
 rw [J3 (vcg.mul (vcg.refl c) hd (vcg.refl _))]; have : JL m c (vsm (-1) e0) (dv p x) = vsm (-1) (dv p x) := by
  show opr m c (dv p x) m (vsm (-1) e0) = _; rw [Jbs, QZ (JS hx)]
 rw [this]
theorem Od.uniq {M : Nat -> Nat -> Nat} {x n k : Nat} (h : Od M x n) (h' : Od M x k) : n = k := by
 rcases Nat.lt_trichotomy n k with h1 | h1 | h1
 .exact absurd h.one (h'.least n h.pos h1)
 .exact h1
 .exact absurd h'.one (h.least k h'.pos h1)
end
end Go.Proofs.Ytppkigdakobebaa
namespace Go.Proofs.Ytppkigdakobebaa
/-! ### the elements of a field, and lists of them as polynomials -/
structure Ks where
  p : Nat
  m : Nat
  v : Nat
  g : Nat
  p2 : 2 <= p
  m0 : 0 < m
  q256 : p ^ m <= 256
  R : CR (p ^ m) (JR p m) (Jz p m (dv p v))
  G : Gn (p ^ m) (Jz p m (dv p v)) g
def Ks.E (k : Ks) : Type := {x : Nat // x < k.p ^ k.m}
instance (k : Ks) : Cr k.E where
  add x y := ⟨JR k.p k.m x.1 y.1, k.R.Al _ _⟩
  mul x y := ⟨Jz k.p k.m (dv k.p k.v) x.1 y.1, k.R.Ml _ _⟩
  neg x := ⟨Y1 k.p k.m x.1, Z6 (by have := k.p2; omega) _⟩
  zero := ⟨0, k.R.pos⟩
  one := ⟨1, k.R.one_lt⟩
  ac x y := Subtype.ext (k.R.Ac _ _)
  aa x y z := Subtype.ext (k.R.Aa x.2 y.2 z.2)
  az x := Subtype.ext (k.R.Az x.2)
  an x := Subtype.ext (Y3 (by have := k.p2; omega) x.2)
  mc x y := Subtype.ext (k.R.Mc x.2 y.2)
  ma x y z := Subtype.ext (k.R.Ma x.2 y.2 z.2)
  m1 x := Subtype.ext (k.R.M1 x.2)
  md x y z := Subtype.ext (k.R.Md x.2 y.2 z.2)
theorem Ks.inv (k : Ks) (x : k.E) (h : x ≠ 0) : ∃ y : k.E, x * y = 1 := by
 have h0 : 0 < x.1 := Nat.pos_of_ne_zero fun e => h (Subtype.ext e); obtain ⟨a, ha, e⟩ := k.G.surj k.R h0 x.2; refine ⟨⟨pw (Jz k.p k.m (dv k.p k.v)) k.g (k.p ^ k.m - 1 - a), k.R.pw_lt _ _⟩, Subtype.ext ?_⟩; show Jz k.p k.m (dv k.p k.v) x.1 _ = 1; rw [<- e, <- k.R.pw_add k.G.lt, show a + (k.p ^ k.m - 1 - a) = k.p ^ k.m - 1 by omega, k.G.one]
instance (k : Ks) : Fd k.E where
  ne := fun h => absurd (congrArg Subtype.val h) (by show ¬ (1 : Nat) = 0; omega)
  inv := k.inv
namespace Ks
variable (k : Ks)
def el (x : Int) : k.E := ⟨inE (k.p ^ k.m) x, inE_lt k.R.pos x⟩
def co (e : k.E) : Int := ((e.1 : Nat) : Int)
variable {k}
theorem co_el {x : Int} (h : 0 <= x /\ x < ((k.p ^ k.m : Nat) : Int)) : k.co (k.el x) = x := by
 show ((inE _ x : Nat) : Int) = x; unfold inE; rw [if_pos h]; omega
theorem Jdp : k.el 0 = 0 := Subtype.ext (Jdm (x := 0) k.R.pos)
variable (k)
def pol (l : LI) : Pl k.E := fun i => k.el (vo l i)
def Ell (l : LI) : Prop := ∀ i, i < l.length -> 0 <= vo l i /\ vo l i < ((k.p ^ k.m : Nat) : Int)
/-- l is the canonical list of f -/
def Rp (l : LI) (f : Pl k.E) : Prop := k.Ell l /\ (0 < l.length -> vo l (l.length - 1) ≠ 0) /\ k.pol l = f
variable {k}
theorem pol_su (l : LI) : Su (k.pol l) l.length := fun i hi => by
 show k.el (vo l i) = 0; rw [vo_hi hi, Jdp]
theorem Rp.su {l : LI} {f : Pl k.E} (h : k.Rp l f) : Su f l.length := by rw [<- h.2.2]; exact pol_su l
theorem Rp.dg {l : LI} {f : Pl k.E} (h : k.Rp l f) (h0 : 0 < l.length) : Dg f (l.length - 1) := by
 refine ⟨fun e => h.2.1 h0 ?_, by rw [show l.length - 1 + 1 = l.length by omega]; exact h.su⟩; rw [<- h.2.2] at e; have h1 := h.1 (l.length - 1) (by omega); have : k.co (k.el (vo l (l.length - 1))) = 0 := by
  show k.co (k.pol l (l.length - 1)) = 0; rw [e]; rfl
 rwa [co_el h1] at this
theorem Rp.at_ {l : LI} {f : Pl k.E} (h : k.Rp l f) {i : Nat} (hi : i < l.length) : vo l i = k.co (f i) := by
 rw [<- h.2.2]; exact (co_el (h.1 i hi)).symm
theorem Rp.len {l : LI} {f : Pl k.E} (h : k.Rp l f) {d : Nat} (hd : Dg f d) : l.length = d + 1 := by
 rcases Nat.eq_zero_or_pos l.length with h0 | h0
 .have := h.su; rw [h0] at this; exact absurd (this.eq0) hd.ne
 .have := (h.dg h0).uniq hd; omega
theorem Rp.uniq {l l' : LI} {f : Pl k.E} (h : k.Rp l f) (h' : k.Rp l' f) : l = l' := by
 have hl : l.length = l'.length := by
  rcases Nat.eq_zero_or_pos l'.length with h0 | h0
  .rcases Nat.eq_zero_or_pos l.length with h1 | h1
   .omega
   .have := h'.len (h.dg h1); omega
  .have := h.len (h'.dg h0); omega
 exact vo_ext hl fun i hi => by rw [h.at_ hi, h'.at_ (by omega)]
variable (k)
open Classical in
/-- the canonical list -/
noncomputable def L (f : Pl k.E) : LI := if h : ∃ l, k.Rp l f then Classical.choose h else []
variable {k}
/-- what Degree answers -/
def DegI (f : Pl k.E) (r : Int) : Prop := (r = -1 /\ f = 0) ∨ ∃ d : Nat, r = d /\ Dg f d
theorem DegI.uniq {f : Pl k.E} {r r' : Int} (h : DegI f r) (h' : DegI f r') : r = r' := by
 rcases h with ⟨h1, h2⟩ | ⟨d, h1, h2⟩ <;> rcases h' with ⟨h3, h4⟩ | ⟨e, h3, h4⟩
 .omega
 .exact absurd h2 h4.ne
 .exact absurd h4 h2.ne
 .have := h2.uniq h4; omega
end Ks
end Go.Proofs.Ytppkigdakobebaa
namespace Go.Proofs.Ytppkigdakobebaa
open Ks
/-! ### the field's operations -/
section
variable {k : Ks} {F : GFv} {P M : Int} {mf : LI}
/-! ### lists that a loop fills -/
def Fill (val : Nat -> Int) (n : Nat) (x : LI) (z : Int) : Prop := ∃ j : Nat, z = j /\ j <= n /\ x.length = n /\ ∀ i, i < j -> vo x i = val i
theorem Jfj (val : Nat -> Int) (n : Nat) : Fill val n (List.replicate n (0 : Int)) 0 := ⟨0, rfl, Nat.zero_le _, List.length_replicate, fun i hi => by omega⟩
theorem Fill.step {val : Nat -> Int} {n j : Nat} {x : LI} (h : Fill val n x j) (hj : j < n) {u : Int} (hu : u = val j) : Fill val n (si x j u) ((j : Int) + 1) := by
 obtain ⟨i, e, h1, h2, h3⟩ := h; obtain rfl : j = i := by omega
 refine ⟨j + 1, by push_cast; rfl, hj, by rw [Jbl, List.length_set, h2], fun i hi => ?_⟩; rw [Jbl, vo_set]; by_cases e2 : j = i
 .subst e2; rw [if_pos ⟨rfl, by omega⟩, hu]
 .rw [if_neg (fun h => e2 h.1)]; exact h3 i (by omega)
end
end Go.Proofs.Ytppkigdakobebaa
namespace Go.Proofs.Ytppkigdakobebaa
open Ks
/-! ### products, quotients, greatest common divisors -/
section
variable {k : Ks} {F : GFv} {P M : Int} {mf : LI}
variable (k) in
def lpm (fs : LL) : Nat -> Pl k.E
  | 0 => 1
  | n + 1 => lpm fs n * k.pol (gl fs n)
end
end Go.Proofs.Ytppkigdakobebaa
namespace Go.Proofs.Ytppkigdakobebaa
open Ks
/-! ### greatest common divisors, values, derivatives, roots -/
section
variable {k : Ks} {F : GFv} {P M : Int} {mf : LI}
/-- what cofactor answers -/
structure Cof (f h d u : Pl k.E) : Prop where
  fu : Fs u
  ex : ∃ v, Fs v /\ d = u * f + v * h
  z0 : h = 0 -> f = 0 -> u = 0
  z1 : h = 0 -> f ≠ 0 -> ∃ c, c ≠ 0 /\ u = ct c
  dg : ∀ b e, Dg h b -> Dg d e -> Su u (b - e)
variable (k) in
def rvs (f : Pl k.E) (n : Nat) : Pl k.E := fun i => if i <= n then f (n - i) else 0
variable (k) in
open Classical in
/-- the roots among the elements below n -/
noncomputable def rts (f : Pl k.E) : Nat -> LI
  | 0 => []
  | n + 1 => if vl_ f (k.el (n : Int)) = 0 then rts f n ++ [(n : Int)] else rts f n
end
end Go.Proofs.Ytppkigdakobebaa
namespace Go.Proofs.Ytppkigdakobebaa
open Ks
/-! ### derivatives, interpolation -/
section
variable {k : Ks} {F : GFv} {P M : Int} {mf : LI}
end
end Go.Proofs.Ytppkigdakobebaa
namespace Go.Proofs.Ytppkigdakobebaa
open Ks
/-! ### the reference's quotients, values; what the laws ask first -/
section
variable {k : Ks} {F : GFv} {P M : Int} {mf : LI}
end
theorem FV.same {P M : Int} {mf : LI} {p m v p' m' v' : Nat} (F : FV P M mf p m v) (F' : FV P M mf p' m' v') : p = p' /\ m = m' /\ v = v' := by
 have h1 := F.eP; have h2 := F'.eP; have h3 := F.eM; have h4 := F'.eM; have e1 : p = p' := by omega
 have e2 : m = m' := by omega
 subst e1; subst e2; refine ⟨rfl, rfl, ?_⟩; have hp := F.p2; rw [<- Yh (p := p) (m := m) (by omega) F.vlt, <- Yh (p := p) (m := m) (by omega) F'.vlt, <- F.vo, <- F'.vo]
end Go.Proofs.Ytppkigdakobebaa
namespace Go.Proofs.Ytppkigdakobebaa
open Go.RowKit
end Go.Proofs.Ytppkigdakobebaa
namespace Go.Proofs.Ytppkigdakobebaa
open Go.RowKit
end Go.Proofs.Ytppkigdakobebaa
namespace Go.Proofs.Ytppkigdakobebaa
open Go.RowKit
end Go.Proofs.Ytppkigdakobebaa
namespace Go.Proofs.Ytppkigdakobebaa
open Go.RowKit
end Go.Proofs.Ytppkigdakobebaa
namespace Go.Proofs.Ytppkigdakobebaa
open Go.RowKit
end Go.Proofs.Ytppkigdakobebaa
namespace Go.Proofs.Ytppkigdakobebaa
open Go.RowKit
end Go.Proofs.Ytppkigdakobebaa
namespace Go.Proofs.Ytppkigdakobebaa
open Go.RowKit
end Go.Proofs.Ytppkigdakobebaa
namespace Go.Proofs.Ytppkigdakobebaa
open Go.RowKit
end Go.Proofs.Ytppkigdakobebaa
namespace Go.Proofs.Ytppkigdakobebaa
open Ks
theorem tT {A B : Prop} (h : A) : (true = true -> A) /\ (true = false -> B) := ⟨fun _ => h, fun e => absurd e (by decide)⟩
theorem tF {A B : Prop} (h : B) : (false = true -> A) /\ (false = false -> B) := ⟨fun e => absurd e (by decide), fun _ => h⟩
section
variable {P M : Int} {mf : LI} {k : Ks} {F : GFv}
open Classical in
/-- the error of a description -/
noncomputable def gck (P M : Int) (mf : LI) (K : Int) (da db : LI) : Int :=
  if ¬ Qx P M mf then 1 else if ¬ (1 <= da.length /\ da.length <= 64) then 4 else if db.length ≠ da.length then 10 else
  if ¬ (∀ x, x ∈ da ∨ x ∈ db -> 0 <= x /\ x < YR P M) then 2 else if ¬ da.Nodup then 18 else if (0 : Int) ∈ db then 7 else if K < 0 ∨ (da.length : Int) < K then 6 else 0
/-- what a description of a code keeps -/
structure GsD (k : Ks) (K : Int) (da db : LI) : Prop where
  n1 : 1 <= da.length
  n64 : da.length <= 64
  len : db.length = da.length
  ea : ∀ x, x ∈ da -> 0 <= x /\ x < ((k.p ^ k.m : Nat) : Int)
  eb : ∀ x, x ∈ db -> 0 <= x /\ x < ((k.p ^ k.m : Nat) : Int)
  nd : da.Nodup
  nz : (0 : Int) ∉ db
  k0 : 0 <= K
  kn : K <= (da.length : Int)
variable {K : Int} {da db : LI}
theorem gck_4 (h : Qx P M mf) (h1 : ¬ (1 <= da.length /\ da.length <= 64)) : gck P M mf K da db = 4 := by unfold gck; rw [if_neg (fun c => c h), if_pos h1]
theorem gck_10 (h : Qx P M mf) (h1 : 1 <= da.length /\ da.length <= 64) (h2 : db.length ≠ da.length) : gck P M mf K da db = 10 := by unfold gck; rw [if_neg (fun c => c h), if_neg (fun c => c h1), if_pos h2]
theorem gck_2 (h : Qx P M mf) (h1 : 1 <= da.length /\ da.length <= 64) (h2 : db.length = da.length) (h3 : ¬ (∀ x, x ∈ da ∨ x ∈ db -> 0 <= x /\ x < YR P M)) : gck P M mf K da db = 2 := by
 unfold gck; rw [if_neg (fun c => c h), if_neg (fun c => c h1), if_neg (fun c => c h2), if_pos h3]
theorem gck_18 (h : Qx P M mf) (h1 : 1 <= da.length /\ da.length <= 64) (h2 : db.length = da.length) (h3 : ∀ x, x ∈ da ∨ x ∈ db -> 0 <= x /\ x < YR P M) (h4 : ¬ da.Nodup) : gck P M mf K da db = 18 := by
 unfold gck; rw [if_neg (fun c => c h), if_neg (fun c => c h1), if_neg (fun c => c h2), if_neg (fun c => c h3), if_pos h4]
theorem gck_7 (h : Qx P M mf) (h1 : 1 <= da.length /\ da.length <= 64) (h2 : db.length = da.length) (h3 : ∀ x, x ∈ da ∨ x ∈ db -> 0 <= x /\ x < YR P M) (h4 : da.Nodup) (h5 : (0 : Int) ∈ db) : gck P M mf K da db = 7 := by
 unfold gck; rw [if_neg (fun c => c h), if_neg (fun c => c h1), if_neg (fun c => c h2), if_neg (fun c => c h3), if_neg (fun c => c h4), if_pos h5]
theorem gck_6 (h : Qx P M mf) (h1 : 1 <= da.length /\ da.length <= 64) (h2 : db.length = da.length) (h3 : ∀ x, x ∈ da ∨ x ∈ db -> 0 <= x /\ x < YR P M) (h4 : da.Nodup) (h5 : (0 : Int) ∉ db) (h6 : K < 0 ∨ (da.length : Int) < K) : gck P M mf K da db = 6 := by
 unfold gck; rw [if_neg (fun c => c h), if_neg (fun c => c h1), if_neg (fun c => c h2), if_neg (fun c => c h3), if_neg (fun c => c h4), if_neg h5, if_pos h6]
theorem GsD.of (hF : FV P M mf k.p k.m k.v) (h : gck P M mf K da db = 0) : GsD k K da db := by
 have hV : Qx P M mf := ⟨_, _, _, hF⟩
 by_cases h1 : 1 <= da.length /\ da.length <= 64
 case neg => rw [gck_4 hV h1] at h; exact absurd h (by decide)
 by_cases h2 : db.length = da.length
 case neg => rw [gck_10 hV h1 h2] at h; exact absurd h (by decide)
 by_cases h3 : ∀ x, x ∈ da ∨ x ∈ db -> 0 <= x /\ x < YR P M
 case neg => rw [gck_2 hV h1 h2 h3] at h; exact absurd h (by decide)
 by_cases h4 : da.Nodup
 case neg => rw [gck_18 hV h1 h2 h3 h4] at h; exact absurd h (by decide)
 by_cases h5 : (0 : Int) ∈ db
 .rw [gck_7 hV h1 h2 h3 h4 h5] at h; exact absurd h (by decide)
 by_cases h6 : K < 0 ∨ (da.length : Int) < K
 .rw [gck_6 hV h1 h2 h3 h4 h5 h6] at h; exact absurd h (by decide)
 rw [hF.ord] at h3; exact ⟨h1.1, h1.2, h2, fun x hx => h3 x (.inl hx), fun x hx => h3 x (.inr hx), h4, h5, by omega, by omega⟩
end
end Go.Proofs.Ytppkigdakobebaa
namespace Go.Proofs.Ytppkigdakobebaa
/-! ### closures -/
theorem Jd5 {q n m k k' : Nat} (hc : Nat.gcd q n = 1) (hn : 0 < n) (hm : m <= n) (hkk : k < k') (hk' : k' < (CL q n m).length) {x : Int} (h : x ∈ gl (CL q n m) k) (h' : x ∈ gl (CL q n m) k') : False := by
  obtain ⟨i, hi, hM, e1, g1⟩ := Zd (q := q) (n := n) (m := m) (k := k) (by omega)
  obtain ⟨i', hi', hM', e1', g1'⟩ := Zd (q := q) (n := n) (m := m) (k := k') hk'
  rw [g1] at h; rw [g1'] at h'
  obtain ⟨j, hj, hr, e⟩ := JF.1 h
  obtain ⟨j', hj', hr', e'⟩ := JF.1 h'
  have : j = j' := by omega
  subst this
  have : i = i' := Ldr.uniq hc hn (by omega) (by omega) hM hM' (hr.trans (hr'.symm hc hn (by omega)))
  subst this
  have hl : (CL q n m).length = (AL (Ldr q n) m).length := by unfold CL; rw [List.length_map]
  have hp := List.pairwise_iff_getElem.1 (ZH (Ldr q n) m) k k' (by omega) (by omega) hkk
  unfold gi at e1 e1'
  rw [Int.toNat_natCast, List.getD_eq_getElem?_getD, List.getElem?_eq_getElem (by omega)] at e1 e1'
  have h1 : (AL (Ldr q n) m)[k] = i := e1
  have h2 : (AL (Ldr q n) m)[k'] = i := e1'
  omega
theorem YL {l : LI} {z : List Bool} {Q : Bool -> Prop} (hl : l.length <= 1000000000) (hb : ∀ v ∈ l, 0 <= v /\ v < (z.length : Nat)) (h1 : (∃ v ∈ l, gb z v = true) -> Q true) (h0 : (∀ v ∈ l, gb z v = false) -> Q false) : J1 l (fun xc Qc => J2 xc z Qc) Q := by
 refine ⟨fun z' => ∃ k : Nat, z' = k /\ k <= l.length /\ ∀ j : Nat, j < k -> gb z (gi l j) = false, fun z' => ((l.length : Nat) - z' : Int).toNat, ⟨0, rfl, Nat.zero_le _, fun j hj => by omega⟩, ?_⟩; rintro _ ⟨k, rfl, hk, hv⟩; refine ⟨fun hlt => ?_, fun hge => ?_⟩
 .have hm : gi l k ∈ l := JX.2 ⟨k, by omega, hlt, rfl⟩; refine ⟨⟨by omega, by omega⟩, hb _ hm, fun hb' => ?_, fun hb' => ⟨Qi (by omega) (by omega), ⟨k + 1, by push_cast; rfl, by omega, fun j hj => ?_⟩, by show ((l.length : Nat) - ((k : Int) + 1) : Int).toNat < ((l.length : Nat) - (k : Int) : Int).toNat; omega⟩⟩
  .show Q (decide ((0 : Int) <= (k : Int))); rw [decide_eq_true (by omega)]; exact h1 ⟨_, hm, hb'⟩
  .by_cases e : j = k
   .subst e; exact hb'
   .exact hv j (by omega)
 .show Q (decide ((0 : Int) <= -1)); rw [decide_eq_false (by omega)]; refine h0 fun v hv' => ?_; obtain ⟨j, h0', h1', e⟩ := JX.1 hv'; obtain ⟨j, rfl⟩ := Int.eq_ofNat_of_zero_le h0'; rw [<- e]; exact hv j (by omega)
/-- the members of the closure -/
def Cm (q N : Nat) (y : LI) (j : Nat) : Prop := ∃ e, e ∈ y /\ Cst q N (e % (N : Int)).toNat j
theorem Jah {qq n : Int} {y : LI} {Q : LI × Int -> Prop} (hy : y.length <= 1000) (h6 : ¬ (2 <= qq /\ qq <= 256) -> Q ([], 6)) (h4 : 2 <= qq -> qq <= 256 -> ¬ (1 <= n /\ n <= 64) -> Q ([], 4)) (h10 : 2 <= qq -> qq <= 256 -> 1 <= n -> n <= 64 -> Int.gcd qq n ≠ 1 -> Q ([], 10))
  (h : ∀ q N : Nat, qq = q -> n = N -> 2 <= q -> q <= 256 -> 1 <= N -> N <= 64 -> Nat.gcd q N = 1 -> Q (AL (Cm q N y) N, 0)) : JN qq n y Q := by
 refine ⟨fun c => h6 (by omega), fun c1 => ⟨fun c => h6 (by omega), fun c2 => Zg ?_⟩⟩; by_cases hn : 1 <= n /\ n <= 64
 case neg => rw [decide_eq_false hn]; exact nF (h4 (by omega) (by omega) hn)
 rw [decide_eq_true hn]; refine nT (Ja8 (fun c => by omega) (fun _ _ _ _ hg => ?_) (fun _ _ _ _ _ => by omega) fun q N eq en q2 q256 n1 n300 hc => ?_)
 .exact ⟨fun _ => h10 (by omega) (by omega) (by omega) (by omega) hg, fun c => absurd (by decide) c⟩
 have n64 : N <= 64 := by omega
 have hN : 0 < N := by omega
 refine ⟨fun c => absurd rfl c, fun _ => Ja7 (by omega) (by omega) hy fun z hz => ?_⟩; obtain ⟨hzl, hz⟩ := hz; have hzl : z.length = N := by omega
 have hz' : ∀ j : Nat, j < N -> (gb z (j : Int) = true ↔ ∃ e, e ∈ y /\ (e % (N : Int)).toNat = j) := fun j hj => by
  rw [hz j (by omega) (by omega), en]; unfold PZ; refine ⟨fun ⟨e, he, h⟩ => ⟨e, he, ?_⟩, fun ⟨e, he, h⟩ => ⟨e, he, ?_⟩⟩
  .rw [h, Int.emod_eq_of_lt (by omega) (by omega)]; rfl
  .have := Z7 (x := e) (n := (N : Int)) (by omega); rw [Int.emod_eq_of_lt (show (0 : Int) <= j by omega) (by omega)]; omega
 have hCL := Jcz (q := q) (n := N) N; have hin : ∀ k : Nat, k < (CL q N N).length -> ∀ v, v ∈ gl (CL q N N) k -> ∃ j : Nat, j < N /\ v = j := fun k hk v hv => by
  obtain ⟨i, _, _, _, g1⟩ := Zd hk; rw [g1] at hv; obtain ⟨j, hj, _, e⟩ := JF.1 hv; exact ⟨j, hj, e⟩
 have hgl : ∀ k : Nat, k < (CL q N N).length -> (gl (CL q N N) k).length <= 64 /\ (gl (CL q N N) k).Nodup := fun k hk => by
  obtain ⟨i, _, _, _, g1⟩ := Zd hk; rw [g1]; exact ⟨by have := Qq (Cst q N i) N; unfold orb; omega, Jaz (ZH _ _)⟩
 let Got : Nat -> LI -> Prop := fun k l => l.length <= k * 64 /\ l.Nodup /\ ∀ v, v ∈ l ↔ ∃ k' : Nat, k' < k /\ v ∈ gl (CL q N N) k' /\ ∃ m, m ∈ gl (CL q N N) k' /\ gb z m = true
 refine ⟨fun l z => ∃ k : Nat, z = k /\ k <= (CL q N N).length /\ Got k l, fun _ z => (((CL q N N).length : Nat) - z : Int).toNat, ⟨0, rfl, Nat.zero_le _, by simp, List.nodup_nil, fun v => ⟨fun c => absurd c (by simp), fun ⟨s, hs, _⟩ => by omega⟩⟩, ?_⟩; rintro l _ ⟨k, rfl, hk, hll, hnd, hml⟩; refine ⟨fun hlt => ?_, fun hge => ?_⟩
 .have hk' : k < (CL q N N).length := by omega
  obtain ⟨hg1, hg2⟩ := hgl k hk'; refine ⟨fun l' b => Got (k + 1) l', ⟨⟨by omega, hlt⟩, YL (by omega) (fun v hv => ?_) (fun hx => tT ⟨by omega, ?_⟩) fun hx => tF ?_⟩, fun l' b hG => ⟨Qi (by omega) (by omega), ⟨k + 1, by push_cast; rfl, by omega, hG⟩, by show (((CL q N N).length : Nat) - ((k : Int) + 1) : Int).toNat < (((CL q N N).length : Nat) - (k : Int) : Int).toNat; omega⟩⟩
  .obtain ⟨j, hj, e⟩ := hin k hk' v hv; omega
  .refine ⟨by rw [List.length_append]; omega, List.nodup_append.2 ⟨hnd, hg2, fun a ha b hb e => ?_⟩, fun v => ?_⟩
   .subst e; obtain ⟨k', hkk, hv, _⟩ := (hml _).1 ha; exact Jd5 hc hN (Nat.le_refl _) hkk hk' hv hb
   .rw [List.mem_append, hml]; constructor
    .rintro (⟨k', h1, h2⟩ | h)
     .exact ⟨k', by omega, h2⟩
     .obtain ⟨m, hm, hg⟩ := hx; exact ⟨k, by omega, h, m, hm, hg⟩
    .rintro ⟨k', h1, h2, h3⟩; by_cases c : k' = k
     .subst c; exact .inr h2
     .exact .inl ⟨k', by omega, h2, h3⟩
  .refine ⟨by omega, hnd, fun v => ?_⟩; rw [hml]; constructor
   .rintro ⟨k', h1, h2⟩; exact ⟨k', by omega, h2⟩
   .rintro ⟨k', h1, h2, m, hm, hg⟩; by_cases c : k' = k
    .subst c; rw [hx m hm] at hg; cases hg
    .exact ⟨k', by omega, h2, m, hm, hg⟩
 .have : k = (CL q N N).length := by omega
  subst this; refine ⟨by omega, ?_⟩; rw [Jbj hnd (P := Cm q N y) (m := N) fun v => ?_]
  .exact h q N eq en q2 q256 n1 n64 hc
  rw [hml]; constructor
  .rintro ⟨k', h1, h2, m, hm, hg⟩; obtain ⟨i, hi, hM, _, g1⟩ := Zd h1; rw [g1] at h2 hm; obtain ⟨j, hj, hr, e⟩ := JF.1 h2; obtain ⟨m', hm', hr', rfl⟩ := JF.1 hm; obtain ⟨x, hx, ex⟩ := (hz' m' hm').1 hg; exact ⟨j, hj, ⟨x, hx, by rw [ex]; exact (hr'.symm hc hN hi).trans hr⟩, e⟩
  .rintro ⟨j, hj, ⟨x, hx, hr⟩, rfl⟩; have hb := Z7 (x := x) (n := (N : Int)) (by omega); have hmN : (x % (N : Int)).toNat < N := by omega
   obtain ⟨i, hi, hM, hr'⟩ := Ldr.ex hc hN hmN; obtain ⟨k, hk, g1⟩ := CL_of (q := q) (n := N) (m := N) (show i < N by omega) hM; refine ⟨k, hk, ?_, (((x % (N : Int)).toNat : Nat) : Int), ?_, (hz' _ hmN).2 ⟨x, hx, rfl⟩⟩
   .rw [g1]; exact JF.2 ⟨j, hj, hr'.trans hr, rfl⟩
   .rw [g1]; exact JF.2 ⟨_, hmN, hr', rfl⟩
theorem Jn {qq n : Int} {Q : Int -> Prop} (h6 : ¬ (2 <= qq /\ qq <= 256) -> Q 6) (h4 : 2 <= qq -> qq <= 256 -> ¬ (1 <= n /\ n <= 64) -> Q 4) (h10 : 2 <= qq -> qq <= 256 -> 1 <= n -> n <= 64 -> Int.gcd qq n ≠ 1 -> Q 10) (h0 : 2 <= qq -> qq <= 256 -> 1 <= n -> n <= 64 -> Int.gcd qq n = 1 -> Q 0) : Ji qq n Q := by
 refine ⟨fun c => h6 (by omega), fun c1 => ⟨fun c => h6 (by omega), fun c2 => ⟨fun c => h4 (by omega) (by omega) (by omega), fun c3 => ⟨fun c => h4 (by omega) (by omega) (by omega), fun c4 => ?_⟩⟩⟩⟩; obtain ⟨q, rfl⟩ := Int.eq_ofNat_of_zero_le (show 0 <= qq by omega); obtain ⟨N, rfl⟩ := Int.eq_ofNat_of_zero_le (show 0 <= n by omega); refine Jag ?_; rw [Int.gcd_natCast_natCast] at h10 h0; exact ⟨fun c => h10 (by omega) (by omega) (by omega) (by omega) (by omega), fun c => h0 (by omega) (by omega) (by omega) (by omega) (by omega)⟩
theorem Zf {q N : Nat} {y : LI} {Q : LI -> Prop} (hy : y.length <= 1000) (hq : q <= 256) (hN : 1 <= N) (h64 : N <= 64) (h : Q (AL (Cm q N y) N)) : JA q N y Q := by
 unfold JA; rw [Int.toNat_natCast]; refine ⟨⟨by omega, by omega, by omega⟩, fun x z => ∃ k : Nat, z = k /\ k <= y.length /\ x.length = N /\ ∀ j : Nat, j < N -> (gb x (j : Int) = true ↔ ∃ k' : Nat, k' < k /\ Cst q N (gi y k' % (N : Int)).toNat j), fun _ z => ((y.length : Nat) - z : Int).toNat, ⟨0, rfl, Nat.zero_le _, by simp, fun j hj => ⟨fun c => (by rw [Zx] at c; cases c), fun ⟨s, hs, _⟩ => by omega⟩⟩, ?_⟩; rintro x _ ⟨k, rfl, hk, hx, hm⟩; refine ⟨fun hlt => ⟨⟨by omega, hlt⟩, w_rMod (by omega) (by omega) ?_⟩, fun hge => ?_⟩
 .have hb := Z7 (x := gi y k) (n := (N : Int)) (by omega); obtain ⟨i, ei⟩ := Int.eq_ofNat_of_zero_le hb.1; rw [show gi y k % (N : Int) = (i : Int) from ei]; have hi : i < N := by omega
  refine Ja6 hi (by omega) hq ?_; have hol := Qq (Cst q N i) N; have hol' : (orb q N i).length <= N := hol; refine ⟨fun x' z => ∃ t : Nat, z = t /\ t <= (orb q N i).length /\ x'.length = N /\ ∀ j : Nat, j < N -> (gb x' (j : Int) = true ↔ gb x (j : Int) = true ∨ ∃ s : Nat, s < t /\ gi (orb q N i) s = j), fun _ z => (((orb q N i).length : Nat) - z : Int).toNat, ⟨0, rfl, Nat.zero_le _, hx, fun j hj => ⟨fun c => .inl c, fun c => c.elim id fun ⟨s, hs, _⟩ => by omega⟩⟩, ?_⟩; rintro x' _ ⟨t, rfl, ht, hx', hm'⟩; refine ⟨fun hlt2 => ?_, fun hge2 => ?_⟩
  .have hmem : gi (orb q N i) t ∈ orb q N i := JX.2 ⟨t, by omega, hlt2, rfl⟩; obtain ⟨m, hmN, hr, em⟩ := JF.1 hmem; rw [em]; refine ⟨⟨by omega, hlt2⟩, ⟨by omega, by omega⟩, Qi (by omega) (by omega), ⟨t + 1, by push_cast; rfl, by omega, by rw [Yt]; exact hx', fun j hj => ?_⟩, by show (((orb q N i).length : Nat) - ((t : Int) + 1) : Int).toNat < (((orb q N i).length : Nat) - (t : Int) : Int).toNat; omega⟩; rw [Zw (by omega)]; by_cases e : j = m
   .rw [if_pos e]; exact ⟨fun _ => .inr ⟨t, by omega, by rw [em, e]⟩, fun _ => rfl⟩
   .rw [if_neg e, hm' j hj]; constructor
    .rintro (c | ⟨s, hs, e'⟩)
     .exact .inl c
     .exact .inr ⟨s, by omega, e'⟩
    .rintro (c | ⟨s, hs, e'⟩)
     .exact .inl c
     .by_cases c : s = t
      .subst c; rw [em] at e'; omega
      .exact .inr ⟨s, by omega, e'⟩
  .refine ⟨Qi (by omega) (by omega), ⟨k + 1, by push_cast; rfl, by omega, hx', fun j hj => ?_⟩, by show ((y.length : Nat) - ((k : Int) + 1) : Int).toNat < ((y.length : Nat) - (k : Int) : Int).toNat; omega⟩; rw [hm' j hj, hm j hj]; have hi' : (gi y (k : Int) % (N : Int)).toNat = i := by omega
   constructor
   .rintro (⟨k', h1, h2⟩ | ⟨s, hs, e⟩)
    .exact ⟨k', by omega, h2⟩
    .refine ⟨k, by omega, ?_⟩; rw [hi']; have : gi (orb q N i) s ∈ orb q N i := JX.2 ⟨s, by omega, by omega, rfl⟩; obtain ⟨m, _, hr, em⟩ := JF.1 this; have : m = j := by omega
     subst this; exact hr
   .rintro ⟨k', h1, h2⟩; by_cases c : k' = k
    .subst c; rw [hi'] at h2; obtain ⟨s, hs0, hs1, e⟩ := JX.1 (JF.2 ⟨j, hj, h2, rfl⟩); obtain ⟨s, rfl⟩ := Int.eq_ofNat_of_zero_le hs0; exact .inr ⟨s, by omega, e⟩
    .exact .inl ⟨k', by omega, h2⟩
 .have hk' : k = y.length := by omega
  have hm2 : ∀ j : Nat, j < N -> (gb x (j : Int) = true ↔ Cm q N y j) := fun j hj => by
   rw [hm j hj]; constructor
   .rintro ⟨k', h1, h2⟩; exact ⟨_, JX.2 ⟨k', by omega, by omega, rfl⟩, h2⟩
   .rintro ⟨e, he, h2⟩; obtain ⟨s, hs0, hs1, e'⟩ := JX.1 he; obtain ⟨s, rfl⟩ := Int.eq_ofNat_of_zero_le hs0; exact ⟨s, by omega, by rw [show gi y (s : Int) = e from e']; exact h2⟩
  refine ⟨fun l z => ∃ j : Nat, z = j /\ j <= N /\ l = AL (Cm q N y) j, fun _ z => ((N : Int) - z).toNat, ⟨0, rfl, by omega, rfl⟩, ?_⟩; rintro _ _ ⟨j, rfl, hj, rfl⟩; have hl := Qq (Cm q N y) j; refine ⟨fun hlt => ⟨fun l => l = AL (Cm q N y) (j + 1), ⟨⟨by omega, by omega⟩, fun hg => ⟨by omega, ?_⟩, fun hg => ?_⟩, ?_⟩, fun hge2 => ?_⟩
  .rw [YH ((hm2 j (by omega)).1 hg)]
  .rw [YI (fun c => by rw [(hm2 j (by omega)).2 c] at hg; cases hg)]
  .rintro _ rfl; exact ⟨Qi (by omega) (by omega), ⟨j + 1, by push_cast; rfl, by omega, rfl⟩, by show ((N : Int) - ((j : Int) + 1)).toNat < ((N : Int) - (j : Int)).toNat; omega⟩
  .have : j = N := by omega
   subst this; exact h
theorem Ja5 {l : LI} {Q : Bool -> Prop} (hl : l.length <= 1000000) (h : Q true) : JU l l Q := by
 refine ⟨fun c => absurd rfl c, fun _ => ⟨fun z => 0 <= z, fun z => ((l.length : Nat) - z : Int).toNat, by omega, fun z hz => ⟨fun hlt => ⟨⟨hz, hlt⟩, ⟨hz, hlt⟩, fun c => absurd rfl c, fun _ => ⟨Qi (by omega) (by omega), by omega, by show ((l.length : Nat) - (z + 1) : Int).toNat < ((l.length : Nat) - z : Int).toNat; omega⟩⟩, fun _ => h⟩⟩⟩
theorem QL (qq n : Int) (y : LI) : Qb qq n y (fun b => b = true) := by
 have one : ∀ {A B : Prop} {a : Int}, A -> ((a = a -> A) /\ (¬ (a = a) -> B)) := fun h => ⟨fun _ => h, fun c => absurd rfl c⟩
 have nz : ∀ {A B : Prop} {a : Int}, a ≠ 0 -> A -> ((a ≠ 0 -> A) /\ (¬ (a ≠ 0) -> B)) := fun h a => ⟨fun _ => a, fun c => absurd h c⟩
 have body : y.length <= 200 -> JN qq n y (fun q => match q with | (x37, r41) => Ji qq n (fun r43 => ((r43 ≠ (0 : Int)) -> (Ji qq n (fun r46 => ((r41 = r46) -> ((decide ((x37.length : Int) = (0 : Int))) = true)) /\ (¬ (r41 = r46) -> false = true)))) /\ (¬ (r43 ≠ (0 : Int)) -> (((r41 = (0 : Int)) -> (JA qq n y (fun x50 => JU x37 x50 (fun r55 => r55 = true)))) /\ (¬ (r41 = (0 : Int)) -> false = true))))) := fun hy => by
  refine Jah (by omega) (fun hn => ?_) (fun h1 h2 hn => ?_) (fun h1 h2 h3 h4 hn => ?_) fun q N eq en q2 q256 n1 n64 hc => ?_
  .exact Jn (fun _ => nz (by decide) (Jn (fun _ => one (decide_eq_true rfl)) (fun a b _ => absurd ⟨a, b⟩ hn) (fun a b _ _ _ => absurd ⟨a, b⟩ hn) (fun a b _ _ _ => absurd ⟨a, b⟩ hn))) (fun a b _ => absurd ⟨a, b⟩ hn) (fun a b _ _ _ => absurd ⟨a, b⟩ hn) (fun a b _ _ _ => absurd ⟨a, b⟩ hn)
  .exact Jn (fun c => absurd ⟨h1, h2⟩ c) (fun _ _ _ => nz (by decide) (Jn (fun c => absurd ⟨h1, h2⟩ c) (fun _ _ _ => one (decide_eq_true rfl)) (fun _ _ a b _ => absurd ⟨a, b⟩ hn) (fun _ _ a b _ => absurd ⟨a, b⟩ hn))) (fun _ _ a b _ => absurd ⟨a, b⟩ hn) (fun _ _ a b _ => absurd ⟨a, b⟩ hn)
  .exact Jn (fun c => absurd ⟨h1, h2⟩ c) (fun _ _ c => absurd ⟨h3, h4⟩ c) (fun _ _ _ _ _ => nz (by decide) (Jn (fun c => absurd ⟨h1, h2⟩ c) (fun _ _ c => absurd ⟨h3, h4⟩ c) (fun _ _ _ _ _ => one (decide_eq_true rfl)) (fun _ _ _ _ c => absurd c hn))) (fun _ _ _ _ c => absurd c hn)
  .subst eq; subst en; have hg : Int.gcd (q : Int) (N : Int) = 1 := by rw [Int.gcd_natCast_natCast]; exact hc
   have hl := Qq (Cm q N y) N; exact Jn (fun c => absurd ⟨by omega, by omega⟩ c) (fun _ _ c => absurd ⟨by omega, by omega⟩ c) (fun _ _ _ _ c => absurd hg c) (fun _ _ _ _ _ => ⟨fun c => absurd rfl c, fun _ => one (Zf (by omega) q256 n1 n64 (Ja5 (by omega) rfl))⟩)
 refine ⟨fun _ => rfl, fun hy => ⟨fun hn => Jn (fun _ => ?_) (fun _ _ _ => ?_) (fun _ _ _ c _ => ?_) (fun _ _ _ c _ => ?_), fun _ => body (by omega)⟩⟩
 .exact ⟨fun _ => rfl, fun _ => body (by omega)⟩
 .exact ⟨fun _ => rfl, fun _ => body (by omega)⟩
 .exact ⟨fun _ => rfl, fun _ => body (by omega)⟩
 .exact ⟨fun _ => rfl, fun _ => body (by omega)⟩
end Go.Proofs.Ytppkigdakobebaa
