/- Contracts of functions of the program, and what they lean on: D9, D10, D12, Pure, Ru, B1, B2. -/
import Derived.Test.YtppkigdakobebaaBchChecksG2
set_option linter.unusedSimpArgs false
set_option linter.unusedVariables false
set_option maxRecDepth 4000
set_option maxHeartbeats 4000000
namespace Go.Proofs.Ytppkigdakobebaa
open Go.RowKit
def Qj (a : Int) (b : Int) (Q : Int -> Prop) : Prop :=
  ∃ (I17 : Int -> Int -> Prop) (μ18 : Int -> Int -> Nat), I17 a b /\ ∀ (z15 : Int) (z16 : Int), (I17 z15 z16 -> ((((0 : Int) < z16) -> ((z16 ≠ 0) /\ (I17 z16 (z15.tmod z16) /\ μ18 z16 (z15.tmod z16) < μ18 z15 z16))) /\ (¬ ((0 : Int) < z16) -> Q z15)))
theorem Y2 {w : World} {Q : Int -> Prop} {a : Int} {b : Int}  (hv : Qj a b Q) :
   Calls Try.prog 51 #[.int .i64 a, .int .i64 b] w <| Rt w fun v Qr => ∃ (r0 : Int), v = .int .i64 r0 /\ Qr = [] /\ Q r0 := by
 refine Jh <| Ji (vs := [nI a, nI b]) [4] XF51 rfl rfl rfl rfl ?_; have hS := Jn w; unfold Qj at hv; refine Jd 5 <| W.block ?_; obtain ⟨I17, μ18, hv, hk29⟩ := hv; refine JK (σ := Int × Int) (fun q w1 => match q with | (z15, z16) => I17 z15 z16 /\ St TT w none w1 []) (fun (z15, z16) => [(0, nI z15), (1, nI z16), (4, nI 0)]) (fun (z15, z16) => μ18 z15 z16) (a, b) ⟨hv, hS⟩ ⟨rfl, rfl, rfl, trivial⟩ ?_; rintro ⟨z15, z16⟩ w19 ⟨hv, hS⟩; have hv := hk29 z15 z16 hv; refine Jd 6 <| Jk rfl (fun c20 => ?_) (fun c20 => ?_)
 .have hv := hv.1 (oT c20); refine Jl <| W.block ?_; obtain ⟨o25, hv⟩ := hv; refine JV 6 [⟨[], [1], true⟩, ⟨[], [0], true⟩, ⟨[], [1], true⟩, ⟨[1, 2], [], true⟩, ⟨[0], [], true⟩, ⟨[3], [], true⟩] [(7, nI z16), (8, nI z15), (9, nI z16), (10, nI (z15.tmod z16)), (0, nI z16), (1, nI (z15.tmod z16))] Try.mixed (by kernel_rfl) rfl rfl ?_ ?_
  .refine ⟨oD, oD, oD, fun _ _ _ => Q2 (r := (z15.tmod z16)) rfl rfl o25 rfl rfl <| Ja ⟨rfl, rfl⟩, oD, oD, trivial⟩
  intro w28 hT; have hS := hS.grow hT; refine Q3 ?_; exact ⟨(z16, (z15.tmod z16)), sp rfl, hv.2, rfl, hv.1, hS⟩
 have hv := hv.2 (oF c20); refine JL <| Jd 5 <| W.ret <| ⟨_, rfl, Fin.nil ?_⟩
 exact (hS.pick [] rfl).fin rfl ⟨z15, rfl, rfl, hv⟩
def JT (a : Int) (b : Int) (Q : Int -> Prop) : Prop :=
  ((a = 0) -> Q b) /\ (¬ (a = 0) -> (Qj a b (fun r13 => Q r13)))
theorem J3 {w : World} {Q : Int -> Prop} {a : Int} {b : Int}  (hv : JT a b Q) :
   Calls Try.prog 27 #[.int .i64 a, .int .i64 b] w <| Rt w fun v Qr => ∃ (r0 : Int), v = .int .i64 r0 /\ Qr = [] /\ Q r0 := by
 refine Jh <| Ji (vs := [nI a, nI b]) [4] YP rfl rfl rfl rfl ?_; have hS := Jn w; unfold JT at hv; refine Jd 10 <| Jk rfl (fun c11 => ?_) (fun c11 => ?_)
 .have hv := hv.1 (oT c11); refine Jd 5 <| W.ret <| ⟨_, rfl, Fin.nil ?_⟩
  exact (hS.pick [] rfl).fin rfl ⟨b, rfl, rfl, hv⟩
 have hv := hv.2 (oF c11); refine Jl <| Jd 4 <| SL.call hS (Y2  hv) XF51 rfl XN51 rfl rfl ?_; rintro _ _ w12 ⟨r13, rfl, rfl, hv⟩ hGw12 hS; have hS := hS.n0; refine Jc 2 <| W.ret <| ⟨_, rfl, Fin.nil ?_⟩
 exact (hS.pick [] rfl).fin rfl ⟨r13, rfl, rfl, hv⟩
def Jz (a : Int) (b : Int) (Q : Int -> Prop) : Prop :=
  (b ≠ 0) /\ ((I64 ((a.tmod b) + b)) /\ ((b ≠ 0) /\ (Q (((a.tmod b) + b).tmod b))))
theorem JF {w : World} {Q : Int -> Prop} {a : Int} {b : Int}  (hv : Jz a b Q) :
  Calls Try.prog 28 #[.int .i64 a, .int .i64 b] w <| Rt w fun v Qr => ∃ (r0 : Int), v = .int .i64 r0 /\ Qr = [] /\ Q r0 := by
 refine Jh <| Ji (vs := [nI a, nI b]) [4] QL rfl rfl rfl rfl ?_; have hS := Jn w; unfold Jz at hv; refine Jd 8 ?_; obtain ⟨o11, hv⟩ := hv; refine Q2 (r := (a.tmod b)) rfl rfl o11 rfl rfl <| Jf rfl rfl ?_; obtain ⟨o12, hv⟩ := hv; refine WL.add (r := ((a.tmod b) + b)) rfl rfl (wr o12) rfl <| Jf rfl rfl ?_; obtain ⟨o13, hv⟩ := hv; refine Q2 (r := (((a.tmod b) + b).tmod b)) rfl rfl o13 rfl rfl <| Jc 2 <| W.ret <| ⟨_, rfl, Fin.nil ?_⟩
 exact (hS.pick [] rfl).fin rfl ⟨(((a.tmod b) + b).tmod b), rfl, rfl, hv⟩
def JC (n : Int) (l : LI) (Q : LI -> Prop) : Prop :=
  ∃ (I26 : LI -> Int -> Prop) (μ27 : LI -> Int -> Nat), I26 ([] : LI) (0 : Int) /\ ∀ (x21 : LI) (z25 : Int), (I26 x21 z25 -> (((z25 < (l.length : Int)) -> ((0 <= z25 /\ z25 < (l.length : Nat)) /\ (Jz (gi l z25) n (fun r32 => (((x21.length : Nat) + (1 : Nat) : Int) * 8 <= 140737488355328) /\ ((I64 (z25 + 1)) /\ (I26 (x21 ++ ([r32] : LI)) (z25 + 1) /\ μ27 (x21 ++ ([r32] : LI)) (z25 + 1) < μ27 x21 z25)))))) /\ (¬ (z25 < (l.length : Int)) -> Q x21)))
theorem J9 {w : World} {Q : LI -> Prop} {n : Int} {l : LI} {Bl : Nat} {Al : Option Addr} {nl kl : Nat} (hl : Rd Bl w 1 Al nl kl (is l)) (hv : JC n l Q) :
  Calls Try.prog 63 #[.int .i64 n, .slice Al nl kl] w <| Rt w fun v Qr => ∃ (x : LI)  (A : Option Addr) (c : Nat), v = .slice A x.length c /\ Qr = [.row 3 1 A x.length c (is x)] /\ Q x := by
 have hnl := hl.ilen; subst hnl; refine Jh <| Ji (vs := [nI n, nS Al l kl]) [4] XF63 rfl rfl rfl rfl ?_; have hS := Jn w; unfold JC at hv; refine Jd 13 <| W.block ?_; obtain ⟨I26, μ27, hv, hk41⟩ := hv; have hS := hS.nil (e := 3) (z := 1); have hm0 : 0 = ([] : LI).length := (hS.rd (i := 0) rfl).ilen.symm; have hS := hS.relen (i := 0) rfl hm0
 change St _ _ _ _ [_] at hS
 refine JK (σ := LI × Int × Option Addr × Nat) (fun q w1 => match q with | (x21, z25, A22, k23) => I26 x21 z25 /\ St TT w none w1 [nR 3 A22 x21 k23]) (fun (x21, z25, A22, k23) => [(0, nI n), (1, nS Al l kl), (4, .slice none 0 0), (5, nS A22 x21 k23), (6, nI z25)]) (fun (x21, z25, A22, k23) => μ27 x21 z25) (([] : LI), (0 : Int), none, 0) ⟨hv, hS⟩ ⟨rfl, rfl, rfl, (sm (by first | rfl | assumption | omega)), rfl, trivial⟩ ?_; rintro ⟨x21, z25, A22, k23⟩ w28 ⟨hv, hS⟩; have hv := hk41 x21 z25 hv; refine Jd 5 <| WL.len Yt rfl rfl <| Jc 2 <| Jk rfl (fun c29 => ?_) (fun c29 => ?_)
 .have hv := hv.1 (oT c29); refine Jl <| JP <| W.block <| Jd 4 ?_; obtain ⟨o30, hv⟩ := hv; refine Qf Yt XE3 (hS.ro hl) rfl rfl o30 rfl <| Qt XU3 rfl rfl (Jar (hS.ro hl) o30) rfl <| Jf rfl rfl <| SL.call hS (JF  hv) QL rfl Q1 rfl rfl ?_; rintro _ _ w31 ⟨r32, rfl, rfl, hv⟩ hGw31 hS; have hS := hS.n0; refine Jbv (vs := is ([r32] : LI)) hS Yt XE3 rfl rfl rfl rfl (Z1 _) rfl ?_; intro A33 w34 hS; obtain ⟨o36, hv⟩ := hv; refine SL.append (cs := is x21) (cs' := is ([r32] : LI)) 1 ((x21 ++ ([r32] : LI)).length) (is (x21 ++ ([r32] : LI))) hS rfl Yt XE3 (hS.rd (i := 0) rfl) (Z1 _) rfl rfl (apk o36).1 (apk o36).2 (is_ap (hS.rd (i := 1) rfl) (hS.rd (i := 0) rfl)) (ZG _ _) rfl ?_; intro A37 k38 w39 hS; refine Jc 2 <| Jd 2 ?_; obtain ⟨o40, hv⟩ := hv; refine WL.add (r := (z25 + 1)) rfl rfl (wr o40) rfl <| Jc 2 ?_; have hS := hS.pick [1] rfl; exact ⟨(x21 ++ ([r32] : LI), (z25 + 1), A37, k38), sp rfl, hv.2, rfl, hv.1, hS⟩
 have hv := hv.2 (oF c29); refine JL <| Jd 5 <| W.ret <| ⟨_, rfl, Fin.nil ?_⟩
 exact (hS.pick [0] rfl).fin rfl ⟨x21, A22, k23, rfl, rfl, hv⟩
def Q6 (l : LI) (x : Int) (Q : Bool -> Prop) : Prop :=
  ∃ (I14 : Int -> Prop) (μ15 : Int -> Nat), I14 0 /\ ∀ (z13 : Int), (I14 z13 -> (((z13 < (l.length : Int)) -> ((0 <= z13 /\ z13 < (l.length : Nat)) /\ ((((gi l z13) = x) -> Q true) /\ (¬ ((gi l z13) = x) -> ((I64 (z13 + 1)) /\ (I14 (z13 + 1) /\ μ15 (z13 + 1) < μ15 z13)))))) /\ (¬ (z13 < (l.length : Int)) -> Q false)))
theorem Y3 {w : World} {Q : Bool -> Prop} {l : LI} {x : Int} {Bl : Nat} {Al : Option Addr} {nl kl : Nat} (hl : Rd Bl w 1 Al nl kl (is l)) (hv : Q6 l x Q) :
   Calls Try.prog 64 #[.slice Al nl kl, .int .i64 x] w <| Rt w fun v Qr => ∃ (r0 : Bool), v = .bool r0 /\ Qr = [] /\ Q r0 := by
 have hnl := hl.ilen; subst hnl; refine Jh <| Ji (vs := [nS Al l kl, nI x]) [4] XF64 rfl rfl rfl rfl ?_; have hS := Jn w; unfold Q6 at hv; refine Jd 9 <| W.block ?_; obtain ⟨I14, μ15, hv, hk21⟩ := hv; refine JK (σ := Int) (fun z13 w1 => I14 z13 /\ St TT w none w1 []) (fun z13 => [(0, nS Al l kl), (1, nI x), (4, .bool false), (5, nI z13)]) (fun z13 => μ15 z13) (0 : Int) ⟨hv, hS⟩ ⟨rfl, rfl, rfl, rfl, trivial⟩ ?_; rintro z13 w16 ⟨hv, hS⟩; have hv := hk21 z13 hv; refine Jd 5 <| WL.len Yt rfl rfl <| Jc 2 <| Jk rfl (fun c17 => ?_) (fun c17 => ?_)
 .have hv := hv.1 (oT c17); refine Jl <| JP <| W.block <| Jd 4 ?_; obtain ⟨o18, hv⟩ := hv; refine Qf Yt XE3 (hS.ro hl) rfl rfl o18 rfl <| Qt XU3 rfl rfl (Jar (hS.ro hl) o18) rfl <| Jc 3 <| Jk rfl (fun c19 => ?_) (fun c19 => ?_)
  .have hv := hv.1 (oT c19); refine Jd 4 <| W.ret <| ⟨_, rfl, Fin.nil ?_⟩
   exact (hS.pick [] rfl).fin rfl ⟨true, rfl, rfl, hv⟩
  have hv := hv.2 (oF c19); refine Jl <| Jd 2 ?_; obtain ⟨o20, hv⟩ := hv; refine WL.add (r := (z13 + 1)) rfl rfl (wr o20) rfl <| Jc 2 ?_; exact ⟨(z13 + 1), sp rfl, hv.2, rfl, hv.1, hS⟩
 have hv := hv.2 (oF c17); refine JL <| Jd 4 <| W.ret <| ⟨_, rfl, Fin.nil ?_⟩
 exact (hS.pick [] rfl).fin rfl ⟨false, rfl, rfl, hv⟩
def QF (x : Int) (Q : Bool -> Prop) : Prop :=
  (((-2147483648 : Int) <= x) -> (Q (decide (x <= 2147483648)))) /\ (¬ ((-2147483648 : Int) <= x) -> Q false)
theorem Yo {w : World} {Q : Bool -> Prop} {x : Int}  (hv : QF x Q) :
   Calls Try.prog 104 #[.int .i64 x] w <| Rt w fun v Qr => ∃ (r0 : Bool), v = .bool r0 /\ Qr = [] /\ Q r0 := by
 refine Jh <| Ji (vs := [nI x]) [2] Zu rfl rfl rfl rfl ?_; have hS := Jn w; unfold QF at hv; refine Jd 8 <| Jf rfl rfl ?_; by_cases g11 : (-2147483648 : Int) <= x
 .have hv := hv.1 g11; rw [decide_eq_true g11]; refine Jc 7 <| W.ret <| ⟨_, rfl, Fin.nil ?_⟩
  exact (hS.pick [] rfl).fin rfl ⟨(decide (x <= 2147483648)), rfl, rfl, hv⟩
 have hv := hv.2 g11; rw [decide_eq_false g11]; refine Jc 5 <| W.ret <| ⟨_, rfl, Fin.nil ?_⟩
 exact (hS.pick [] rfl).fin rfl ⟨false, rfl, rfl, hv⟩
def JR (n : Int) (r0 : Int) (r1 : Int) (r2 : Int) (r3 : Int) (r4 : Int) (Q : Int -> Prop) : Prop :=
  ((n < 1) -> (Q 4)) /\ (¬ (n < 1) -> ((((64 : Int) < n) -> (Q 4)) /\ (¬ ((64 : Int) < n) -> (QF r0 (fun r16 => (((!r16) = true) -> (Q 6)) /\ ((!r16) = false -> (QF r1 (fun r19 => (((!r19) = true) -> (Q 6)) /\ ((!r19) = false -> (QF r3 (fun r22 => (((!r22) = true) -> (Q 6)) /\ ((!r22) = false -> (((r2 < 1) -> (Q 6)) /\ (¬ (r2 < 1) -> (((n < r2) -> (Q 6)) /\ (¬ (n < r2) -> (((r4 < 0) -> (Q 6)) /\ (¬ (r4 < 0) -> (((n < r4) -> (Q 6)) /\ (¬ (n < r4) -> (Q 0)))))))))))))))))))))
theorem Q9 {w : World} {Q : Int -> Prop} {n : Int} {r0 : Int} {r1 : Int} {r2 : Int} {r3 : Int} {r4 : Int}  (hv : JR n r0 r1 r2 r3 r4 Q) :
   Calls Try.prog 62 #[.int .i64 n, .agg #[.int .i64 r0, .int .i64 r1, .int .i64 r2, .int .i64 r3, .int .i64 r4]] w <| Rt w fun v Qr => ∃ (r0 : Int), v = .int .i64 r0 /\ Qr = [] /\ Q r0 := by
 refine Jh <| Ji (vs := [nI n, .agg #[nI r0, nI r1, nI r2, nI r3, nI r4]]) [4] XF62 rfl rfl rfl rfl ?_; have hS := Jn w; unfold JR at hv; refine Jd 2 <| QG (z := 5) (cs := [nI r0, nI r1, nI r2, nI r3, nI r4]) hS rfl rfl rfl rfl ?_; intro g11 w12 hS; refine Jc 2 <| Jd 5 <| Jf rfl rfl ?_; by_cases g13 : n < 1
 .have hv := hv.1 g13; rw [decide_eq_true g13]; refine Jc 4 <| Jq rfl <| Jd 4 <| W.ret <| ⟨_, rfl, Fin.nil ?_⟩
  exact (hS.pick [] rfl).fin rfl ⟨(4 : Int), rfl, rfl, hv⟩
 have hv := hv.2 g13; rw [decide_eq_false g13]; refine Jc 6 <| Jk rfl (fun c14 => ?_) (fun c14 => ?_)
 .have hv := hv.1 (oT c14); refine Jd 4 <| W.ret <| ⟨_, rfl, Fin.nil ?_⟩
  exact (hS.pick [] rfl).fin rfl ⟨(4 : Int), rfl, rfl, hv⟩
 have hv := hv.2 (oF c14); refine Jl <| Jd 3 <| Jb (off := 0) QD rfl rfl <| Je 0 0 XU3 hS rfl rfl rfl ⟨rfl, rfl⟩ <| SL.call hS (Yo  hv) Zu rfl Jad rfl rfl ?_; rintro _ _ w15 ⟨r16, rfl, rfl, hv⟩ hGw15 hS; have hS := hS.n0; refine Yw rfl rfl <| Jf rfl rfl ?_; rcases g17 : (!r16) with _ | _
 .have hv := hv.2 g17; refine WL.take rfl <| Jb (off := 1) Jy rfl rfl <| WL.take rfl <| Je 0 1 XU3 hS rfl rfl rfl ⟨rfl, rfl⟩ <| WL.take rfl <| SL.call hS (Yo  hv) Zu rfl Jad rfl rfl ?_; rintro _ _ w18 ⟨r19, rfl, rfl, hv⟩ hGw18 hS; have hS := hS.n0; refine Jc 3 <| Jf rfl rfl ?_; rcases g20 : (!r19) with _ | _
  .have hv := hv.2 g20; refine WL.take rfl <| Jb (off := 3) JW rfl rfl <| WL.take rfl <| Je 0 3 XU3 hS rfl rfl rfl ⟨rfl, rfl⟩ <| WL.take rfl <| SL.call hS (Yo  hv) Zu rfl Jad rfl rfl ?_; rintro _ _ w21 ⟨r22, rfl, rfl, hv⟩ hGw21 hS; have hS := hS.n0; refine Jc 3 <| Jf rfl rfl ?_; rcases g23 : (!r22) with _ | _
   .have hv := hv.2 g23; refine WL.take rfl <| Jb (off := 2) Jw rfl rfl <| WL.take rfl <| Je 0 2 XU3 hS rfl rfl rfl ⟨rfl, rfl⟩ <| Jc 3 <| Jf rfl rfl ?_; by_cases g24 : r2 < 1
    .have hv := hv.1 g24; rw [decide_eq_true g24]; refine Jc 17 <| Jq rfl <| Jd 4 <| W.ret <| ⟨_, rfl, Fin.nil ?_⟩
     exact (hS.pick [] rfl).fin rfl ⟨(6 : Int), rfl, rfl, hv⟩
    have hv := hv.2 g24; rw [decide_eq_false g24]; refine WL.take rfl <| Jb (off := 2) Jw rfl rfl <| WL.take rfl <| Je 0 2 XU3 hS rfl rfl rfl ⟨rfl, rfl⟩ <| Jc 5 <| Jf rfl rfl ?_; by_cases g25 : n < r2
    .have hv := hv.1 g25; rw [decide_eq_true g25]; refine Jc 11 <| Jq rfl <| Jd 4 <| W.ret <| ⟨_, rfl, Fin.nil ?_⟩
     exact (hS.pick [] rfl).fin rfl ⟨(6 : Int), rfl, rfl, hv⟩
    have hv := hv.2 g25; rw [decide_eq_false g25]; refine WL.take rfl <| Jb (off := 4) Jr rfl rfl <| WL.take rfl <| Je 0 4 XU3 hS rfl rfl rfl ⟨rfl, rfl⟩ <| Jc 3 <| Jf rfl rfl ?_; by_cases g26 : r4 < 0
    .have hv := hv.1 g26; rw [decide_eq_true g26]; refine Jc 6 <| Jq rfl <| Jd 4 <| W.ret <| ⟨_, rfl, Fin.nil ?_⟩
     exact (hS.pick [] rfl).fin rfl ⟨(6 : Int), rfl, rfl, hv⟩
    have hv := hv.2 g26; rw [decide_eq_false g26]; refine WL.take rfl <| Jb (off := 4) Jr rfl rfl <| WL.take rfl <| Je 0 4 XU3 hS rfl rfl rfl ⟨rfl, rfl⟩ <| Jc 6 <| Jk rfl (fun c27 => ?_) (fun c27 => ?_)
    .have hv := hv.1 (oT c27); refine Jd 4 <| W.ret <| ⟨_, rfl, Fin.nil ?_⟩
     exact (hS.pick [] rfl).fin rfl ⟨(6 : Int), rfl, rfl, hv⟩
    have hv := hv.2 (oF c27); refine Jl <| Jd 4 <| W.ret <| ⟨_, rfl, Fin.nil ?_⟩
    exact (hS.pick [] rfl).fin rfl ⟨(0 : Int), rfl, rfl, hv⟩
   have hv := hv.1 g23; refine Jc 22 <| Jq rfl <| Jd 4 <| W.ret <| ⟨_, rfl, Fin.nil ?_⟩
   exact (hS.pick [] rfl).fin rfl ⟨(6 : Int), rfl, rfl, hv⟩
  have hv := hv.1 g20; refine Jc 28 <| Jq rfl <| Jd 4 <| W.ret <| ⟨_, rfl, Fin.nil ?_⟩
  exact (hS.pick [] rfl).fin rfl ⟨(6 : Int), rfl, rfl, hv⟩
 have hv := hv.1 g17; refine Jc 34 <| Jq rfl <| Jd 4 <| W.ret <| ⟨_, rfl, Fin.nil ?_⟩
 exact (hS.pick [] rfl).fin rfl ⟨(6 : Int), rfl, rfl, hv⟩
def Qi (n : Int) (z : LI) (r0 : Int) (r1 : Int) (r2 : Int) (r3 : Int) (r4 : Int) (Q : Int × Int -> Prop) : Prop :=
  JR n r0 r1 r2 r3 r4 (fun r14 => ((r14 ≠ 0) -> (Q ((0 : Int), r14))) /\ (¬ (r14 ≠ 0) -> ((∃ (r20 : Int), Jz r1 n (fun q => q = r20) /\ (∃ (r25 : Int), JT r20 n (fun q => q = r25) /\ ((r25 ≠ 1) /\ (Q ((0 : Int), (13 : Int)))))) ∨ ((((0 : Int) < r4) -> (∃ (r52 : Int), Jz r1 n (fun q => q = r52) /\ (∃ (r57 : Int), JT r52 n (fun q => q = r57) /\ ((¬ (r57 ≠ 1)) /\ (∃ (r71 : Int), Jz r3 n (fun q => q = r71) /\ (∃ (r76 : Int), JT r71 n (fun q => q = r76) /\ ((r2 < r76) /\ (Q ((0 : Int), (13 : Int)))))))))) /\ (¬ ((0 : Int) < r4) -> (∃ (r90 : Int), Jz r1 n (fun q => q = r90) /\ (∃ (r95 : Int), JT r90 n (fun q => q = r95) /\ ((¬ (r95 ≠ 1)) /\ (JC n z (fun x118 => ∃ (I125 : Int -> Prop) (μ126 : Int -> Nat), I125 0 /\ ∀ (z124 : Int), (I125 z124 -> (((z124 < r2) -> (∃ (I132 : Int -> Prop) (μ133 : Int -> Nat), I132 0 /\ ∀ (z131 : Int), (I132 z131 -> (((z131 <= r4) -> ((I64 (z124 * r1)) /\ ((I64 (r0 + (z124 * r1))) /\ ((I64 (z131 * r3)) /\ ((I64 ((r0 + (z124 * r1)) + (z131 * r3))) /\ (Jz ((r0 + (z124 * r1)) + (z131 * r3)) n (fun r141 => Q6 x118 r141 (fun r143 => (((!r143) = true) -> (Q ((0 : Int), (13 : Int)))) /\ ((!r143) = false -> ((I64 (z131 + 1)) /\ (I132 (z131 + 1) /\ μ133 (z131 + 1) < μ133 z131))))))))))) /\ (¬ (z131 <= r4) -> ((I64 (z124 + 1)) /\ (I125 (z124 + 1) /\ μ126 (z124 + 1) < μ126 z124))))))) /\ (¬ (z124 < r2) -> ((I64 (r2 + 1)) /\ ((I64 ((r2 + 1) + r4)) /\ (Q (((r2 + 1) + r4), (0 : Int))))))))))))))) ∨ ((((0 : Int) < r4) -> (∃ (r156 : Int), Jz r1 n (fun q => q = r156) /\ (∃ (r161 : Int), JT r156 n (fun q => q = r161) /\ ((¬ (r161 ≠ 1)) /\ (∃ (r175 : Int), Jz r3 n (fun q => q = r175) /\ (∃ (r180 : Int), JT r175 n (fun q => q = r180) /\ ((¬ (r2 < r180)) /\ (JC n z (fun x191 => ∃ (I198 : Int -> Prop) (μ199 : Int -> Nat), I198 0 /\ ∀ (z197 : Int), (I198 z197 -> (((z197 < r2) -> (∃ (I205 : Int -> Prop) (μ206 : Int -> Nat), I205 0 /\ ∀ (z204 : Int), (I205 z204 -> (((z204 <= r4) -> ((I64 (z197 * r1)) /\ ((I64 (r0 + (z197 * r1))) /\ ((I64 (z204 * r3)) /\ ((I64 ((r0 + (z197 * r1)) + (z204 * r3))) /\ (Jz ((r0 + (z197 * r1)) + (z204 * r3)) n (fun r214 => Q6 x191 r214 (fun r216 => (((!r216) = true) -> (Q ((0 : Int), (13 : Int)))) /\ ((!r216) = false -> ((I64 (z204 + 1)) /\ (I205 (z204 + 1) /\ μ206 (z204 + 1) < μ206 z204))))))))))) /\ (¬ (z204 <= r4) -> ((I64 (z197 + 1)) /\ (I198 (z197 + 1) /\ μ199 (z197 + 1) < μ199 z197))))))) /\ (¬ (z197 < r2) -> ((I64 (r2 + 1)) /\ ((I64 ((r2 + 1) + r4)) /\ (Q (((r2 + 1) + r4), (0 : Int))))))))))))))))) /\ (¬ ((0 : Int) < r4) -> (∃ (r228 : Int), Jz r1 n (fun q => q = r228) /\ (∃ (r233 : Int), JT r228 n (fun q => q = r233) /\ ((¬ (r233 ≠ 1)) /\ (JC n z (fun x256 => ∃ (I263 : Int -> Prop) (μ264 : Int -> Nat), I263 0 /\ ∀ (z262 : Int), (I263 z262 -> (((z262 < r2) -> (∃ (I270 : Int -> Prop) (μ271 : Int -> Nat), I270 0 /\ ∀ (z269 : Int), (I270 z269 -> (((z269 <= r4) -> ((I64 (z262 * r1)) /\ ((I64 (r0 + (z262 * r1))) /\ ((I64 (z269 * r3)) /\ ((I64 ((r0 + (z262 * r1)) + (z269 * r3))) /\ (Jz ((r0 + (z262 * r1)) + (z269 * r3)) n (fun r279 => Q6 x256 r279 (fun r281 => (((!r281) = true) -> (Q ((0 : Int), (13 : Int)))) /\ ((!r281) = false -> ((I64 (z269 + 1)) /\ (I270 (z269 + 1) /\ μ271 (z269 + 1) < μ271 z269))))))))))) /\ (¬ (z269 <= r4) -> ((I64 (z262 + 1)) /\ (I263 (z262 + 1) /\ μ264 (z262 + 1) < μ264 z262))))))) /\ (¬ (z262 < r2) -> ((I64 (r2 + 1)) /\ ((I64 ((r2 + 1) + r4)) /\ (Q (((r2 + 1) + r4), (0 : Int))))))))))))))))))
theorem Y1 {w : World} {Q : Int × Int -> Prop} {n : Int} {z : LI} {r0 : Int} {r1 : Int} {r2 : Int} {r3 : Int} {r4 : Int} {Bz : Nat} {Az : Option Addr} {nz kz : Nat} (hz : Rd Bz w 1 Az nz kz (is z)) (hv : Qi n z r0 r1 r2 r3 r4 Q) :
   Calls Try.prog 23 #[.int .i64 n, .slice Az nz kz, .agg #[.int .i64 r0, .int .i64 r1, .int .i64 r2, .int .i64 r3, .int .i64 r4]] w <| Rt w fun v Qr => ∃ (r0 : Int) (r1 : Int), v = .tuple #[.int .i64 r0, .int .i64 r1] /\ Qr = [] /\ Q (r0, r1) := by
 have hnz := hz.ilen; subst hnz; refine Jh <| Ji (vs := [nI n, nS Az z kz, .agg #[nI r0, nI r1, nI r2, nI r3, nI r4]]) [6, 7] XF23 rfl rfl rfl rfl ?_; have hS := Jn w; unfold Qi at hv; refine Jd 2 <| QG (z := 5) (cs := [nI r0, nI r1, nI r2, nI r3, nI r4]) hS rfl rfl rfl rfl ?_; intro g11 w12 hS; refine Jc 3 <| Jd 3 <| Qw 0 Yv Yu hS rfl ⟨rfl, rfl⟩ rfl <| SL.call hS (Q9  hv) XF62 rfl XN62 rfl rfl ?_; rintro _ _ w13 ⟨r14, rfl, rfl, hv⟩ hGw13 hS; have hS := hS.n0; refine Jc 2 <| Jd 6 <| Jk rfl (fun c15 => ?_) (fun c15 => ?_)
 .have hv := hv.1 (oT c15); refine Jd 6 <| W.ret <| ⟨_, rfl, Fin.nil ?_⟩
  exact (hS.pick [] rfl).fin rfl ⟨(0 : Int), r14, rfl, rfl, hv⟩
 have hv := hv.2 (oF c15); refine Jl <| JP <| JP ?_; rcases hv with hv | hv | hv
 .obtain ⟨r20, o22, hv⟩ := hv; obtain ⟨r25, o27, hv⟩ := hv; obtain ⟨o29, hv⟩ := hv; refine JV 23 [⟨[], [5], true⟩, ⟨[0], [], false⟩, ⟨[], [0], true⟩, ⟨[1, 2], [], false⟩, ⟨[], [0], true⟩, ⟨[3, 4], [], false⟩, ⟨[5], [], true⟩, ⟨[6], [], true⟩, ⟨[7], [5], true⟩, ⟨[7, 8], [], false⟩, ⟨[7, 9], [], true⟩, ⟨[7, 10], [], true⟩, ⟨[11], [5], true⟩, ⟨[11, 12], [], false⟩, ⟨[11], [0], true⟩, ⟨[11, 13, 14], [], false⟩, ⟨[11], [0], true⟩, ⟨[11, 15, 16], [], false⟩, ⟨[11], [5], true⟩, ⟨[11, 18], [], false⟩, ⟨[11, 17, 19], [], true⟩, ⟨[7, 11, 20], [], true⟩, ⟨[7, 21], [], true⟩] [(18, .pointer (some ((⟨g11, 0, none⟩ : Addr).add 1))), (19, nI r1), (20, nI n), (21, nI r20), (22, nI n), (23, nI r25), (24, .bool true), (25, .bool true), (26, undef), (27, undef), (28, undef), (29, undef), (30, undef), (31, undef), (32, undef), (33, undef), (34, undef), (35, undef), (36, undef), (37, undef), (38, undef), (39, undef), (40, .bool true)] Try.mixed (by kernel_rfl) rfl rfl ?_ ?_
  . refine ⟨fun _ _ _ => Jb (off := 1) Jy rfl rfl <| Ja ⟨rfl, rfl⟩, og hS fun _ _ hS => Je 0 1 XU3 hS rfl rfl rfl ⟨rfl, rfl⟩ <| Ja ⟨rfl, Jg _⟩, oD, ?_, oD, ?_, ?_, oD, oD, oD, oD, oD, oD, oD, oD, oD, oD, oD, oD, oD, oD, oD, oD, trivial⟩
    .intro w19 hE RR; refine WL.call QL rfl Q1 rfl rfl (Jj (JF  o22)) ?_; rintro _ w21 ⟨_, hGw21, hRww21, hNww21, r20q, rfl, rfl, he⟩; subst he; exact Ja ⟨rfl, hGw21⟩
    .intro w24 hE RR; refine WL.call YP rfl Zb rfl rfl (Jj (J3  o27)) ?_; rintro _ w26 ⟨_, hGw26, hRww26, hNww26, r25q, rfl, rfl, he⟩; subst he; exact Ja ⟨rfl, hGw26⟩
    intro w28 hE RR; refine JH rfl rfl rfl ?_; rw [decide_eq_true o29]; exact Ja ⟨rfl, rfl⟩
  intro w46 hT; have hS := hS.grow hT; refine Q3 <| Jq rfl <| Jd 5 <| W.ret <| ⟨_, rfl, Fin.nil ?_⟩
  exact (hS.pick [] rfl).fin rfl ⟨(0 : Int), (13 : Int), rfl, rfl, hv⟩
 .by_cases g47 : (0 : Int) < r4
  .have hv := hv.1 g47; obtain ⟨r52, o54, hv⟩ := hv; obtain ⟨r57, o59, hv⟩ := hv; obtain ⟨o61, hv⟩ := hv; obtain ⟨r71, o73, hv⟩ := hv; obtain ⟨r76, o78, hv⟩ := hv; obtain ⟨o82, hv⟩ := hv; refine JV 23 [⟨[], [5], true⟩, ⟨[0], [], false⟩, ⟨[], [0], true⟩, ⟨[1, 2], [], false⟩, ⟨[], [0], true⟩, ⟨[3, 4], [], false⟩, ⟨[5], [], true⟩, ⟨[6], [], true⟩, ⟨[7], [5], true⟩, ⟨[7, 8], [], false⟩, ⟨[7, 9], [], true⟩, ⟨[7, 10], [], true⟩, ⟨[11], [5], true⟩, ⟨[11, 12], [], false⟩, ⟨[11], [0], true⟩, ⟨[11, 13, 14], [], false⟩, ⟨[11], [0], true⟩, ⟨[11, 15, 16], [], false⟩, ⟨[11], [5], true⟩, ⟨[11, 18], [], false⟩, ⟨[11, 17, 19], [], true⟩, ⟨[7, 11, 20], [], true⟩, ⟨[7, 21], [], true⟩] [(18, .pointer (some ((⟨g11, 0, none⟩ : Addr).add 1))), (19, nI r1), (20, nI n), (21, nI r52), (22, nI n), (23, nI r57), (24, .bool false), (25, .bool false), (26, .pointer (some ((⟨g11, 0, none⟩ : Addr).add 4))), (27, nI r4), (28, .bool true), (29, .bool true), (30, .pointer (some ((⟨g11, 0, none⟩ : Addr).add 3))), (31, nI r3), (32, nI n), (33, nI r71), (34, nI n), (35, nI r76), (36, .pointer (some ((⟨g11, 0, none⟩ : Addr).add 2))), (37, nI r2), (38, .bool true), (39, .bool true), (40, .bool true)] Try.mixed (by kernel_rfl) rfl rfl ?_ ?_
   . refine ⟨fun _ _ _ => Jb (off := 1) Jy rfl rfl <| Ja ⟨rfl, rfl⟩, og hS fun _ _ hS => Je 0 1 XU3 hS rfl rfl rfl ⟨rfl, rfl⟩ <| Ja ⟨rfl, Jg _⟩, oD, ?_, oD, ?_, ?_, oD, fun _ _ _ => WL.take rfl <| Jb (off := 4) Jr rfl rfl <| Ja ⟨rfl, rfl⟩, og hS fun _ _ hS => WL.take rfl <| Je 0 4 XU3 hS rfl rfl rfl ⟨rfl, rfl⟩ <| Ja ⟨rfl, Jg _⟩, ?_, oD, fun _ _ _ => WL.take rfl <| Jb (off := 3) JW rfl rfl <| Ja ⟨rfl, rfl⟩, og hS fun _ _ hS => WL.take rfl <| Je 0 3 XU3 hS rfl rfl rfl ⟨rfl, rfl⟩ <| Ja ⟨rfl, Jg _⟩, oD, ?_, oD, ?_, fun _ _ _ => WL.take rfl <| Jb (off := 2) Jw rfl rfl <| Ja ⟨rfl, rfl⟩, og hS fun _ _ hS => WL.take rfl <| Je 0 2 XU3 hS rfl rfl rfl ⟨rfl, rfl⟩ <| Ja ⟨rfl, Jg _⟩, ?_, oD, oD, trivial⟩
     .intro w51 hE RR; refine WL.call QL rfl Q1 rfl rfl (Jj (JF  o54)) ?_; rintro _ w53 ⟨_, hGw53, hRww53, hNww53, r52q, rfl, rfl, he⟩; subst he; exact Ja ⟨rfl, hGw53⟩
     .intro w56 hE RR; refine WL.call YP rfl Zb rfl rfl (Jj (J3  o59)) ?_; rintro _ w58 ⟨_, hGw58, hRww58, hNww58, r57q, rfl, rfl, he⟩; subst he; exact Ja ⟨rfl, hGw58⟩
     .intro w60 hE RR; refine JH rfl rfl rfl ?_; rw [decide_eq_false o61]; exact Ja ⟨rfl, rfl⟩
     .intro w65 hE RR; refine WL.take rfl <| Jv rfl rfl rfl ?_; rw [decide_eq_true g47]; exact Ja ⟨rfl, rfl⟩
     .intro w70 hE RR; refine WL.take rfl <| WL.call QL rfl Q1 rfl rfl (Jj (JF  o73)) ?_; rintro _ w72 ⟨_, hGw72, hRww72, hNww72, r71q, rfl, rfl, he⟩; subst he; exact Ja ⟨rfl, hGw72⟩
     .intro w75 hE RR; refine WL.take rfl <| WL.call YP rfl Zb rfl rfl (Jj (J3  o78)) ?_; rintro _ w77 ⟨_, hGw77, hRww77, hNww77, r76q, rfl, rfl, he⟩; subst he; exact Ja ⟨rfl, hGw77⟩
     intro w81 hE RR; refine WL.take rfl <| Jv rfl rfl rfl ?_; rw [decide_eq_true o82]; exact Ja ⟨rfl, rfl⟩
   intro w85 hT; have hS := hS.grow hT; refine Q3 <| Jq rfl <| Jd 5 <| W.ret <| ⟨_, rfl, Fin.nil ?_⟩
   exact (hS.pick [] rfl).fin rfl ⟨(0 : Int), (13 : Int), rfl, rfl, hv⟩
  have hv := hv.2 g47; obtain ⟨r90, o92, hv⟩ := hv; obtain ⟨r95, o97, hv⟩ := hv; obtain ⟨o99, hv⟩ := hv; refine JV 23 [⟨[], [5], true⟩, ⟨[0], [], false⟩, ⟨[], [0], true⟩, ⟨[1, 2], [], false⟩, ⟨[], [0], true⟩, ⟨[3, 4], [], false⟩, ⟨[5], [], true⟩, ⟨[6], [], true⟩, ⟨[7], [5], true⟩, ⟨[7, 8], [], false⟩, ⟨[7, 9], [], true⟩, ⟨[7, 10], [], true⟩, ⟨[11], [5], true⟩, ⟨[11, 12], [], false⟩, ⟨[11], [0], true⟩, ⟨[11, 13, 14], [], false⟩, ⟨[11], [0], true⟩, ⟨[11, 15, 16], [], false⟩, ⟨[11], [5], true⟩, ⟨[11, 18], [], false⟩, ⟨[11, 17, 19], [], true⟩, ⟨[7, 11, 20], [], true⟩, ⟨[7, 21], [], true⟩] [(18, .pointer (some ((⟨g11, 0, none⟩ : Addr).add 1))), (19, nI r1), (20, nI n), (21, nI r90), (22, nI n), (23, nI r95), (24, .bool false), (25, .bool false), (26, .pointer (some ((⟨g11, 0, none⟩ : Addr).add 4))), (27, nI r4), (28, .bool false), (29, .bool false), (30, undef), (31, undef), (32, undef), (33, undef), (34, undef), (35, undef), (36, undef), (37, undef), (38, undef), (39, .bool false), (40, .bool false)] Try.mixed (by kernel_rfl) rfl rfl ?_ ?_
  . refine ⟨fun _ _ _ => Jb (off := 1) Jy rfl rfl <| Ja ⟨rfl, rfl⟩, og hS fun _ _ hS => Je 0 1 XU3 hS rfl rfl rfl ⟨rfl, rfl⟩ <| Ja ⟨rfl, Jg _⟩, oD, ?_, oD, ?_, ?_, oD, fun _ _ _ => WL.take rfl <| Jb (off := 4) Jr rfl rfl <| Ja ⟨rfl, rfl⟩, og hS fun _ _ hS => WL.take rfl <| Je 0 4 XU3 hS rfl rfl rfl ⟨rfl, rfl⟩ <| Ja ⟨rfl, Jg _⟩, ?_, oD, oD, oD, oD, oD, oD, oD, oD, oD, oD, oD, oD, trivial⟩
    .intro w89 hE RR; refine WL.call QL rfl Q1 rfl rfl (Jj (JF  o92)) ?_; rintro _ w91 ⟨_, hGw91, hRww91, hNww91, r90q, rfl, rfl, he⟩; subst he; exact Ja ⟨rfl, hGw91⟩
    .intro w94 hE RR; refine WL.call YP rfl Zb rfl rfl (Jj (J3  o97)) ?_; rintro _ w96 ⟨_, hGw96, hRww96, hNww96, r95q, rfl, rfl, he⟩; subst he; exact Ja ⟨rfl, hGw96⟩
    .intro w98 hE RR; refine JH rfl rfl rfl ?_; rw [decide_eq_false o99]; exact Ja ⟨rfl, rfl⟩
    intro w103 hE RR; refine WL.take rfl <| Jv rfl rfl rfl ?_; rw [decide_eq_false g47]; exact Ja ⟨rfl, rfl⟩
  intro w116 hT; have hS := hS.grow hT; refine Q3 <| Yx rfl <| Jl <| Jd 4 <| SL.call hS (J9 (hS.ro hz) hv) XF63 rfl XN63 rfl rfl ?_; rintro _ _ w117 ⟨x118, A119, k120, rfl, rfl, hv⟩ hGw117 hS; have hS := hS.n1; refine Jc 2 <| Jd 5 <| W.block ?_; obtain ⟨I125, μ126, hv, hk150⟩ := hv; refine JK (σ := Int) (fun z124 w1 => I125 z124 /\ St TT w none w1 [nR 3 A119 x118 k120, .row 38 5 (nA g11) 1 1 [nI r0, nI r1, nI r2, nI r3, nI r4]]) (fun z124 => [(0, nI n), (5, nP g11), (6, nI 0), (7, nI 0), (9, nS A119 x118 k120), (10, nI z124)]) (fun z124 => μ126 z124) (0 : Int) ⟨hv, hS⟩ ⟨rfl, rfl, rfl, rfl, rfl, rfl, trivial⟩ ?_; rintro z124 w127 ⟨hv, hS⟩; have hv := hk150 z124 hv; refine Jd 4 <| Jb (off := 2) Jw rfl rfl <| Je 1 2 XU3 hS rfl rfl rfl ⟨rfl, rfl⟩ <| Jc 2 <| Jk rfl (fun c128 => ?_) (fun c128 => ?_)
  .have hv := hv.1 (oT c128); refine Jl <| JP <| W.block <| Jd 4 <| W.block ?_; obtain ⟨I132, μ133, hv, hk147⟩ := hv; refine JK (σ := Int) (fun z131 w1 => I132 z131 /\ St TT w none w1 [nR 3 A119 x118 k120, .row 38 5 (nA g11) 1 1 [nI r0, nI r1, nI r2, nI r3, nI r4]]) (fun z131 => [(0, nI n), (5, nP g11), (6, nI 0), (7, nI 0), (9, nS A119 x118 k120), (10, nI z124), (11, nI z131), (47, .bool (decide (z124 < r2)))]) (fun z131 => μ133 z131) (0 : Int) ⟨hv, hS⟩ ⟨rfl, rfl, rfl, rfl, rfl, rfl, rfl, rfl, trivial⟩ ?_; rintro z131 w134 ⟨hv, hS⟩; have hv := hk147 z131 hv; refine Jd 4 <| Jb (off := 4) Jr rfl rfl <| Je 1 4 XU3 hS rfl rfl rfl ⟨rfl, rfl⟩ <| Jc 2 <| Jk rfl (fun c135 => ?_) (fun c135 => ?_)
   .have hv := hv.1 (oT c135); refine Jl <| JP <| W.block <| Jd 3 <| Jb (off := 0) QD rfl rfl <| Je 1 0 XU3 hS rfl rfl rfl ⟨rfl, rfl⟩ <| Jf rfl rfl <| Jb (off := 1) Jy rfl rfl <| Je 1 1 XU3 hS rfl rfl rfl ⟨rfl, rfl⟩ ?_; obtain ⟨o136, hv⟩ := hv; refine JX (r := (z124 * r1)) rfl rfl (wr o136) rfl ?_; obtain ⟨o137, hv⟩ := hv; refine WL.add (r := (r0 + (z124 * r1))) rfl rfl (wr o137) rfl <| Jf rfl rfl <| Jb (off := 3) JW rfl rfl <| Je 1 3 XU3 hS rfl rfl rfl ⟨rfl, rfl⟩ ?_; obtain ⟨o138, hv⟩ := hv; refine JX (r := (z131 * r3)) rfl rfl (wr o138) rfl ?_; obtain ⟨o139, hv⟩ := hv; refine WL.add (r := ((r0 + (z124 * r1)) + (z131 * r3))) rfl rfl (wr o139) rfl <| Jf rfl rfl <| SL.call hS (JF  hv) QL rfl Q1 rfl rfl ?_; rintro _ _ w140 ⟨r141, rfl, rfl, hv⟩ hGw140 hS; have hS := hS.n0; refine SL.call hS (Y3 (hS.rd (i := 0) rfl) hv) XF64 rfl XN64 rfl rfl ?_; rintro _ _ w142 ⟨r143, rfl, rfl, hv⟩ hGw142 hS; have hS := hS.n0; refine Jc 2 <| Jk rfl (fun c144 => ?_) (fun c144 => ?_)
    .have hv := hv.1 (c144); refine Jd 5 <| W.ret <| ⟨_, rfl, Fin.nil ?_⟩
     exact (hS.pick [] rfl).fin rfl ⟨(0 : Int), (13 : Int), rfl, rfl, hv⟩
    have hv := hv.2 (c144); refine Jl <| Jd 2 ?_; obtain ⟨o145, hv⟩ := hv; refine WL.add (r := (z131 + 1)) rfl rfl (wr o145) rfl <| Jc 2 ?_; exact ⟨(z131 + 1), sp rfl, hv.2, rfl, hv.1, hS⟩
   have hv := hv.2 (oF c135); refine JL <| Jd 2 ?_; obtain ⟨o146, hv⟩ := hv; refine WL.add (r := (z124 + 1)) rfl rfl (wr o146) rfl <| Jc 2 ?_; exact ⟨(z124 + 1), sp rfl, hv.2, rfl, hv.1, hS⟩
  have hv := hv.2 (oF c128); refine JL <| Jd 2 <| Jb (off := 2) Jw rfl rfl <| Je 1 2 XU3 hS rfl rfl rfl ⟨rfl, rfl⟩ ?_; obtain ⟨o148, hv⟩ := hv; refine WL.add (r := (r2 + 1)) rfl rfl (wr o148) rfl <| Jb (off := 4) Jr rfl rfl <| Je 1 4 XU3 hS rfl rfl rfl ⟨rfl, rfl⟩ ?_; obtain ⟨o149, hv⟩ := hv; refine WL.add (r := ((r2 + 1) + r4)) rfl rfl (wr o149) rfl <| Jc 3 <| W.ret <| ⟨_, rfl, Fin.nil ?_⟩
  exact (hS.pick [] rfl).fin rfl ⟨((r2 + 1) + r4), (0 : Int), rfl, rfl, hv⟩
 by_cases g151 : (0 : Int) < r4
 .have hv := hv.1 g151; obtain ⟨r156, o158, hv⟩ := hv; obtain ⟨r161, o163, hv⟩ := hv; obtain ⟨o165, hv⟩ := hv; obtain ⟨r175, o177, hv⟩ := hv; obtain ⟨r180, o182, hv⟩ := hv; obtain ⟨o186, hv⟩ := hv; refine JV 23 [⟨[], [5], true⟩, ⟨[0], [], false⟩, ⟨[], [0], true⟩, ⟨[1, 2], [], false⟩, ⟨[], [0], true⟩, ⟨[3, 4], [], false⟩, ⟨[5], [], true⟩, ⟨[6], [], true⟩, ⟨[7], [5], true⟩, ⟨[7, 8], [], false⟩, ⟨[7, 9], [], true⟩, ⟨[7, 10], [], true⟩, ⟨[11], [5], true⟩, ⟨[11, 12], [], false⟩, ⟨[11], [0], true⟩, ⟨[11, 13, 14], [], false⟩, ⟨[11], [0], true⟩, ⟨[11, 15, 16], [], false⟩, ⟨[11], [5], true⟩, ⟨[11, 18], [], false⟩, ⟨[11, 17, 19], [], true⟩, ⟨[7, 11, 20], [], true⟩, ⟨[7, 21], [], true⟩] [(18, .pointer (some ((⟨g11, 0, none⟩ : Addr).add 1))), (19, nI r1), (20, nI n), (21, nI r156), (22, nI n), (23, nI r161), (24, .bool false), (25, .bool false), (26, .pointer (some ((⟨g11, 0, none⟩ : Addr).add 4))), (27, nI r4), (28, .bool true), (29, .bool true), (30, .pointer (some ((⟨g11, 0, none⟩ : Addr).add 3))), (31, nI r3), (32, nI n), (33, nI r175), (34, nI n), (35, nI r180), (36, .pointer (some ((⟨g11, 0, none⟩ : Addr).add 2))), (37, nI r2), (38, .bool false), (39, .bool false), (40, .bool false)] Try.mixed (by kernel_rfl) rfl rfl ?_ ?_
  . refine ⟨fun _ _ _ => Jb (off := 1) Jy rfl rfl <| Ja ⟨rfl, rfl⟩, og hS fun _ _ hS => Je 0 1 XU3 hS rfl rfl rfl ⟨rfl, rfl⟩ <| Ja ⟨rfl, Jg _⟩, oD, ?_, oD, ?_, ?_, oD, fun _ _ _ => WL.take rfl <| Jb (off := 4) Jr rfl rfl <| Ja ⟨rfl, rfl⟩, og hS fun _ _ hS => WL.take rfl <| Je 0 4 XU3 hS rfl rfl rfl ⟨rfl, rfl⟩ <| Ja ⟨rfl, Jg _⟩, ?_, oD, fun _ _ _ => WL.take rfl <| Jb (off := 3) JW rfl rfl <| Ja ⟨rfl, rfl⟩, og hS fun _ _ hS => WL.take rfl <| Je 0 3 XU3 hS rfl rfl rfl ⟨rfl, rfl⟩ <| Ja ⟨rfl, Jg _⟩, oD, ?_, oD, ?_, fun _ _ _ => WL.take rfl <| Jb (off := 2) Jw rfl rfl <| Ja ⟨rfl, rfl⟩, og hS fun _ _ hS => WL.take rfl <| Je 0 2 XU3 hS rfl rfl rfl ⟨rfl, rfl⟩ <| Ja ⟨rfl, Jg _⟩, ?_, oD, oD, trivial⟩
    .intro w155 hE RR; refine WL.call QL rfl Q1 rfl rfl (Jj (JF  o158)) ?_; rintro _ w157 ⟨_, hGw157, hRww157, hNww157, r156q, rfl, rfl, he⟩; subst he; exact Ja ⟨rfl, hGw157⟩
    .intro w160 hE RR; refine WL.call YP rfl Zb rfl rfl (Jj (J3  o163)) ?_; rintro _ w162 ⟨_, hGw162, hRww162, hNww162, r161q, rfl, rfl, he⟩; subst he; exact Ja ⟨rfl, hGw162⟩
    .intro w164 hE RR; refine JH rfl rfl rfl ?_; rw [decide_eq_false o165]; exact Ja ⟨rfl, rfl⟩
    .intro w169 hE RR; refine WL.take rfl <| Jv rfl rfl rfl ?_; rw [decide_eq_true g151]; exact Ja ⟨rfl, rfl⟩
    .intro w174 hE RR; refine WL.take rfl <| WL.call QL rfl Q1 rfl rfl (Jj (JF  o177)) ?_; rintro _ w176 ⟨_, hGw176, hRww176, hNww176, r175q, rfl, rfl, he⟩; subst he; exact Ja ⟨rfl, hGw176⟩
    .intro w179 hE RR; refine WL.take rfl <| WL.call YP rfl Zb rfl rfl (Jj (J3  o182)) ?_; rintro _ w181 ⟨_, hGw181, hRww181, hNww181, r180q, rfl, rfl, he⟩; subst he; exact Ja ⟨rfl, hGw181⟩
    intro w185 hE RR; refine WL.take rfl <| Jv rfl rfl rfl ?_; rw [decide_eq_false o186]; exact Ja ⟨rfl, rfl⟩
  intro w189 hT; have hS := hS.grow hT; refine Q3 <| Yx rfl <| Jl <| Jd 4 <| SL.call hS (J9 (hS.ro hz) hv) XF63 rfl XN63 rfl rfl ?_; rintro _ _ w190 ⟨x191, A192, k193, rfl, rfl, hv⟩ hGw190 hS; have hS := hS.n1; refine Jc 2 <| Jd 5 <| W.block ?_; obtain ⟨I198, μ199, hv, hk223⟩ := hv; refine JK (σ := Int) (fun z197 w1 => I198 z197 /\ St TT w none w1 [nR 3 A192 x191 k193, .row 38 5 (nA g11) 1 1 [nI r0, nI r1, nI r2, nI r3, nI r4]]) (fun z197 => [(0, nI n), (5, nP g11), (6, nI 0), (7, nI 0), (9, nS A192 x191 k193), (10, nI z197)]) (fun z197 => μ199 z197) (0 : Int) ⟨hv, hS⟩ ⟨rfl, rfl, rfl, rfl, rfl, rfl, trivial⟩ ?_; rintro z197 w200 ⟨hv, hS⟩; have hv := hk223 z197 hv; refine Jd 4 <| Jb (off := 2) Jw rfl rfl <| Je 1 2 XU3 hS rfl rfl rfl ⟨rfl, rfl⟩ <| Jc 2 <| Jk rfl (fun c201 => ?_) (fun c201 => ?_)
  .have hv := hv.1 (oT c201); refine Jl <| JP <| W.block <| Jd 4 <| W.block ?_; obtain ⟨I205, μ206, hv, hk220⟩ := hv; refine JK (σ := Int) (fun z204 w1 => I205 z204 /\ St TT w none w1 [nR 3 A192 x191 k193, .row 38 5 (nA g11) 1 1 [nI r0, nI r1, nI r2, nI r3, nI r4]]) (fun z204 => [(0, nI n), (5, nP g11), (6, nI 0), (7, nI 0), (9, nS A192 x191 k193), (10, nI z197), (11, nI z204), (47, .bool (decide (z197 < r2)))]) (fun z204 => μ206 z204) (0 : Int) ⟨hv, hS⟩ ⟨rfl, rfl, rfl, rfl, rfl, rfl, rfl, rfl, trivial⟩ ?_; rintro z204 w207 ⟨hv, hS⟩; have hv := hk220 z204 hv; refine Jd 4 <| Jb (off := 4) Jr rfl rfl <| Je 1 4 XU3 hS rfl rfl rfl ⟨rfl, rfl⟩ <| Jc 2 <| Jk rfl (fun c208 => ?_) (fun c208 => ?_)
   .have hv := hv.1 (oT c208); refine Jl <| JP <| W.block <| Jd 3 <| Jb (off := 0) QD rfl rfl <| Je 1 0 XU3 hS rfl rfl rfl ⟨rfl, rfl⟩ <| Jf rfl rfl <| Jb (off := 1) Jy rfl rfl <| Je 1 1 XU3 hS rfl rfl rfl ⟨rfl, rfl⟩ ?_; obtain ⟨o209, hv⟩ := hv; refine JX (r := (z197 * r1)) rfl rfl (wr o209) rfl ?_; obtain ⟨o210, hv⟩ := hv; refine WL.add (r := (r0 + (z197 * r1))) rfl rfl (wr o210) rfl <| Jf rfl rfl <| Jb (off := 3) JW rfl rfl <| Je 1 3 XU3 hS rfl rfl rfl ⟨rfl, rfl⟩ ?_; obtain ⟨o211, hv⟩ := hv; refine JX (r := (z204 * r3)) rfl rfl (wr o211) rfl ?_; obtain ⟨o212, hv⟩ := hv; refine WL.add (r := ((r0 + (z197 * r1)) + (z204 * r3))) rfl rfl (wr o212) rfl <| Jf rfl rfl <| SL.call hS (JF  hv) QL rfl Q1 rfl rfl ?_; rintro _ _ w213 ⟨r214, rfl, rfl, hv⟩ hGw213 hS; have hS := hS.n0; refine SL.call hS (Y3 (hS.rd (i := 0) rfl) hv) XF64 rfl XN64 rfl rfl ?_; rintro _ _ w215 ⟨r216, rfl, rfl, hv⟩ hGw215 hS; have hS := hS.n0; refine Jc 2 <| Jk rfl (fun c217 => ?_) (fun c217 => ?_)
    .have hv := hv.1 (c217); refine Jd 5 <| W.ret <| ⟨_, rfl, Fin.nil ?_⟩
     exact (hS.pick [] rfl).fin rfl ⟨(0 : Int), (13 : Int), rfl, rfl, hv⟩
    have hv := hv.2 (c217); refine Jl <| Jd 2 ?_; obtain ⟨o218, hv⟩ := hv; refine WL.add (r := (z204 + 1)) rfl rfl (wr o218) rfl <| Jc 2 ?_; exact ⟨(z204 + 1), sp rfl, hv.2, rfl, hv.1, hS⟩
   have hv := hv.2 (oF c208); refine JL <| Jd 2 ?_; obtain ⟨o219, hv⟩ := hv; refine WL.add (r := (z197 + 1)) rfl rfl (wr o219) rfl <| Jc 2 ?_; exact ⟨(z197 + 1), sp rfl, hv.2, rfl, hv.1, hS⟩
  have hv := hv.2 (oF c201); refine JL <| Jd 2 <| Jb (off := 2) Jw rfl rfl <| Je 1 2 XU3 hS rfl rfl rfl ⟨rfl, rfl⟩ ?_; obtain ⟨o221, hv⟩ := hv; refine WL.add (r := (r2 + 1)) rfl rfl (wr o221) rfl <| Jb (off := 4) Jr rfl rfl <| Je 1 4 XU3 hS rfl rfl rfl ⟨rfl, rfl⟩ ?_; obtain ⟨o222, hv⟩ := hv; refine WL.add (r := ((r2 + 1) + r4)) rfl rfl (wr o222) rfl <| Jc 3 <| W.ret <| ⟨_, rfl, Fin.nil ?_⟩
  exact (hS.pick [] rfl).fin rfl ⟨((r2 + 1) + r4), (0 : Int), rfl, rfl, hv⟩
 have hv := hv.2 g151; obtain ⟨r228, o230, hv⟩ := hv; obtain ⟨r233, o235, hv⟩ := hv; obtain ⟨o237, hv⟩ := hv; refine JV 23 [⟨[], [5], true⟩, ⟨[0], [], false⟩, ⟨[], [0], true⟩, ⟨[1, 2], [], false⟩, ⟨[], [0], true⟩, ⟨[3, 4], [], false⟩, ⟨[5], [], true⟩, ⟨[6], [], true⟩, ⟨[7], [5], true⟩, ⟨[7, 8], [], false⟩, ⟨[7, 9], [], true⟩, ⟨[7, 10], [], true⟩, ⟨[11], [5], true⟩, ⟨[11, 12], [], false⟩, ⟨[11], [0], true⟩, ⟨[11, 13, 14], [], false⟩, ⟨[11], [0], true⟩, ⟨[11, 15, 16], [], false⟩, ⟨[11], [5], true⟩, ⟨[11, 18], [], false⟩, ⟨[11, 17, 19], [], true⟩, ⟨[7, 11, 20], [], true⟩, ⟨[7, 21], [], true⟩] [(18, .pointer (some ((⟨g11, 0, none⟩ : Addr).add 1))), (19, nI r1), (20, nI n), (21, nI r228), (22, nI n), (23, nI r233), (24, .bool false), (25, .bool false), (26, .pointer (some ((⟨g11, 0, none⟩ : Addr).add 4))), (27, nI r4), (28, .bool false), (29, .bool false), (30, undef), (31, undef), (32, undef), (33, undef), (34, undef), (35, undef), (36, undef), (37, undef), (38, undef), (39, .bool false), (40, .bool false)] Try.mixed (by kernel_rfl) rfl rfl ?_ ?_
 . refine ⟨fun _ _ _ => Jb (off := 1) Jy rfl rfl <| Ja ⟨rfl, rfl⟩, og hS fun _ _ hS => Je 0 1 XU3 hS rfl rfl rfl ⟨rfl, rfl⟩ <| Ja ⟨rfl, Jg _⟩, oD, ?_, oD, ?_, ?_, oD, fun _ _ _ => WL.take rfl <| Jb (off := 4) Jr rfl rfl <| Ja ⟨rfl, rfl⟩, og hS fun _ _ hS => WL.take rfl <| Je 0 4 XU3 hS rfl rfl rfl ⟨rfl, rfl⟩ <| Ja ⟨rfl, Jg _⟩, ?_, oD, oD, oD, oD, oD, oD, oD, oD, oD, oD, oD, oD, trivial⟩
   . intro w227 hE RR; refine WL.call QL rfl Q1 rfl rfl (Jj (JF  o230)) ?_; rintro _ w229 ⟨_, hGw229, hRww229, hNww229, r228q, rfl, rfl, he⟩; subst he; exact Ja ⟨rfl, hGw229⟩
   . intro w232 hE RR; refine WL.call YP rfl Zb rfl rfl (Jj (J3  o235)) ?_; rintro _ w234 ⟨_, hGw234, hRww234, hNww234, r233q, rfl, rfl, he⟩; subst he; exact Ja ⟨rfl, hGw234⟩
   . intro w236 hE RR; refine JH rfl rfl rfl ?_; rw [decide_eq_false o237]; exact Ja ⟨rfl, rfl⟩
   intro w241 hE RR; refine WL.take rfl <| Jv rfl rfl rfl ?_; rw [decide_eq_false g151]; exact Ja ⟨rfl, rfl⟩
 intro w254 hT; have hS := hS.grow hT; refine Q3 <| Yx rfl <| Jl <| Jd 4 <| SL.call hS (J9 (hS.ro hz) hv) XF63 rfl XN63 rfl rfl ?_; rintro _ _ w255 ⟨x256, A257, k258, rfl, rfl, hv⟩ hGw255 hS; have hS := hS.n1; refine Jc 2 <| Jd 5 <| W.block ?_; obtain ⟨I263, μ264, hv, hk288⟩ := hv; refine JK (σ := Int) (fun z262 w1 => I263 z262 /\ St TT w none w1 [nR 3 A257 x256 k258, .row 38 5 (nA g11) 1 1 [nI r0, nI r1, nI r2, nI r3, nI r4]]) (fun z262 => [(0, nI n), (5, nP g11), (6, nI 0), (7, nI 0), (9, nS A257 x256 k258), (10, nI z262)]) (fun z262 => μ264 z262) (0 : Int) ⟨hv, hS⟩ ⟨rfl, rfl, rfl, rfl, rfl, rfl, trivial⟩ ?_; rintro z262 w265 ⟨hv, hS⟩; have hv := hk288 z262 hv; refine Jd 4 <| Jb (off := 2) Jw rfl rfl <| Je 1 2 XU3 hS rfl rfl rfl ⟨rfl, rfl⟩ <| Jc 2 <| Jk rfl (fun c266 => ?_) (fun c266 => ?_)
 .have hv := hv.1 (oT c266); refine Jl <| JP <| W.block <| Jd 4 <| W.block ?_; obtain ⟨I270, μ271, hv, hk285⟩ := hv; refine JK (σ := Int) (fun z269 w1 => I270 z269 /\ St TT w none w1 [nR 3 A257 x256 k258, .row 38 5 (nA g11) 1 1 [nI r0, nI r1, nI r2, nI r3, nI r4]]) (fun z269 => [(0, nI n), (5, nP g11), (6, nI 0), (7, nI 0), (9, nS A257 x256 k258), (10, nI z262), (11, nI z269), (47, .bool (decide (z262 < r2)))]) (fun z269 => μ271 z269) (0 : Int) ⟨hv, hS⟩ ⟨rfl, rfl, rfl, rfl, rfl, rfl, rfl, rfl, trivial⟩ ?_; rintro z269 w272 ⟨hv, hS⟩; have hv := hk285 z269 hv; refine Jd 4 <| Jb (off := 4) Jr rfl rfl <| Je 1 4 XU3 hS rfl rfl rfl ⟨rfl, rfl⟩ <| Jc 2 <| Jk rfl (fun c273 => ?_) (fun c273 => ?_)
  .have hv := hv.1 (oT c273); refine Jl <| JP <| W.block <| Jd 3 <| Jb (off := 0) QD rfl rfl <| Je 1 0 XU3 hS rfl rfl rfl ⟨rfl, rfl⟩ <| Jf rfl rfl <| Jb (off := 1) Jy rfl rfl <| Je 1 1 XU3 hS rfl rfl rfl ⟨rfl, rfl⟩ ?_; obtain ⟨o274, hv⟩ := hv; refine JX (r := (z262 * r1)) rfl rfl (wr o274) rfl ?_; obtain ⟨o275, hv⟩ := hv; refine WL.add (r := (r0 + (z262 * r1))) rfl rfl (wr o275) rfl <| Jf rfl rfl <| Jb (off := 3) JW rfl rfl <| Je 1 3 XU3 hS rfl rfl rfl ⟨rfl, rfl⟩ ?_; obtain ⟨o276, hv⟩ := hv; refine JX (r := (z269 * r3)) rfl rfl (wr o276) rfl ?_; obtain ⟨o277, hv⟩ := hv; refine WL.add (r := ((r0 + (z262 * r1)) + (z269 * r3))) rfl rfl (wr o277) rfl <| Jf rfl rfl <| SL.call hS (JF  hv) QL rfl Q1 rfl rfl ?_; rintro _ _ w278 ⟨r279, rfl, rfl, hv⟩ hGw278 hS; have hS := hS.n0; refine SL.call hS (Y3 (hS.rd (i := 0) rfl) hv) XF64 rfl XN64 rfl rfl ?_; rintro _ _ w280 ⟨r281, rfl, rfl, hv⟩ hGw280 hS; have hS := hS.n0; refine Jc 2 <| Jk rfl (fun c282 => ?_) (fun c282 => ?_)
   .have hv := hv.1 (c282); refine Jd 5 <| W.ret <| ⟨_, rfl, Fin.nil ?_⟩
    exact (hS.pick [] rfl).fin rfl ⟨(0 : Int), (13 : Int), rfl, rfl, hv⟩
   have hv := hv.2 (c282); refine Jl <| Jd 2 ?_; obtain ⟨o283, hv⟩ := hv; refine WL.add (r := (z269 + 1)) rfl rfl (wr o283) rfl <| Jc 2 ?_; exact ⟨(z269 + 1), sp rfl, hv.2, rfl, hv.1, hS⟩
  have hv := hv.2 (oF c273); refine JL <| Jd 2 ?_; obtain ⟨o284, hv⟩ := hv; refine WL.add (r := (z262 + 1)) rfl rfl (wr o284) rfl <| Jc 2 ?_; exact ⟨(z262 + 1), sp rfl, hv.2, rfl, hv.1, hS⟩
 have hv := hv.2 (oF c266); refine JL <| Jd 2 <| Jb (off := 2) Jw rfl rfl <| Je 1 2 XU3 hS rfl rfl rfl ⟨rfl, rfl⟩ ?_; obtain ⟨o286, hv⟩ := hv; refine WL.add (r := (r2 + 1)) rfl rfl (wr o286) rfl <| Jb (off := 4) Jr rfl rfl <| Je 1 4 XU3 hS rfl rfl rfl ⟨rfl, rfl⟩ ?_; obtain ⟨o287, hv⟩ := hv; refine WL.add (r := ((r2 + 1) + r4)) rfl rfl (wr o287) rfl <| Jc 3 <| W.ret <| ⟨_, rfl, Fin.nil ?_⟩
 exact (hS.pick [] rfl).fin rfl ⟨((r2 + 1) + r4), (0 : Int), rfl, rfl, hv⟩
end Go.Proofs.Ytppkigdakobebaa
namespace Go.Proofs.Ytppkigdakobebaa
open Go.RowKit
def Qe (n : Int) (z : LI) (r0 : Int) (r1 : Int) (r2 : Int) (r3 : Int) (r4 : Int) (Q : Bool -> Prop) : Prop :=
  (((200 : Int) < (z.length : Int)) -> Q true) /\ (¬ ((200 : Int) < (z.length : Int)) -> (Qv n z r0 r1 r2 r3 r4 (fun (r15, r16) => Qi n z r0 r1 r2 r3 r4 (fun (r18, r19) => ((r18 = r15) -> (Q (decide (r16 = r19)))) /\ (¬ (r18 = r15) -> Q false)))))
theorem Yp {w : World} {Q : Bool -> Prop} {n : Int} {z : LI} {r0 : Int} {r1 : Int} {r2 : Int} {r3 : Int} {r4 : Int} {Bz : Nat} {Az : Option Addr} {nz kz : Nat} (hz : Rd Bz w 1 Az nz kz (is z)) (hv : Qe n z r0 r1 r2 r3 r4 Q) :
   Calls Try.prog 5 #[.int .i64 n, .slice Az nz kz, .agg #[.int .i64 r0, .int .i64 r1, .int .i64 r2, .int .i64 r3, .int .i64 r4]] w <| Rt w fun v Qr => ∃ (r0 : Bool), v = .bool r0 /\ Qr = [] /\ Q r0 := by
 have hnz := hz.ilen; subst hnz; refine Jh <| Ji (vs := [nI n, nS Az z kz, .agg #[nI r0, nI r1, nI r2, nI r3, nI r4]]) [6] XF5 rfl rfl rfl rfl ?_; have hS := Jn w; unfold Qe at hv; refine Jd 2 <| QG (z := 5) (cs := [nI r0, nI r1, nI r2, nI r3, nI r4]) hS rfl rfl rfl rfl ?_; intro g11 w12 hS; refine Jc 2 <| Jd 4 <| WL.len Yt rfl rfl <| Jc 2 <| Jk rfl (fun c13 => ?_) (fun c13 => ?_)
 .have hv := hv.1 (oT c13); refine Jd 4 <| W.ret <| ⟨_, rfl, Fin.nil ?_⟩
  exact (hS.pick [] rfl).fin rfl ⟨true, rfl, rfl, hv⟩
 have hv := hv.2 (oF c13); refine Jl <| Jd 4 <| Qw 0 Yv Yu hS rfl ⟨rfl, rfl⟩ rfl <| SL.call hS (ZC (hS.ro hz) hv) XF22 rfl XN22 rfl rfl ?_; rintro _ _ w14 ⟨r15, r16, rfl, rfl, hv⟩ hGw14 hS; have hS := hS.n0; refine Jc 6 <| Jd 4 <| Qw 0 Yv Yu hS rfl ⟨rfl, rfl⟩ rfl <| SL.call hS (Y1 (hS.ro hz) hv) XF23 rfl XN23 rfl rfl ?_; rintro _ _ w17 ⟨r18, r19, rfl, rfl, hv⟩ hGw17 hS; have hS := hS.n0; refine Jc 6 <| Jd 5 <| Jf rfl rfl ?_; by_cases g20 : r18 = r15
 .have hv := hv.1 g20; rw [decide_eq_true g20]; refine Jc 9 <| W.ret <| ⟨_, rfl, Fin.nil ?_⟩
  exact (hS.pick [] rfl).fin rfl ⟨(decide (r16 = r19)), rfl, rfl, hv⟩
 have hv := hv.2 g20; rw [decide_eq_false g20]; refine Jc 6 <| W.ret <| ⟨_, rfl, Fin.nil ?_⟩
 exact (hS.pick [] rfl).fin rfl ⟨false, rfl, rfl, hv⟩
end Go.Proofs.Ytppkigdakobebaa
namespace Go.Proofs.Ytppkigdakobebaa
open Go.RowKit
end Go.Proofs.Ytppkigdakobebaa
namespace Go.Proofs.Ytppkigdakobebaa
def Lim (l : List Nat) : Prop := ∀ x ∈ l, x < 4294967296
theorem Lim.nil : Lim [] := fun _ h => by cases h
theorem Lim.cons {x : Nat} {l : List Nat} (hx : x < 4294967296) (h : Lim l) : Lim (x :: l) := fun y hy => by
 rcases List.mem_cons.1 hy with rfl | hy
 .exact hx
 .exact h _ hy
end Go.Proofs.Ytppkigdakobebaa
namespace Go.Proofs.Ytppkigdakobebaa
/-! ### runs of exponents modulo n, and the greatest bounds that they prove -/
def PZ (n : Int) (zs : LI) (a : Int) : Prop := ∃ x, x ∈ zs /\ x % n = a % n
theorem PZ.mod {n : Int} {zs : LI} {a b : Int} (h : a % n = b % n) (p : PZ n zs a) : PZ n zs b := by
 obtain ⟨x, hx, e⟩ := p; exact ⟨x, hx, e.trans h⟩
def Per (n : Int) (P : Int -> Prop) : Prop := ∀ a b, a % n = b % n -> P a -> P b
theorem Jas (n : Int) (zs : LI) : Per n (PZ n zs) := fun _ _ h p => p.mod h
def Val (n : Int) (P : Int -> Prop) (s t c x m : Int) : Prop :=
  1 <= c /\ c <= n /\ 0 <= m /\ m <= n /\ Int.gcd t n = 1 /\ (0 < m -> (Int.gcd x n : Int) <= c) /\ ∀ i j : Int, 0 <= i -> i < c -> 0 <= j -> j <= m -> P (s + i * t + j * x)
theorem QN {n a b : Int} (h : a % n = b % n) : ∃ k, b = a + n * k := by
 refine ⟨b / n - a / n, ?_⟩; have h1 := Int.mul_ediv_add_emod a n; have h2 := Int.mul_ediv_add_emod b n; rw [Int.mul_sub]; omega
theorem QM {n a b : Int} (h : a % n = b % n) : Int.gcd a n = Int.gcd b n := by
 obtain ⟨k, rfl⟩ := QN h; rw [Int.gcd_comm a, Int.gcd_comm (a + n * k), Int.gcd_add_mul_left_right]
theorem Ja7 {n s t x s' t' x' : Int} (i j : Int) (hs : s % n = s' % n) (ht : t % n = t' % n) (hx : x % n = x' % n) : (s + i * t + j * x) % n = (s' + i * t' + j * x') % n := by
 obtain ⟨a, rfl⟩ := QN hs; obtain ⟨b, rfl⟩ := QN ht; obtain ⟨c, rfl⟩ := QN hx; have e : s + n * a + i * (t + n * b) + j * (x + n * c) = s + i * t + j * x + n * (a + i * b + j * c) := by
  simp only [Int.mul_add, Int.mul_left_comm i n b, Int.mul_left_comm j n c]; omega
 rw [e, Int.add_mul_emod_self_left]
theorem Val.mod {n : Int} {P : Int -> Prop} {s t c x m s' t' x' : Int} (hP : Per n P) (h : Val n P s t c x m) (hs : s % n = s' % n) (ht : t % n = t' % n) (hx : x % n = x' % n) : Val n P s' t' c x' m := by
 obtain ⟨a, b, d, e, f, g, k⟩ := h; refine ⟨a, b, d, e, by rw [<- QM ht]; exact f, fun hm => by rw [<- QM hx]; exact g hm, fun i j h1 h2 h3 h4 => ?_⟩; exact hP _ _ (Ja7 i j hs ht hx) (k i j h1 h2 h3 h4)
def isB (n : Int) (P : Int -> Prop) (b : Int) : Prop :=
  1 <= b /\ (∀ s t c, Val n P s t c 0 0 -> c + 1 <= b) /\ (b = 1 ∨ ∃ s t c, Val n P s t c 0 0 /\ b = c + 1)
def isT (n : Int) (P : Int -> Prop) (b : Int) : Prop :=
  1 <= b /\ (∀ s t c x m, Val n P s t c x m -> c + 1 + m <= b) /\ (b = 1 ∨ ∃ s t c x m, Val n P s t c x m /\ b = c + 1 + m)
theorem isB.le {n : Int} {P P' : Int -> Prop} {b b' k : Int} (h : isB n P b) (h' : isB n P' b') (hk : Int.gcd k n = 1) (hP : ∀ a, P a -> P' (k * a)) (hg : ∀ t, Int.gcd t n = 1 -> Int.gcd (k * t) n = 1) : b <= b' := by
 rcases h.2.2 with e | ⟨s, t, c, v, e⟩
 .have := h'.1; omega
 .obtain ⟨a1, a2, a3, a4, a5, a6, a7⟩ := v; have := h'.2.1 (k * s) (k * t) c ⟨a1, a2, a3, a4, hg t a5, fun hm => absurd hm (by omega), fun i j h1 h2 h3 h4 => by
   have := hP _ (a7 i j h1 h2 h3 h4); have e : k * s + i * (k * t) + j * 0 = k * (s + i * t + j * 0) := by rw [Int.mul_add, Int.mul_add, Int.mul_left_comm i k t]; omega
   rw [e]; exact this⟩
  omega
theorem isT.le {n : Int} {P P' : Int -> Prop} {b b' k : Int} (h : isT n P b) (h' : isT n P' b') (hP : ∀ a, P a -> P' (k * a)) (hg : ∀ t, Int.gcd (k * t) n = Int.gcd t n) : b <= b' := by
 rcases h.2.2 with e | ⟨s, t, c, x, m, v, e⟩
 .have := h'.1; omega
 .obtain ⟨a1, a2, a3, a4, a5, a6, a7⟩ := v; have := h'.2.1 (k * s) (k * t) c (k * x) m ⟨a1, a2, a3, a4, by rw [hg]; exact a5, fun hm => by rw [hg]; exact a6 hm, fun i j h1 h2 h3 h4 => by
   have := hP _ (a7 i j h1 h2 h3 h4); have e : k * s + i * (k * t) + j * (k * x) = k * (s + i * t + j * x) := by rw [Int.mul_add, Int.mul_add, Int.mul_left_comm i k t, Int.mul_left_comm j k x]
   rw [e]; exact this⟩
  omega
theorem isB.mono {n : Int} {P P' : Int -> Prop} {b b' : Int} (h : isB n P b) (h' : isB n P' b') (hP : ∀ a, P a -> P' a) : b <= b' :=
 h.le h' (k := 1) (by rw [Int.one_gcd]) (fun a p => by rw [Int.one_mul]; exact hP a p) (fun t e => by rw [Int.one_mul]; exact e)
theorem isT.mono {n : Int} {P P' : Int -> Prop} {b b' : Int} (h : isT n P b) (h' : isT n P' b') (hP : ∀ a, P a -> P' a) : b <= b' :=
 h.le h' (k := 1) (fun a p => by rw [Int.one_mul]; exact hP a p) (fun t => by rw [Int.one_mul])
end Go.Proofs.Ytppkigdakobebaa
namespace Go.Proofs.Ytppkigdakobebaa
/-! ### bch without fields: remainders, marks, greatest common divisors, runs -/
theorem JJ {x : Int} (h1 : -4611686018427387904 <= x) (h2 : x <= 4611686018427387904) : I64 x := ⟨by omega, by omega⟩
theorem ZU {x n : Int} (hn : 0 < n) : ((x.tmod n) + n).tmod n = x % n := by
 have h0 : 0 <= x.tmod n + n := by have := Int.lt_tmod_of_pos x hn; omega
 rw [Int.tmod_eq_emod_of_nonneg h0, Int.add_emod_right]; have h1 := Int.mul_tdiv_add_tmod x n; have h2 : (n * x.tdiv n + x.tmod n) % n = x.tmod n % n := Int.mul_add_emod_self_left _ _ _; rw [h1] at h2; exact h2.symm
theorem tm_bd {x n : Int} (hn : 0 < n) : -n < x.tmod n /\ x.tmod n < n := ⟨Int.lt_tmod_of_pos x hn, Int.tmod_lt_of_pos x hn⟩
theorem Yj {x n : Int} (hn : 0 < n) : 0 <= x % n /\ x % n < n := ⟨Int.emod_nonneg _ (by omega), Int.emod_lt_of_pos _ hn⟩
theorem gb_sb {x : List Bool} {r i : Int} (hr : 0 <= r) (hr2 : r < (x.length : Nat)) (hi : 0 <= i) (b : Bool) : gb (sb x r b) i = if i = r then b else gb x i := by
 unfold gb sb; rw [List.getD_eq_getElem?_getD, List.getD_eq_getElem?_getD, List.getElem?_set]; by_cases e : i = r
 .subst e; rw [if_pos rfl, if_pos (by omega), if_pos rfl]; rfl
 .rw [if_neg (by omega), if_neg e]
theorem sb_len (x : List Bool) (r : Int) (b : Bool) : (sb x r b).length = x.length := List.length_set
theorem gi_app {x : LI} {a : Int} {i : Int} (hi : 0 <= i) (h : i < (x.length : Nat)) : gi (x ++ [a]) i = gi x i := by
 unfold gi; rw [List.getD_eq_getElem?_getD, List.getD_eq_getElem?_getD, List.getElem?_append_left (by omega)]
theorem Ja9 (x : LI) (a : Int) : gi (x ++ [a]) (x.length : Int) = a := by
 unfold gi; rw [List.getD_eq_getElem?_getD, Int.toNat_natCast, List.getElem?_append_right (Nat.le_refl _)]; simp
theorem Qo {l : LI} {x : Int} : x ∈ l ↔ ∃ j : Int, 0 <= j /\ j < (l.length : Nat) /\ gi l j = x := by
 constructor
 .intro h; obtain ⟨j, hj, e⟩ := List.mem_iff_getElem.1 h; refine ⟨j, by omega, by omega, ?_⟩; unfold gi; rw [Int.toNat_natCast, List.getD_eq_getElem?_getD, List.getElem?_eq_getElem hj]; exact e
 .rintro ⟨j, h0, h1, rfl⟩; unfold gi; rw [List.getD_eq_getElem?_getD, List.getElem?_eq_getElem (by omega : j.toNat < l.length)]; exact List.getElem_mem _
theorem YX {n : Int} {Q : Bool -> Prop} (h : Q (decide (1 <= n /\ n <= 64))) : J6 n Q := by
 refine ⟨fun h1 => ?_, fun h1 => ?_⟩
 .by_cases h2 : n <= 64
  .rw [decide_eq_true h2]; rw [decide_eq_true ⟨h1, h2⟩] at h; exact h
  .rw [decide_eq_false h2]; rw [decide_eq_false (fun c => h2 c.2)] at h; exact h
 .rw [decide_eq_false (fun c => h1 c.1)] at h; exact h
theorem J8 {x n : Int} {Q : Int -> Prop} (hn : 0 < n) (h64 : n <= 1000000) (h : Q (x % n)) : JE x n Q := by
 have := tm_bd (x := x) hn; exact ⟨by omega, JJ (by omega) (by omega), by omega, by rw [ZU hn]; exact h⟩
theorem YW {x n : Int} {Q : Int -> Prop} (hn : 0 < n) (h64 : n <= 1000000) (h : Q (x % n)) : Jz x n Q := by
 have := tm_bd (x := x) hn; exact ⟨by omega, JJ (by omega) (by omega), by omega, by rw [ZU hn]; exact h⟩
/-- a list of marks for a property of the numbers modulo n -/
def Mk (n : Int) (P : Int -> Prop) (x : List Bool) : Prop := (x.length : Int) = n /\ ∀ i : Int, 0 <= i -> i < n -> (gb x i = true ↔ P i)
theorem ZR {n : Int} {l : LI} {Q : List Bool -> Prop} (hn : 0 < n) (h64 : n <= 64) (hl : l.length <= 1000) (h : ∀ x, Mk n (PZ n l) x -> Q x) : JU n l Q := by
 refine ⟨by omega, fun x z => (x.length : Int) = n /\ 0 <= z /\ z <= (l.length : Nat) /\ ∀ i : Int, 0 <= i -> i < n -> (gb x i = true ↔ ∃ j : Int, 0 <= j /\ j < z /\ gi l j % n = i), fun _ z => (1000 - z).toNat, ⟨by rw [List.length_replicate]; omega, by omega, by omega, fun i h1 h2 => ?_⟩, ?_⟩
 .constructor
  .intro e; unfold gb at e; rw [List.getD_eq_getElem?_getD, List.getElem?_replicate, if_pos (by omega)] at e; cases e
  .rintro ⟨j, a, b, _⟩; omega
 .rintro x z ⟨hx, h0, h1, hk⟩; refine ⟨fun hlt => ⟨⟨h0, hlt⟩, J8 hn (by omega) ?_⟩, fun hge => ?_⟩
  .have hb := Yj (x := gi l z) hn; refine ⟨⟨hb.1, by omega⟩, JJ (by omega) (by omega), ⟨by rw [sb_len]; exact hx, by omega, by omega, fun i a b => ?_⟩, by show (1000 - (z + 1)).toNat < (1000 - z).toNat; omega⟩; rw [gb_sb hb.1 (by omega) a]; by_cases e : i = gi l z % n
   .rw [if_pos e]; exact ⟨fun _ => ⟨z, h0, by omega, e.symm⟩, fun _ => rfl⟩
   .rw [if_neg e, hk i a b]; constructor
    .rintro ⟨j, c, d, f⟩; exact ⟨j, c, by omega, f⟩
    .rintro ⟨j, c, d, f⟩; refine ⟨j, c, ?_, f⟩; by_cases ej : j = z
     .subst ej; exact absurd f.symm e
     .omega
  .have : z = (l.length : Nat) := by omega
   subst this; refine h x ⟨hx, fun i a b => ?_⟩; rw [hk i a b]; constructor
   .rintro ⟨j, c, d, f⟩; exact ⟨gi l j, Qo.2 ⟨j, c, d, rfl⟩, by rw [f, Int.emod_eq_of_lt a b]⟩
   .rintro ⟨y, hy, f⟩; obtain ⟨j, c, d, rfl⟩ := Qo.1 hy; exact ⟨j, c, d, by rw [f, Int.emod_eq_of_lt a b]⟩
theorem Yd {x : Int} {Q : Bool -> Prop} (h1 : -1000000 <= x) (h2 : x <= 1000000) (h : Q true) : JZ x Q :=
 ⟨fun _ => by rw [decide_eq_true (by omega)]; exact h, fun c => absurd (by omega) c⟩
theorem ZQ {x : Int} {Q : Int -> Prop} (h1 : 0 <= x) (h : Q x) : Q5 x Q := ⟨fun c => absurd h1 (by omega), fun _ => h⟩
theorem Jat {a b : Nat} {Q : Int × Int -> Prop} (hb : b <= 1000000) (ha : a <= 1000000) (h : ∀ y, Q (((Nat.gcd a b : Nat) : Int), y)) : QO a b Q := by
 refine ⟨fun z19 z20 z21 z22 => ∃ c d : Nat, z19 = c /\ z20 = d /\ Nat.gcd c d = Nat.gcd a b /\ c <= 1000000 /\ d <= 1000000 /\ z21.natAbs * d + z22.natAbs * c <= b, fun _ z20 _ _ => z20.toNat, ⟨a, b, rfl, rfl, rfl, ha, hb, by simp⟩, ?_⟩; rintro _ _ u v ⟨c, d, rfl, rfl, hg, hc, hd, hbd⟩; dsimp only; refine ⟨fun hne => ?_, fun he => ?_⟩
 .have hd0 : 0 < d := by omega
  have hq : ((c : Int).tdiv (d : Int)) = ((c / d : Nat) : Int) := rfl; rw [hq]; have hcd := Nat.div_add_mod c d; have hr := Nat.mod_lt c hd0; generalize hqq : c / d = q at hcd ⊢; generalize hrr : c % d = r at hcd hr; have hqd : ((q : Int) * (d : Int)) = ((d * q : Nat) : Int) := by push_cast; exact Int.mul_comm _ _
  have hle : d * q <= c := by omega
  have hqv : (((q : Int) * v)).natAbs = q * v.natAbs := by rw [Int.natAbs_mul, Int.natAbs_natCast]
  have hu : u.natAbs <= b := by
   have : u.natAbs * 1 <= u.natAbs * d := Nat.mul_le_mul_left _ hd0; omega
  have hv2 : q * v.natAbs <= b := by
   have h1 : v.natAbs * (d * q) <= v.natAbs * c := Nat.mul_le_mul_left _ hle; have h2 : v.natAbs * q * 1 <= v.natAbs * q * d := Nat.mul_le_mul_left _ hd0; have h3 : v.natAbs * (d * q) = v.natAbs * q * d := by rw [Nat.mul_comm d q, Nat.mul_assoc]
   rw [Nat.mul_comm q]; omega
  have hq6 : q <= 1000000 := by
   have : q * 1 <= q * d := Nat.mul_le_mul_left _ hd0; rw [Nat.mul_comm q d] at this; omega
  have e3 : ((c : Int) - (q : Int) * (d : Int)) = ((r : Nat) : Int) := by rw [hqd]; omega
  have hs : (u - (q : Int) * v).natAbs <= u.natAbs + q * v.natAbs := by rw [<- hqv]; exact Int.natAbs_sub_le _ _
  refine ⟨⟨by omega, JJ (by omega) (by omega)⟩, JJ (by omega) (by omega), by rw [e3]; exact JJ (by omega) (by omega), JJ (by omega) (by omega), JJ (by omega) (by omega), ⟨d, r, rfl, e3, ?_, hd, by omega, ?_⟩, ?_⟩
  .rw [<- hg, <- hrr, Nat.gcd_comm c d, Nat.gcd_rec d c, Nat.gcd_comm]
  .have h1 : (u - (q : Int) * v).natAbs * d <= (u.natAbs + q * v.natAbs) * d := Nat.mul_le_mul_right _ hs; have h2 : (u.natAbs + q * v.natAbs) * d = u.natAbs * d + v.natAbs * (d * q) := by
    rw [Nat.add_mul, Nat.mul_comm q, Nat.mul_assoc, Nat.mul_comm q d]
   have h3 : v.natAbs * c = v.natAbs * (d * q) + v.natAbs * r := by rw [<- hcd, Nat.mul_add]
   omega
  .rw [e3]; show ((r : Nat) : Int).toNat < ((d : Nat) : Int).toNat; omega
 .have hd0 : d = 0 := by omega
  subst hd0; rw [Nat.gcd_zero_right] at hg; rw [hg]; exact h _
theorem w_Gcd {a b : Int} {Q : Int × Int -> Prop} (ha : 0 <= a) (ha2 : a <= 1000000) (hb : 0 <= b) (hb2 : b <= 1000000) (h : Q (((Int.gcd a b : Nat) : Int), 0)) : Zx a b Q := by
 refine Yd (by omega) (by omega) ⟨(fun c => by cases c), fun _ => Yd (by omega) (by omega) ⟨(fun c => by cases c), fun _ => ZQ ha (ZQ hb ?_)⟩⟩; obtain ⟨x, rfl⟩ := Int.eq_ofNat_of_zero_le ha; obtain ⟨y, rfl⟩ := Int.eq_ofNat_of_zero_le hb; exact Jat (by omega) (by omega) fun _ => h
theorem JY {x n : Int} {Q : Int -> Prop} (hn : 0 < n) (h64 : n <= 1000000) (h : Q ((Int.gcd x n : Nat) : Int)) : JA x n Q := by
 refine J8 hn h64 (w_Gcd (Yj hn).1 (by have := (Yj (x := x) hn).2; omega) (by omega) h64 ?_); rw [QM (show x % n % n = x % n from Int.emod_emod _ _)]; exact h
theorem Zy {a b : Nat} {Q : Int -> Prop} (h : Q ((Nat.gcd a b : Nat) : Int)) : Qj a b Q := by
 refine ⟨fun z y => ∃ c d : Nat, z = c /\ y = d /\ Nat.gcd c d = Nat.gcd a b, fun _ y => y.toNat, ⟨a, b, rfl, rfl, rfl⟩, ?_⟩; rintro _ _ ⟨c, d, rfl, rfl, hg⟩; have e : ((c : Int).tmod (d : Int)) = ((c % d : Nat) : Int) := rfl; refine ⟨fun hd => ⟨by omega, ⟨d, c % d, rfl, e, by rw [<- hg, Nat.gcd_comm c d, Nat.gcd_rec d c, Nat.gcd_comm]⟩, ?_⟩, fun hd => ?_⟩
 .rw [e]; have := Nat.mod_lt c (show 0 < d by omega); show ((c % d : Nat) : Int).toNat < ((d : Nat) : Int).toNat; omega
 .have hd0 : d = 0 := by omega
  subst hd0; rw [Nat.gcd_zero_right] at hg; rw [hg]; exact h
theorem w_rGcd {a b : Int} {Q : Int -> Prop} (ha : 0 <= a) (hb : 0 <= b) (h : Q ((Int.gcd a b : Nat) : Int)) : JT a b Q := by
 obtain ⟨x, rfl⟩ := Int.eq_ofNat_of_zero_le ha; obtain ⟨y, rfl⟩ := Int.eq_ofNat_of_zero_le hb; refine ⟨fun e => ?_, fun _ => Zy h⟩; have : x = 0 := by omega
 subst this; have e2 : ((Int.gcd ((0 : Nat) : Int) (y : Int) : Nat) : Int) = y := by simp
 rw [e2] at h; exact h
end Go.Proofs.Ytppkigdakobebaa
namespace Go.Proofs.Ytppkigdakobebaa
/-! ### runs inside a list of zeros; Check -/
theorem mulb {i r : Int} (h0 : 0 <= i) (h1 : i <= 64) (h2 : -2147483648 <= r) (h3 : r <= 2147483648) : -137438953472 <= i * r /\ i * r <= 137438953472 := by
  have a := Int.mul_le_mul_of_nonneg_left h3 h0
  have b := Int.mul_le_mul_of_nonneg_left h2 h0
  omega
def ZP (P : Int -> Prop) (s t c x m : Int) : Prop := ∀ i j : Int, 0 <= i -> i < c -> 0 <= j -> j <= m -> P (s + i * t + j * x)
theorem Mk.at {n : Int} {P : Int -> Prop} {z : List Bool} (hP : Per n P) (hn : 0 < n) (h : Mk n P z) (x : Int) : gb z (x % n) = true ↔ P x := by
 have := Yj (x := x) hn; rw [h.2 _ this.1 this.2]; exact ⟨hP _ _ (Int.emod_emod _ _), hP _ _ (Int.emod_emod _ _).symm⟩
theorem QQ {n : Int} {P : Int -> Prop} {z : List Bool} {r0 r1 r2 r3 r4 : Int} {Q : Bool -> Prop} (hP : Per n P) (hn : 0 < n) (h64 : n <= 64) (hz : Mk n P z)
  (a0 : -2147483648 <= r0) (b0 : r0 <= 2147483648) (a1 : -2147483648 <= r1) (b1 : r1 <= 2147483648) (a3 : -2147483648 <= r3) (b3 : r3 <= 2147483648) (a2 : 0 <= r2) (b2 : r2 <= 64) (a4 : 0 <= r4) (b4 : r4 <= 63 + 1)
  (hT : ZP P r0 r1 r2 r3 r4 -> Q true) (hF : ¬ ZP P r0 r1 r2 r3 r4 -> Q false) : JD r0 r1 r2 r3 r4 z Q := by
 refine ⟨JJ (by omega) (by omega), fun j => 0 <= j /\ j <= r4 + 1 /\ ∀ i k : Int, 0 <= i -> i < r2 -> 0 <= k -> k < j -> P (r0 + i * r1 + k * r3), fun j => (r4 + 1 - j).toNat, ⟨by omega, by omega, fun i k _ _ c d => by omega⟩, ?_⟩; rintro j ⟨h0, h1, hj⟩; refine ⟨fun hlt => ?_, fun hge => hT fun i k c1 c2 c3 c4 => hj i k c1 c2 c3 (by omega)⟩; refine ⟨fun i => 0 <= i /\ i <= r2 /\ ∀ k : Int, 0 <= k -> k < i -> P (r0 + k * r1 + j * r3), fun i => (r2 - i).toNat, ⟨by omega, by omega, fun k _ _ => by omega⟩, ?_⟩; rintro i ⟨g0, g1, hi⟩; refine ⟨fun hlt2 => ?_, fun hge2 => ?_⟩
 .have m1 := mulb (i := i) g0 (by omega) a1 b1; have m2 := mulb (i := j) h0 (by omega) a3 b3; refine ⟨JJ (by omega) (by omega), JJ (by omega) (by omega), JJ (by omega) (by omega), JJ (by omega) (by omega), ?_⟩; rw [hz.1]; have hb := Yj (x := r0 + i * r1 + j * r3) hn; refine J8 hn (by omega) ⟨hb, ?_⟩; have hk := hz.at hP hn (r0 + i * r1 + j * r3); refine ⟨fun e => hF fun hall => ?_, fun e => ?_⟩
  .have := hk.2 (hall i j g0 hlt2 h0 (by omega)); rw [this] at e; cases e
  .have hp : P (r0 + i * r1 + j * r3) := hk.1 (by simpa using e); refine ⟨JJ (by omega) (by omega), ⟨by omega, by omega, fun k c1 c2 => ?_⟩, by show (r2 - (i + 1)).toNat < (r2 - i).toNat; omega⟩; by_cases ek : k = i
   .subst ek; exact hp
   .exact hi k c1 (by omega)
 .refine ⟨JJ (by omega) (by omega), ⟨by omega, by omega, fun i' k c1 c2 c3 c4 => ?_⟩, by show (r4 + 1 - (j + 1)).toNat < (r4 + 1 - j).toNat; omega⟩; by_cases ek : k = j
  .subst ek; exact hi i' c1 (by omega)
  .exact hj i' k c1 c2 c3 (by omega)
def Zd (x : Int) : Prop := -2147483648 <= x /\ x <= 2147483648
theorem QP {x : Int} {Q : Bool -> Prop} (h1 : Zd x -> Q true) (h0 : ¬ Zd x -> Q false) : J0 x Q := by
 refine ⟨fun a => ?_, fun a => h0 fun c => a c.1⟩; by_cases b : x <= 2147483648
 .rw [decide_eq_true b]; exact h1 ⟨a, b⟩
 .rw [decide_eq_false b]; exact h0 fun c => b c.2
theorem YU {x : Int} {Q : Bool -> Prop} (h1 : Zd x -> Q true) (h0 : ¬ Zd x -> Q false) : QF x Q := by
 refine ⟨fun a => ?_, fun a => h0 fun c => a c.1⟩; by_cases b : x <= 2147483648
 .rw [decide_eq_true b]; exact h1 ⟨a, b⟩
 .rw [decide_eq_false b]; exact h0 fun c => b c.2
def Q8 (n r0 r1 r2 r3 r4 : Int) : Prop := Zd r0 /\ Zd r1 /\ Zd r3 /\ 1 <= r2 /\ r2 <= n /\ 0 <= r4 /\ r4 <= n
theorem nT {A B : Prop} (h : B) : ((!true) = true -> A) /\ ((!true) = false -> B) := ⟨fun e => absurd e (by decide), fun _ => h⟩
theorem nF {A B : Prop} (h : A) : ((!false) = true -> A) /\ ((!false) = false -> B) := ⟨fun _ => h, fun e => absurd e (by decide)⟩
theorem Jau {r0 r1 r2 r3 r4 : Int} {Q : Int -> Prop} (a2 : 0 <= r2) (b2 : r2 <= 64) (a4 : 0 <= r4) (b4 : r4 <= 64) (h : Q (r2 + 1 + r4)) : J7 r0 r1 r2 r3 r4 Q :=
 ⟨JJ (by omega) (by omega), JJ (by omega) (by omega), h⟩
theorem Zf {n : Int} {P : Int -> Prop} {r0 r1 r2 r3 r4 : Int} (h : Q8 n r0 r1 r2 r3 r4) : Val n P r0 r1 r2 r3 r4 ↔ Int.gcd r1 n = 1 /\ (0 < r4 -> (Int.gcd r3 n : Int) <= r2) /\ ZP P r0 r1 r2 r3 r4 :=
 ⟨fun v => ⟨v.2.2.2.2.1, v.2.2.2.2.2.1, v.2.2.2.2.2.2⟩, fun v => ⟨h.2.2.2.1, h.2.2.2.2.1, h.2.2.2.2.2.1, h.2.2.2.2.2.2, v.1, v.2.1, v.2.2⟩⟩
theorem ZS {n : Int} {z : LI} {r0 r1 r2 r3 r4 : Int} {Q : Int × Int -> Prop} (hz : z.length <= 1000) (h4 : ¬ (1 <= n /\ n <= 64) -> Q (0, 4)) (h6 : 1 <= n -> n <= 64 -> ¬ Q8 n r0 r1 r2 r3 r4 -> Q (0, 6))
  (h13 : 1 <= n -> n <= 64 -> Q8 n r0 r1 r2 r3 r4 -> ¬ Val n (PZ n z) r0 r1 r2 r3 r4 -> Q (0, 13)) (h0 : 1 <= n -> n <= 64 -> Q8 n r0 r1 r2 r3 r4 -> Val n (PZ n z) r0 r1 r2 r3 r4 -> Q (r2 + 1 + r4, 0)) : Qv n z r0 r1 r2 r3 r4 Q := by
 refine YX ?_; by_cases hn : 1 <= n /\ n <= 64
 case neg => rw [decide_eq_false hn]; exact nF (h4 hn)
 rw [decide_eq_true hn]; obtain ⟨n1, n64⟩ := hn; refine nT (QP (fun N0 => nT (QP (fun N1 => nT (QP (fun N3 => nT ?_) fun c => nF (h6 n1 n64 fun a => c a.2.2.1))) fun c => nF (h6 n1 n64 fun a => c a.2.1))) fun c => nF (h6 n1 n64 fun a => c a.1)); refine ⟨fun c => h6 n1 n64 fun a => by have := a.2.2.2.1; omega, fun c2 => ⟨fun c => h6 n1 n64 fun a => by have := a.2.2.2.2.1; omega, fun c3 => ⟨fun c => h6 n1 n64 fun a => by have := a.2.2.2.2.2.1; omega, fun c4 => ⟨fun c => h6 n1 n64 fun a => by have := a.2.2.2.2.2.2; omega, fun c5 => ?_⟩⟩⟩⟩; have ha : Q8 n r0 r1 r2 r3 r4 := ⟨N0, N1, N3, by omega, by omega, by omega, by omega⟩
 have hv := Zf (P := PZ n z) ha; have inside : ∀ x62 : List Bool, Mk n (PZ n z) x62 -> Int.gcd r1 n = 1 -> (0 < r4 -> (Int.gcd r3 n : Int) <= r2) -> ∃ (r71 : Bool), JD r0 r1 r2 r3 r4 x62 (fun q => q = r71) /\ ((((!r71) = true) -> (Q ((0 : Int), (13 : Int)))) /\ ((!r71) = false -> (J7 r0 r1 r2 r3 r4 (fun r79 => Q (r79, (0 : Int)))))) := fun x62 hx g1 g3 => by
  by_cases hall : ZP (PZ n z) r0 r1 r2 r3 r4
  .exact ⟨true, QQ (Jas n z) (by omega) n64 hx N0.1 N0.2 N1.1 N1.2 N3.1 N3.2 (by omega) (by omega) (by omega) (by omega) (fun _ => rfl) (fun c => absurd hall c), nT (Jau (by omega) (by omega) (by omega) (by omega) (h0 n1 n64 ha (hv.2 ⟨g1, g3, hall⟩)))⟩
  .exact ⟨false, QQ (Jas n z) (by omega) n64 hx N0.1 N0.2 N1.1 N1.2 N3.1 N3.2 (by omega) (by omega) (by omega) (by omega) (fun c => absurd c hall) (fun _ => rfl), nF (h13 n1 n64 ha fun v => hall (hv.1 v).2.2)⟩
 have marks : ∀ {R : List Bool -> Prop}, (∀ x, Mk n (PZ n z) x -> R x) -> ∃ (x62 : List Bool), JU n z (fun q => q = x62) /\ R x62 := fun {R} hR => by
  refine ⟨(List.range n.toNat).map fun i => @decide (PZ n z (i : Nat)) (Classical.propDecidable _), ZR (by omega) n64 hz fun x hx => ?_, hR _ ?_⟩
  .apply List.ext_getElem?; intro i; by_cases hi : i < n.toNat
   .have h1 := hx.2 i (by omega) (by omega); have hl : i < x.length := by have := hx.1; omega
    unfold gb at h1; rw [Int.toNat_natCast, List.getD_eq_getElem?_getD, List.getElem?_eq_getElem hl] at h1; rw [List.getElem?_eq_getElem hl, List.getElem?_map, List.getElem?_range hi]; simp only [Option.map_some, Option.getD_some] at h1 ⊢
    congr 1
    by_cases hp : PZ n z (i : Nat)
    .rw [h1.2 hp]; simp [hp]
    .have : x[i] = false := by
      cases hxi : x[i] with
      | false => rfl
      | true => exact absurd (h1.1 hxi) hp
     rw [this]; simp [hp]
   .rw [List.getElem?_eq_none (by have := hx.1; omega), List.getElem?_eq_none (by simp; omega)]
  .refine ⟨by simp; omega, fun i a b => ?_⟩; unfold gb; rw [List.getD_eq_getElem?_getD, List.getElem?_map, List.getElem?_range (by omega : i.toNat < n.toNat)]; simp only [Option.map_some, Option.getD_some]; have e : ((i.toNat : Nat) : Int) = i := Int.toNat_of_nonneg a; rw [<- e]; exact @decide_eq_true_iff _ (Classical.propDecidable _)
 by_cases g1 : Int.gcd r1 n = 1
 case neg => exact .inl ⟨_, JY (by omega) (by omega) rfl, by omega, h13 n1 n64 ha fun v => g1 (hv.1 v).1⟩
 by_cases g3 : 0 < r4 -> (Int.gcd r3 n : Int) <= r2
 case neg =>
  have hr4 : 0 < r4 := Classical.byContradiction fun c => g3 fun d => absurd d c; have hlt : r2 < (Int.gcd r3 n : Int) := by
   rcases Int.lt_or_le r2 (Int.gcd r3 n : Int) with q | q
   .exact q
   .exact absurd (fun _ => q) g3
  exact .inr (.inl ⟨fun _ => ⟨_, JY (by omega) (by omega) rfl, by omega, _, JY (by omega) (by omega) rfl, hlt, h13 n1 n64 ha fun v => g3 (hv.1 v).2.1⟩, fun c => absurd hr4 c⟩)
 refine .inr (.inr ?_); refine ⟨fun hr4 => ⟨_, JY (by omega) (by omega) rfl, by omega, _, JY (by omega) (by omega) rfl, by have := g3 hr4; omega, marks fun x hx => inside x hx g1 g3⟩, fun hr4 => ⟨_, JY (by omega) (by omega) rfl, by omega, marks fun x hx => inside x hx g1 g3⟩⟩
theorem YV {n : Int} {l : LI} {Q : LI -> Prop} (hn : 0 < n) (h64 : n <= 1000000) (hl : l.length <= 100000) (h : ∀ x : LI, x.length <= 1000000 -> (∀ y : Int, y % n ∈ x ↔ PZ n l y) -> Q x) : JC n l Q := by
 refine ⟨fun x z => 0 <= z /\ z <= (l.length : Nat) /\ (x.length : Int) = z /\ ∀ i : Int, 0 <= i -> i < z -> gi x i = gi l i % n, fun _ z => ((l.length : Nat) - z : Int).toNat, ⟨by omega, by omega, rfl, fun i _ _ => by omega⟩, ?_⟩; rintro x z ⟨h0, h1, hx, hk⟩; refine ⟨fun hlt => ⟨⟨h0, hlt⟩, YW hn h64 ⟨by omega, JJ (by omega) (by omega), ⟨by omega, by omega, by rw [List.length_append]; simp; omega, fun i a b => ?_⟩, by show ((l.length : Nat) - (z + 1) : Int).toNat < ((l.length : Nat) - z : Int).toNat; omega⟩⟩, fun hge => h x (by omega) fun y => ?_⟩
 .by_cases e : i = z
  .subst e; rw [<- hx, Ja9]
  .rw [gi_app a (by omega)]; exact hk i a (by omega)
 .have : z = (l.length : Nat) := by omega
  subst this; rw [Qo]; constructor
  .rintro ⟨j, a, b, e⟩; rw [hk j a (by omega)] at e; exact ⟨gi l j, Qo.2 ⟨j, a, by omega, rfl⟩, e⟩
  .rintro ⟨u, hu, e⟩; obtain ⟨j, a, b, rfl⟩ := Qo.1 hu; exact ⟨j, a, by omega, by rw [hk j a b]; exact e⟩
theorem w_has {l : LI} {x : Int} {Q : Bool -> Prop} (hl : l.length <= 1000000) (h1 : x ∈ l -> Q true) (h0 : x ∉ l -> Q false) : Q6 l x Q := by
 refine ⟨fun z => 0 <= z /\ ∀ i : Int, 0 <= i -> i < z -> i < (l.length : Nat) -> gi l i ≠ x, fun z => ((l.length : Nat) - z : Int).toNat, ⟨by omega, fun i _ _ => by omega⟩, ?_⟩; rintro z ⟨g0, hk⟩; refine ⟨fun hlt => ⟨⟨g0, hlt⟩, fun e => h1 (Qo.2 ⟨z, g0, hlt, e⟩), fun e => ⟨JJ (by omega) (by omega), ⟨by omega, fun i a b c => ?_⟩, by show ((l.length : Nat) - (z + 1) : Int).toNat < ((l.length : Nat) - z : Int).toNat; omega⟩⟩, fun hge => h0 fun hm => ?_⟩
 .by_cases ei : i = z
  .subst ei; exact e
  .exact hk i a (by omega) c
 .obtain ⟨j, a, b, e⟩ := Qo.1 hm; exact hk j a (by omega) b e
theorem Yl {n r0 r1 r2 r3 r4 : Int} {Q : Int -> Prop} (h4 : ¬ (1 <= n /\ n <= 64) -> Q 4) (h6 : 1 <= n -> n <= 64 -> ¬ Q8 n r0 r1 r2 r3 r4 -> Q 6) (h0 : 1 <= n -> n <= 64 -> Q8 n r0 r1 r2 r3 r4 -> Q 0) : JR n r0 r1 r2 r3 r4 Q := by
 refine ⟨fun c => h4 (by omega), fun c1 => ⟨fun c => h4 (by omega), fun c2 => ?_⟩⟩; have n1 : 1 <= n := by omega
 have n64 : n <= 64 := by omega
 refine YU (fun N0 => nT (YU (fun N1 => nT (YU (fun N3 => nT ?_) fun c => nF (h6 n1 n64 fun a => c a.2.2.1))) fun c => nF (h6 n1 n64 fun a => c a.2.1))) fun c => nF (h6 n1 n64 fun a => c a.1); exact ⟨fun c => h6 n1 n64 fun a => by have := a.2.2.2.1; omega, fun c2 => ⟨fun c => h6 n1 n64 fun a => by have := a.2.2.2.2.1; omega, fun c3 => ⟨fun c => h6 n1 n64 fun a => by have := a.2.2.2.2.2.1; omega, fun c4 => ⟨fun c => h6 n1 n64 fun a => by have := a.2.2.2.2.2.2; omega, fun c5 => h0 n1 n64 ⟨N0, N1, N3, by omega, by omega, by omega, by omega⟩⟩⟩⟩⟩
theorem rloop {n : Int} {z : LI} {r0 r1 r2 r3 r4 : Int} {Q : Int × Int -> Prop} (hz : z.length <= 1000) (n1 : 1 <= n) (n64 : n <= 64) (ha : Q8 n r0 r1 r2 r3 r4)
  (h13 : ¬ ZP (PZ n z) r0 r1 r2 r3 r4 -> Q (0, 13)) (h0 : ZP (PZ n z) r0 r1 r2 r3 r4 -> Q (r2 + 1 + r4, 0)) : JC n z (fun x118 => ∃ (I125 : Int -> Prop) (μ126 : Int -> Nat), I125 (0 : Int) /\ ∀ (z124 : Int), (I125 z124 -> (((z124 < r2) -> (∃ (I132 : Int -> Prop) (μ133 : Int -> Nat), I132 (0 : Int) /\ ∀ (z131 : Int), (I132 z131 -> (((z131 <= r4) -> ((I64 (z124 * r1)) /\ ((I64 (r0 + (z124 * r1))) /\ ((I64 (z131 * r3)) /\ ((I64 ((r0 + (z124 * r1)) + (z131 * r3))) /\ (Jz ((r0 + (z124 * r1)) + (z131 * r3)) n (fun r141 => Q6 x118 r141 (fun r143 => (((!r143) = true) -> (Q ((0 : Int), (13 : Int)))) /\ ((!r143) = false -> ((I64 (z131 + (1 : Int))) /\ (I132 (z131 + (1 : Int)) /\ μ133 (z131 + (1 : Int)) < μ133 z131))))))))))) /\ (¬ (z131 <= r4) -> ((I64 (z124 + (1 : Int))) /\ (I125 (z124 + (1 : Int)) /\ μ126 (z124 + (1 : Int)) < μ126 z124))))))) /\ (¬ (z124 < r2) -> ((I64 (r2 + (1 : Int))) /\ ((I64 ((r2 + (1 : Int)) + r4)) /\ (Q (((r2 + (1 : Int)) + r4), (0 : Int))))))))) := by
 obtain ⟨N0, N1, N3, A1, A2, A3, A4⟩ := ha; refine YV (by omega) (by omega) (by omega) fun x hxl hx => ?_; refine ⟨fun i => 0 <= i /\ i <= r2 /\ ∀ k j : Int, 0 <= k -> k < i -> 0 <= j -> j <= r4 -> PZ n z (r0 + k * r1 + j * r3), fun i => (r2 - i).toNat, ⟨by omega, by omega, fun k j _ _ => by omega⟩, ?_⟩; rintro i ⟨g0, g1, hi⟩; refine ⟨fun hlt => ?_, fun hge => ⟨JJ (by omega) (by omega), JJ (by omega) (by omega), h0 fun k j a b c d => hi k j a (by omega) c d⟩⟩; refine ⟨fun j => 0 <= j /\ j <= r4 + 1 /\ ∀ k : Int, 0 <= k -> k < j -> PZ n z (r0 + i * r1 + k * r3), fun j => (r4 + 1 - j).toNat, ⟨by omega, by omega, fun k _ _ => by omega⟩, ?_⟩; rintro j ⟨f0, f1, hj⟩; refine ⟨fun hlt2 => ?_, fun hge2 => ⟨JJ (by omega) (by omega), ⟨by omega, by omega, fun k j' a b c d => ?_⟩, by show (r2 - (i + 1)).toNat < (r2 - i).toNat; omega⟩⟩
 .have q1 := N0.1; have q2 := N0.2; have m1 := mulb (i := i) g0 (by omega) N1.1 N1.2; have m2 := mulb (i := j) f0 (by omega) N3.1 N3.2; refine ⟨JJ (by omega) (by omega), JJ (by omega) (by omega), JJ (by omega) (by omega), JJ (by omega) (by omega), YW (by omega) (by omega) (w_has hxl (fun hm => nT ⟨JJ (by omega) (by omega), ⟨by omega, by omega, fun k a b => ?_⟩, by show (r4 + 1 - (j + 1)).toNat < (r4 + 1 - j).toNat; omega⟩) fun hm => nF (h13 fun hall => hm ((hx _).2 (hall i j g0 hlt f0 (by omega)))))⟩; by_cases ek : k = j
  .subst ek; exact (hx _).1 hm
  .exact hj k a (by omega)
 .by_cases ek : k = i
  .subst ek; exact hj j' c (by omega)
  .exact hi k j' a (by omega) c d
theorem Qg {n : Int} {z : LI} {r0 r1 r2 r3 r4 : Int} {Q : Int × Int -> Prop} (hz : z.length <= 1000) (h4 : ¬ (1 <= n /\ n <= 64) -> Q (0, 4)) (h6 : 1 <= n -> n <= 64 -> ¬ Q8 n r0 r1 r2 r3 r4 -> Q (0, 6))
  (h13 : 1 <= n -> n <= 64 -> Q8 n r0 r1 r2 r3 r4 -> ¬ Val n (PZ n z) r0 r1 r2 r3 r4 -> Q (0, 13)) (h0 : 1 <= n -> n <= 64 -> Q8 n r0 r1 r2 r3 r4 -> Val n (PZ n z) r0 r1 r2 r3 r4 -> Q (r2 + 1 + r4, 0)) : Qi n z r0 r1 r2 r3 r4 Q := by
 refine Yl (fun c => ⟨fun _ => h4 c, fun e => absurd (by decide) e⟩) (fun a b c => ⟨fun _ => h6 a b c, fun e => absurd (by decide) e⟩) fun n1 n64 ha => ⟨fun e => absurd rfl e, fun _ => ?_⟩
 have hv := Zf (P := PZ n z) ha; have hn : 0 < n := by omega
 have gg : ∀ x : Int, ∃ r : Int, Jz x n (fun q => q = r) /\ ∃ g : Int, JT r n (fun q => q = g) /\ r = x % n /\ g = ((Int.gcd x n : Nat) : Int) := fun x =>
  ⟨x % n, YW hn (by omega) rfl, _, w_rGcd (Yj hn).1 (by omega) (by rw [QM (show x % n % n = x % n from Int.emod_emod _ _)]), rfl, rfl⟩
 obtain ⟨a, ea, b, eb, _, hb⟩ := gg r1; obtain ⟨c, ec, d, ed, _, hd⟩ := gg r3; by_cases g1 : Int.gcd r1 n = 1
 case neg => exact .inl ⟨a, ea, b, eb, by omega, h13 n1 n64 ha fun v => g1 (hv.1 v).1⟩
 by_cases g3 : 0 < r4 -> (Int.gcd r3 n : Int) <= r2
 case neg =>
  have hr4 : 0 < r4 := Classical.byContradiction fun c => g3 fun d => absurd d c; have hlt : r2 < (Int.gcd r3 n : Int) := by
   rcases Int.lt_or_le r2 (Int.gcd r3 n : Int) with q | q
   .exact q
   .exact absurd (fun _ => q) g3
  exact .inr (.inl ⟨fun _ => ⟨a, ea, b, eb, by omega, c, ec, d, ed, by omega, h13 n1 n64 ha fun v => g3 (hv.1 v).2.1⟩, fun c => absurd hr4 c⟩)
 have L := rloop (Q := Q) hz n1 n64 ha (fun hn => h13 n1 n64 ha fun v => hn (hv.1 v).2.2) (fun hall => h0 n1 n64 ha (hv.2 ⟨g1, g3, hall⟩)); exact .inr (.inr ⟨fun hr4 => ⟨a, ea, b, eb, by omega, c, ec, d, ed, by have := g3 hr4; omega, L⟩, fun _ => ⟨a, ea, b, eb, by omega, L⟩⟩)
theorem Ya (n : Int) (z : LI) (r0 r1 r2 r3 r4 : Int) : Qe n z r0 r1 r2 r3 r4 (fun b => b = true) := by
 refine ⟨fun _ => rfl, fun hl => ?_⟩; have hz : z.length <= 1000 := by omega
 have ok : ∀ a b : Int, (a = a -> decide (b = b) = true) /\ (¬ a = a -> false = true) := fun a b => ⟨fun _ => decide_eq_true rfl, fun e => absurd rfl e⟩
 exact ZS hz (fun c => Qg hz (fun _ => ok _ _) (fun a b => absurd ⟨a, b⟩ c) (fun a b => absurd ⟨a, b⟩ c) (fun a b => absurd ⟨a, b⟩ c))
  (fun a b c => Qg hz (fun d => absurd ⟨a, b⟩ d) (fun _ _ _ => ok _ _) (fun _ _ d => absurd d c) (fun _ _ d => absurd d c))
  (fun a b c v => Qg hz (fun d => absurd ⟨a, b⟩ d) (fun _ _ d => absurd c d) (fun _ _ _ _ => ok _ _) (fun _ _ _ d => absurd d v))
  (fun a b c v => Qg hz (fun d => absurd ⟨a, b⟩ d) (fun _ _ d => absurd c d) (fun _ _ _ d => absurd v d) (fun _ _ _ _ => ok _ _))
end Go.Proofs.Ytppkigdakobebaa
