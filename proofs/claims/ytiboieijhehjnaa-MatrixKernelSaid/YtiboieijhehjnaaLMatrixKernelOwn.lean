/- What only this law leans on. -/
import Derived.Test.YtiboieijhehjnaaMatrixKernelG9
set_option linter.unusedVariables false
namespace Go.Proofs.Ytiboieijhehjnaa
open Go.RowKit
theorem Try.nm27 : (Try.f27.name == "runtime.NumGoroutine") = false := by kernel_rfl
theorem Try.nm28 : (Try.f28.name == "runtime.NumGoroutine") = false := by kernel_rfl
theorem Try.nm34 : (Try.f34.name == "runtime.NumGoroutine") = false := by kernel_rfl
theorem Try.nm60 : (Try.f60.name == "runtime.NumGoroutine") = false := by kernel_rfl
theorem Try.nm63 : (Try.f63.name == "runtime.NumGoroutine") = false := by kernel_rfl
theorem Try.nm69 : (Try.f69.name == "runtime.NumGoroutine") = false := by kernel_rfl
theorem Try.nm74 : (Try.f74.name == "runtime.NumGoroutine") = false := by kernel_rfl
theorem Try.nm102 : (Try.f102.name == "runtime.NumGoroutine") = false := by kernel_rfl
theorem Try.nm103 : (Try.f103.name == "runtime.NumGoroutine") = false := by kernel_rfl
end Go.Proofs.Ytiboieijhehjnaa
namespace Go.Proofs.Ytiboieijhehjnaa
open Go.RowKit
abbrev XF102 := Try.func102
abbrev XF103 := Try.func103
abbrev XF27 := Try.func27
abbrev XF28 := Try.func28
abbrev XF34 := Try.func34
abbrev XF60 := Try.func60
abbrev XF63 := Try.func63
abbrev XF69 := Try.func69
abbrev XF7 := Try.func7
abbrev XF74 := Try.func74
abbrev XN102 := Try.nm102
abbrev XN103 := Try.nm103
abbrev XN27 := Try.nm27
abbrev XN28 := Try.nm28
abbrev XN34 := Try.nm34
abbrev XN60 := Try.nm60
abbrev XN63 := Try.nm63
abbrev XN69 := Try.nm69
abbrev XN74 := Try.nm74
end Go.Proofs.Ytiboieijhehjnaa
set_option linter.unusedSimpArgs false
set_option linter.unusedVariables false
set_option maxRecDepth 4000
set_option maxHeartbeats 4000000
namespace Go.Proofs.Ytiboieijhehjnaa
open Go.RowKit
def Jhd (Pf : Int) (Mf : Int) (mf : List Int) (x : Int) (Q : Int -> Prop) : Prop :=
  Ym Pf Mf mf x (fun x14 => ∃ (I24 : List Int -> Int -> Prop) (μ25 : List Int -> Int -> Nat), I24 x14 (0 : Int) /\ ∀ (x22 : List Int) (z23 : Int), (I24 x22 z23 -> (((z23 < (x14.length : Int)) -> ((0 <= z23 /\ z23 < (x14.length : Nat)) /\ ((I64 (Pf - (gi x22 z23))) /\ ((Pf ≠ 0) /\ ((0 <= z23 /\ z23 < (x14.length : Nat)) /\ ((I64 (z23 + (1 : Int))) /\ (I24 (si x22 z23 ((Pf - (gi x22 z23)).tmod Pf)) (z23 + (1 : Int)) /\ μ25 (si x22 z23 ((Pf - (gi x22 z23)).tmod Pf)) (z23 + (1 : Int)) < μ25 x22 z23))))))) /\ (¬ (z23 < (x14.length : Int)) -> (Zj Pf Mf mf x22 (fun r48 => Q r48))))))
theorem Jn2 {w : World} {Q : Int -> Prop} {Pf : Int} {Mf : Int} {mf : List Int} {x : Int} {Bf : Nat} {Af : Option Addr} {nf kf : Nat} (hf : Rd Bf w 1 Af nf kf (is mf)) (hv : Jhd Pf Mf mf x Q) :
    Calls Try.prog 60 #[.agg #[.int .i64 Pf, .int .i64 Mf, .slice Af nf kf], .int .i64 x] w fun e w' => ∃ v Qr, e = .returned v /\ w.grownBy w' none /\ Rows w.heap.size none w' Qr /\ News w.heap.size Qr /\ ∃ (r0 : Int), v = .int .i64 r0 /\ Qr = [] /\ Q r0 := by
  have hnf := hf.ilen
  subst hnf
  refine Jp <| Jo (vs := [.agg #[.int .i64 Pf, .int .i64 Mf, .slice Af mf.length kf], .int .i64 x]) [4] XF60 rfl rfl rfl rfl ?_
  have hS := Js w
  unfold Jhd at hv
  refine Jg 2 <| JF (z := 3) (cs := [.int .i64 Pf, .int .i64 Mf, .slice Af mf.length kf]) hS rfl rfl rfl rfl ?_
  intro g11 w12 hS
  refine Jc 2 <| Jg 2 <| Jk (cs := [.int .i64 Pf, .int .i64 Mf, .slice Af mf.length kf]) JT JY rfl rfl (Jb (hS.own (i := 0) rfl)) rfl <| Je rfl rfl <| SL.call hS (Zb (hS.ro hf) hv) Jqc rfl XN86 rfl rfl ?_
  rintro _ _ w13 ⟨x14, A15, k16, rfl, rfl, hv⟩ hGw13 hS
  have hS := hS.n1
  refine Jc 2 <| Jg 5 <| W.block ?_
  obtain ⟨I24, μ25, hv, hk49⟩ := hv
  refine JE (σ := List Int × Int) (fun q w1 => match q with | (x22, z23) => I24 x22 z23 /\ St TT w none w1 [.row 3 1 A15 x14.length k16 (is x22), .row 24 3 (some ⟨g11, 0, none⟩) 1 1 [.int .i64 Pf, .int .i64 Mf, .slice Af mf.length kf]]) (fun q => match q with | (x22, z23) => [(2, .pointer (some ⟨g11, 0, none⟩)), (4, .int .i64 0), (5, .slice A15 x14.length k16), (6, .int .i64 z23)]) (fun q => match q with | (x22, z23) => μ25 x22 z23) (x14, (0 : Int)) ⟨hv, hS⟩ ⟨rfl, rfl, rfl, rfl, trivial⟩ ?_
  rintro ⟨x22, z23⟩ w26 ⟨hv, hS⟩
  have hv := hk49 x22 z23 hv
  refine Jg 5 <| WL.len Jq rfl rfl <| Jc 2 <| Jm rfl (fun c27 => ?_) (fun c27 => ?_)
  .have hv := hv.1 (of_decide_eq_true c27)
   refine Jn <| JB <| W.block ?_
   obtain ⟨o35, hv⟩ := hv
   obtain ⟨o38, hv⟩ := hv
   obtain ⟨o42, hv⟩ := hv
   refine JU 12 [⟨[], [5], true⟩, ⟨[], [6], true⟩, ⟨[], [2], true⟩, ⟨[2], [], false⟩, ⟨[], [5], true⟩, ⟨[], [6], true⟩, ⟨[4, 5], [], true⟩, ⟨[6], [], false⟩, ⟨[3, 7], [], true⟩, ⟨[], [2], true⟩, ⟨[9], [], false⟩, ⟨[8, 10], [], true⟩] [[(5, .slice A15 x14.length k16)], [(6, .int .i64 z23)], [(2, .pointer (some ⟨g11, 0, none⟩))], [], [(5, .slice A15 x14.length k16)], [(6, .int .i64 z23)], [], [], [], [(2, .pointer (some ⟨g11, 0, none⟩))], [], []] [(16, .slice A15 x14.length k16), (17, .int .i64 z23), (18, .pointer (some ⟨g11, 0, none⟩)), (19, .int .i64 Pf), (20, .slice A15 x14.length k16), (21, .int .i64 z23), (22, .pointer (some ((JM A15).add z23.toNat))), (23, .int .i64 (gi x22 z23)), (24, .int .i64 (Pf - (gi x22 z23))), (25, .pointer (some ⟨g11, 0, none⟩)), (26, .int .i64 Pf), (27, .int .i64 ((Pf - (gi x22 z23)).tmod Pf))] Try.mixed (by kernel_rfl) rfl rfl ?_ ?_
   . refine ⟨⟨rfl, ⟨rfl, trivial⟩, fun _ _ _ => Je rfl rfl <| Ja ⟨rfl, rfl⟩⟩, ⟨rfl, ⟨rfl, trivial⟩, fun _ _ _ => Je rfl rfl <| Ja ⟨rfl, rfl⟩⟩, ⟨rfl, ⟨rfl, trivial⟩, fun _ _ _ => Jh (off := 0) Qi rfl rfl <| Ja ⟨rfl, rfl⟩⟩, ⟨rfl, trivial, fun _ hE _ => have hS := hS.grow (hE rfl); Jd XU3 rfl rfl (Jb (hS.own (i := 1) rfl) 0 _ rfl) rfl <| Ja ⟨rfl, Jj _⟩⟩, ⟨rfl, ⟨rfl, trivial⟩, fun _ _ _ => Je rfl rfl <| Ja ⟨rfl, rfl⟩⟩, ⟨rfl, ⟨rfl, trivial⟩, fun _ _ _ => Je rfl rfl <| Ja ⟨rfl, rfl⟩⟩, ⟨rfl, trivial, fun _ _ _ => Jl Jq XE3 (hS.rd (i := 0) rfl) rfl rfl o35 rfl <| Ja ⟨rfl, rfl⟩⟩, ⟨rfl, trivial, fun _ hE _ => have hS := hS.grow (hE rfl); Jd XU3 rfl rfl (JH (hS.rd (i := 0) rfl) o35) rfl <| Ja ⟨rfl, Jj _⟩⟩, ⟨rfl, trivial, fun _ _ _ => WL.sub (r := (Pf - (gi x22 z23))) rfl rfl (wr o38) rfl <| Ja ⟨rfl, rfl⟩⟩, ⟨rfl, ⟨rfl, trivial⟩, fun _ _ _ => Jh (off := 0) Qi rfl rfl <| Ja ⟨rfl, rfl⟩⟩, ⟨rfl, trivial, fun _ hE _ => have hS := hS.grow (hE rfl); Jd XU3 rfl rfl (Jb (hS.own (i := 1) rfl) 0 _ rfl) rfl <| Ja ⟨rfl, Jj _⟩⟩, ⟨rfl, trivial, fun _ _ _ => Yx (r := ((Pf - (gi x22 z23)).tmod Pf)) rfl rfl o42 rfl rfl <| Ja ⟨rfl, rfl⟩⟩, trivial⟩
   intro w43 hT
   have hS := hS.grow hT
   refine Jf 12 (by decide +kernel) rfl ?_
   obtain ⟨o44, hv⟩ := hv
   refine Jl Jq XE3 (hS.rd (i := 0) rfl) rfl rfl o44 rfl <| Ja <| Jf 13 (by decide +kernel) rfl <| JD (cs' := is (si x22 z23 ((Pf - (gi x22 z23)).tmod Pf))) 0 z23.toNat hS rfl XE3 rfl rfl rfl (QH (hS.rd (i := 0) rfl) o44) (Qn _ _ _) ?_
   intro w45 hS
   refine Ja <| Jr (by decide +kernel) <| Jg 2 ?_
   obtain ⟨o46, hv⟩ := hv
   refine WL.add (r := (z23 + (1 : Int))) rfl rfl (wr o46) rfl <| Jc 2 ?_
   exact ⟨(si x22 z23 ((Pf - (gi x22 z23)).tmod Pf), (z23 + (1 : Int))), ⟨rfl, rfl, rfl, rfl, trivial⟩, hv.2, rfl, hv.1, hS⟩
  have hv := hv.2 (of_decide_eq_false c27)
  refine JA <| Jg 2 <| Jk (cs := [.int .i64 Pf, .int .i64 Mf, .slice Af mf.length kf]) JT JY rfl rfl (Jb (hS.own (i := 1) rfl)) rfl <| Je rfl rfl <| SL.call hS (Jd1 (hS.ro hf) (hS.rd (i := 0) rfl) hv) XF87 rfl XN87 rfl rfl ?_
  rintro _ _ w47 ⟨r48, rfl, rfl, hv⟩ hGw47 hS
  have hS := hS.n0
  refine Jc 2 <| W.ret <| ⟨_, rfl, Fin.nil ?_⟩
  exact ⟨_, hS.ext, (hS.pick [] rfl).rows, Ji (hS.pick [] rfl).rows rfl, ⟨r48, rfl, rfl, hv⟩⟩
def Jju (Pf : Int) (Mf : Int) (mf : List Int) (x : Int) (Q : Int -> Prop) : Prop :=
  ∃ (I16 : Int -> Prop) (μ17 : Int -> Nat), I16 (1 : Int) /\ ∀ (z15 : Int), (I16 z15 -> (ZR Pf Mf mf (fun r20 => ((z15 < r20) -> (Jcr Pf Mf mf x z15 (fun r23 => ((r23 = (1 : Int)) -> Q z15) /\ (¬ (r23 = (1 : Int)) -> ((I64 (z15 + (1 : Int))) /\ (I16 (z15 + (1 : Int)) /\ μ17 (z15 + (1 : Int)) < μ17 z15)))))) /\ (¬ (z15 < r20) -> (Q (0 : Int))))))
theorem Jur {w : World} {Q : Int -> Prop} {Pf : Int} {Mf : Int} {mf : List Int} {x : Int} {Bf : Nat} {Af : Option Addr} {nf kf : Nat} (hf : Rd Bf w 1 Af nf kf (is mf)) (hv : Jju Pf Mf mf x Q) :
    Calls Try.prog 103 #[.agg #[.int .i64 Pf, .int .i64 Mf, .slice Af nf kf], .int .i64 x] w fun e w' => ∃ v Qr, e = .returned v /\ w.grownBy w' none /\ Rows w.heap.size none w' Qr /\ News w.heap.size Qr /\ ∃ (r0 : Int), v = .int .i64 r0 /\ Qr = [] /\ Q r0 := by
  have hnf := hf.ilen
  subst hnf
  refine Jp <| Jo (vs := [.agg #[.int .i64 Pf, .int .i64 Mf, .slice Af mf.length kf], .int .i64 x]) [4] XF103 rfl rfl rfl rfl ?_
  have hS := Js w
  unfold Jju at hv
  refine Jg 2 <| JF (z := 3) (cs := [.int .i64 Pf, .int .i64 Mf, .slice Af mf.length kf]) hS rfl rfl rfl rfl ?_
  intro g11 w12 hS
  refine Jc 2 <| Jg 5 <| W.block ?_
  obtain ⟨I16, μ17, hv, hk26⟩ := hv
  refine JE (σ := Int) (fun z15 w1 => I16 z15 /\ St TT w none w1 [.row 24 3 (some ⟨g11, 0, none⟩) 1 1 [.int .i64 Pf, .int .i64 Mf, .slice Af mf.length kf]]) (fun z15 => [(1, .int .i64 x), (2, .pointer (some ⟨g11, 0, none⟩)), (4, .int .i64 0), (5, .int .i64 z15)]) (fun z15 => μ17 z15) (1 : Int) ⟨hv, hS⟩ ⟨rfl, rfl, rfl, rfl, trivial⟩ ?_
  rintro z15 w18 ⟨hv, hS⟩
  have hv := hk26 z15 hv
  refine Jg 4 <| Jk (cs := [.int .i64 Pf, .int .i64 Mf, .slice Af mf.length kf]) JT JY rfl rfl (Jb (hS.own (i := 0) rfl)) rfl <| SL.call hS (Jd2 (hS.ro hf) hv) XF26 rfl XN26 rfl rfl ?_
  rintro _ _ w19 ⟨r20, rfl, rfl, hv⟩ hGw19 hS
  have hS := hS.n0
  refine Jc 2 <| Jm rfl (fun c21 => ?_) (fun c21 => ?_)
  .have hv := hv.1 (of_decide_eq_true c21)
   refine Jn <| JB <| W.block <| Jg 2 <| Jk (cs := [.int .i64 Pf, .int .i64 Mf, .slice Af mf.length kf]) JT JY rfl rfl (Jb (hS.own (i := 0) rfl)) rfl <| Jc 2 <| SL.call hS (Jff (hS.ro hf) hv) XF59 rfl XN59 rfl rfl ?_
   rintro _ _ w22 ⟨r23, rfl, rfl, hv⟩ hGw22 hS
   have hS := hS.n0
   refine Jc 2 <| Jm rfl (fun c24 => ?_) (fun c24 => ?_)
   .have hv := hv.1 (of_decide_eq_true c24)
    refine Jg 5 <| W.ret <| ⟨_, rfl, Fin.nil ?_⟩
    exact ⟨_, hS.ext, (hS.pick [] rfl).rows, Ji (hS.pick [] rfl).rows rfl, ⟨z15, rfl, rfl, hv⟩⟩
   have hv := hv.2 (of_decide_eq_false c24)
   refine Jn <| Jg 2 ?_
   obtain ⟨o25, hv⟩ := hv
   refine WL.add (r := (z15 + (1 : Int))) rfl rfl (wr o25) rfl <| Jc 2 ?_
   exact ⟨(z15 + (1 : Int)), ⟨rfl, rfl, rfl, rfl, trivial⟩, hv.2, rfl, hv.1, hS⟩
  have hv := hv.2 (of_decide_eq_false c21)
  refine JA <| Jg 4 <| W.ret <| ⟨_, rfl, Fin.nil ?_⟩
  exact ⟨_, hS.ext, (hS.pick [] rfl).rows, Ji (hS.pick [] rfl).rows rfl, ⟨(0 : Int), rfl, rfl, hv⟩⟩
end Go.Proofs.Ytiboieijhehjnaa
set_option linter.unusedSimpArgs false
set_option linter.unusedVariables false
set_option maxRecDepth 4000
set_option maxHeartbeats 4000000
namespace Go.Proofs.Ytiboieijhehjnaa
open Go.RowKit
def Jfs (l : List (List Int)) (Q : List (List Int) -> Prop) : Prop :=
  ∃ (I29 : List (List Int) -> Int -> Prop) (μ30 : List (List Int) -> Int -> Nat), I29 ([] : List (List Int)) (0 : Int) /\ ∀ (x23 : List (List Int)) (z28 : Int), (I29 x23 z28 -> (((z28 < (l.length : Int)) -> ((0 <= z28 /\ z28 < (l.length : Nat)) /\ ((((0 : Nat) + ((gl l z28).length : Nat) : Int) * 8 <= 140737488355328) /\ ((((x23.length : Nat) + (1 : Nat) : Int) * 24 <= 140737488355328) /\ ((I64 (z28 + (1 : Int))) /\ (I29 (x23 ++ [([] : List Int) ++ (gl l z28)]) (z28 + (1 : Int)) /\ μ30 (x23 ++ [([] : List Int) ++ (gl l z28)]) (z28 + (1 : Int)) < μ30 x23 z28)))))) /\ (¬ (z28 < (l.length : Int)) -> Q x23)))
theorem Jr1 {w : World} {Q : List (List Int) -> Prop} {l : List (List Int)} {Al : Option Addr} {nl kl : Nat} (hl : Rl w Al nl kl l) (hv : Jfs l Q) :
    Calls Try.prog 27 #[.slice Al nl kl] w fun e w' => ∃ v Qr, e = .returned v /\ w.grownBy w' none /\ Rows w.heap.size none w' Qr /\ News w.heap.size Qr /\ ∃ (r0 : List (List Int)) (A0 : Option Addr) (k0 : Nat) (hs0 : Hs), v = .slice A0 r0.length k0 /\ Qr = [mx 22 3 A0 r0.length k0 hs0 r0] /\ Q r0 := by
  have hnl := hl.len
  subst hnl
  obtain ⟨hsl, hHl⟩ := hl.heads
  refine Jp <| Jo (vs := [.slice Al l.length kl]) [2] XF27 rfl rfl rfl rfl ?_
  have hS := Js w
  unfold Jfs at hv
  refine Jg 13 <| W.block ?_
  obtain ⟨I29, μ30, hv, hk49⟩ := hv
  have hS := hS.mxNil 22 3
  have hm0 : 0 = ([] : List (List Int)).length := (hS.mxlen (i := 0) rfl).symm
  have hS := hS.relenMx (i := 0) rfl hm0
  change St _ _ _ _ [mx 22 3 none ([] : List (List Int)).length 0 (fun _ => (none, 0)) ([] : List (List Int))] at hS
  refine JE (σ := List (List Int) × Int × Option Addr × Nat × Hs) (fun q w1 => match q with | (x23, z28, A24, k25, hs26) => I29 x23 z28 /\ St TT w none w1 [mx 22 3 A24 x23.length k25 hs26 x23]) (fun q => match q with | (x23, z28, A24, k25, hs26) => [(0, .slice Al l.length kl), (2, .slice none 0 0), (3, .slice A24 x23.length k25), (4, .int .i64 z28)]) (fun q => match q with | (x23, z28, A24, k25, hs26) => μ30 x23 z28) (([] : List (List Int)), (0 : Int), none, 0, (fun _ => (none, 0))) ⟨hv, hS⟩ ⟨rfl, rfl, (sm (by first | rfl | assumption | omega)), rfl, trivial⟩ ?_
  rintro ⟨x23, z28, A24, k25, hs26⟩ w31 ⟨hv, hS⟩
  have hv := hk49 x23 z28 hv
  refine Jg 5 <| WL.len Jt rfl rfl <| Jc 2 <| Jm rfl (fun c32 => ?_) (fun c32 => ?_)
  .have hv := hv.1 (of_decide_eq_true c32)
   refine Jn <| JB <| W.block <| Jg 2 <| JQ (vs := is ([] : List Int)) hS Jq XE3 rfl rfl rfl rfl (J8 _) rfl ?_
   intro A33 w34 hS
   refine Jc 2 ?_
   obtain ⟨o36, hv⟩ := hv
   refine Qf Jt Jy hHl rfl rfl o36 rfl <| Jd Jq rfl rfl (hS.cell (RlH.cell hHl o36)) rfl ?_
   obtain ⟨o37, hv⟩ := hv
   refine SL.append (cs := is ([] : List Int)) (cs' := is (gl l z28)) 0 ((([] : List Int) ++ (gl l z28)).length) (is (([] : List Int) ++ (gl l z28))) hS rfl Jq XE3 (hS.ro (Qw hHl o36)) (J8 _) rfl rfl (apk o37).1 (apk o37).2 (Jba (hS.rd (i := 0) rfl) (hS.ro (Qw hHl o36))) (QD _ _) rfl ?_
   intro A38 k39 w40 hS
   refine JQ (vs := [.slice A38 ((([] : List Int) ++ (gl l z28)).length) k39]) hS Jt Jy rfl rfl rfl rfl (by simp [Value.oneCell']) rfl ?_
   intro A41 w42 hS
   obtain ⟨o44, hv⟩ := hv
   have hS := hS.pick [2, 0, 1] rfl
   have hS := hS.pick [1, 2, 0] rfl
   have hS := Q5 (hS.rd (i := 1) rfl).ilen.symm hS
   change St _ _ _ _ [mx 22 3 A41 1 1 (fun _ => (A38, k39)) [([] : List Int) ++ (gl l z28)], mx 22 3 A24 x23.length k25 hs26 x23] at hS
   refine Qt hS Jt Jy rfl rfl (apk o44).1 (apk o44).2 rfl ?_
   intro A45 k46 w47 hS
   refine Jc 2 <| Jg 2 ?_
   obtain ⟨o48, hv⟩ := hv
   refine WL.add (r := (z28 + (1 : Int))) rfl rfl (wr o48) rfl <| Jc 2 ?_
   exact ⟨(x23 ++ [([] : List Int) ++ (gl l z28)], (z28 + (1 : Int)), A45, k46, (Jb7 x23.length hs26 (fun _ => (A38, k39)))), ⟨rfl, rfl, rfl, rfl, trivial⟩, hv.2, rfl, hv.1, hS⟩
  have hv := hv.2 (of_decide_eq_false c32)
  refine JA <| Jg 5 <| W.ret <| ⟨_, rfl, Fin.nil ?_⟩
  exact ⟨_, hS.ext, (hS.pick [0] rfl).rows, Ji (hS.pick [0] rfl).rows rfl, ⟨x23, A24, k25, hs26, rfl, rfl, hv⟩⟩
def Jdo (Pf : Int) (Mf : Int) (mf : List Int) (a : Int) (y : List Int) (Q : List Int -> Prop) : Prop :=
  (0 <= (y.length : Int) /\ (y.length : Int) * 8 <= 281474976710656 /\ (y.length : Int) <= 281474976710656) /\ (∃ (I23 : List Int -> Int -> Prop) (μ24 : List Int -> Int -> Nat), I23 (List.replicate (y.length : Int).toNat (0 : Int)) (0 : Int) /\ ∀ (x21 : List Int) (z22 : Int), (I23 x21 z22 -> (((z22 < (y.length : Int)) -> ((0 <= z22 /\ z22 < (y.length : Nat)) /\ (∃ (r37 : Int), Jcr Pf Mf mf a (gi y z22) (fun q => q = r37) /\ ((0 <= z22 /\ z22 < ((y.length : Int).toNat : Nat)) /\ ((I64 (z22 + (1 : Int))) /\ (I23 (si x21 z22 r37) (z22 + (1 : Int)) /\ μ24 (si x21 z22 r37) (z22 + (1 : Int)) < μ24 x21 z22)))))) /\ (¬ (z22 < (y.length : Int)) -> Q x21))))
theorem Jpc {w : World} {Q : List Int -> Prop} {Pf : Int} {Mf : Int} {mf : List Int} {a : Int} {y : List Int} {Bf : Nat} {Af : Option Addr} {nf kf : Nat} (hf : Rd Bf w 1 Af nf kf (is mf)) {By : Nat} {Ay : Option Addr} {ny ky : Nat} (hy : Rd By w 1 Ay ny ky (is y)) (hv : Jdo Pf Mf mf a y Q) :
    Calls Try.prog 102 #[.agg #[.int .i64 Pf, .int .i64 Mf, .slice Af nf kf], .int .i64 a, .slice Ay ny ky] w fun e w' => ∃ v Qr, e = .returned v /\ w.grownBy w' none /\ Rows w.heap.size none w' Qr /\ News w.heap.size Qr /\ ∃ (x : List Int)  (A : Option Addr) (c : Nat), v = .slice A x.length c /\ Qr = [.row 3 1 A x.length c (is x)] /\ Q x := by
  have hnf := hf.ilen
  subst hnf
  have hny := hy.ilen
  subst hny
  refine Jp <| Jo (vs := [.agg #[.int .i64 Pf, .int .i64 Mf, .slice Af mf.length kf], .int .i64 a, .slice Ay y.length ky]) [6] XF102 rfl rfl rfl rfl ?_
  have hS := Js w
  unfold Jdo at hv
  refine Jg 2 <| JF (z := 3) (cs := [.int .i64 Pf, .int .i64 Mf, .slice Af mf.length kf]) hS rfl rfl rfl rfl ?_
  intro g11 w12 hS
  refine Jc 2 <| Jg 3 <| WL.len Jq rfl rfl ?_
  obtain ⟨o13, hv⟩ := hv
  refine QB (J := (y.length : Int)) hS Jq XE3 rfl rfl o13 (QG _) rfl ?_
  intro A14 w15 hS
  refine Jc 2 <| Jg 5 <| W.block ?_
  obtain ⟨I23, μ24, hv, hk44⟩ := hv
  refine JE (σ := List Int × Int) (fun q w1 => match q with | (x21, z22) => I23 x21 z22 /\ St TT w none w1 [.row 3 1 A14 ((y.length : Int).toNat) ((y.length : Int).toNat) (is x21), .row 24 3 (some ⟨g11, 0, none⟩) 1 1 [.int .i64 Pf, .int .i64 Mf, .slice Af mf.length kf]]) (fun q => match q with | (x21, z22) => [(1, .int .i64 a), (2, .slice Ay y.length ky), (3, .pointer (some ⟨g11, 0, none⟩)), (6, .slice none 0 0), (7, .slice A14 ((y.length : Int).toNat) ((y.length : Int).toNat)), (8, .int .i64 z22)]) (fun q => match q with | (x21, z22) => μ24 x21 z22) (List.replicate (y.length : Int).toNat (0 : Int), (0 : Int)) ⟨hv, hS⟩ ⟨rfl, rfl, rfl, rfl, rfl, rfl, trivial⟩ ?_
  rintro ⟨x21, z22⟩ w25 ⟨hv, hS⟩
  have hv := hk44 x21 z22 hv
  refine Jg 5 <| WL.len Jq rfl rfl <| Jc 2 <| Jm rfl (fun c26 => ?_) (fun c26 => ?_)
  .have hv := hv.1 (of_decide_eq_true c26)
   refine Jn <| JB <| W.block ?_
   obtain ⟨o34, hv⟩ := hv
   obtain ⟨r37, o39, hv⟩ := hv
   refine JU 9 [⟨[], [7], true⟩, ⟨[], [8], true⟩, ⟨[], [3], false⟩, ⟨[], [1], true⟩, ⟨[], [2], true⟩, ⟨[], [8], true⟩, ⟨[4, 5], [], true⟩, ⟨[6], [], false⟩, ⟨[2, 3, 7], [], false⟩] [[(7, .slice A14 ((y.length : Int).toNat) ((y.length : Int).toNat))], [(8, .int .i64 z22)], [(3, .pointer (some ⟨g11, 0, none⟩))], [(1, .int .i64 a)], [(2, .slice Ay y.length ky)], [(8, .int .i64 z22)], [], [], []] [(18, .slice A14 ((y.length : Int).toNat) ((y.length : Int).toNat)), (19, .int .i64 z22), (20, .agg #[.int .i64 Pf, .int .i64 Mf, .slice Af mf.length kf]), (21, .int .i64 a), (22, .slice Ay y.length ky), (23, .int .i64 z22), (24, .pointer (some ((JM Ay).add z22.toNat))), (25, .int .i64 (gi y z22)), (26, .int .i64 r37)] Try.mixed (by kernel_rfl) rfl rfl ?_ ?_
   . refine ⟨⟨rfl, ⟨rfl, trivial⟩, fun _ _ _ => Je rfl rfl <| Ja ⟨rfl, rfl⟩⟩, ⟨rfl, ⟨rfl, trivial⟩, fun _ _ _ => Je rfl rfl <| Ja ⟨rfl, rfl⟩⟩, ⟨rfl, ⟨rfl, trivial⟩, fun _ hE _ => have hS := hS.grow (hE rfl); Jk (cs := [.int .i64 Pf, .int .i64 Mf, .slice Af mf.length kf]) JT JY rfl rfl (Jb (hS.own (i := 1) rfl)) rfl <| Ja ⟨rfl, Jj _⟩⟩, ⟨rfl, ⟨rfl, trivial⟩, fun _ _ _ => Je rfl rfl <| Ja ⟨rfl, rfl⟩⟩, ⟨rfl, ⟨rfl, trivial⟩, fun _ _ _ => Je rfl rfl <| Ja ⟨rfl, rfl⟩⟩, ⟨rfl, ⟨rfl, trivial⟩, fun _ _ _ => Je rfl rfl <| Ja ⟨rfl, rfl⟩⟩, ⟨rfl, trivial, fun _ _ _ => Jl Jq XE3 (hS.ro hy) rfl rfl o34 rfl <| Ja ⟨rfl, rfl⟩⟩, ⟨rfl, trivial, fun _ hE _ => have hS := hS.grow (hE rfl); Jd XU3 rfl rfl (JH (hS.ro hy) o34) rfl <| Ja ⟨rfl, Jj _⟩⟩, ⟨rfl, trivial, ?_⟩, trivial⟩
     intro w36 hE RR
     have hS := hS.grow (hE rfl)
     refine WL.call XF59 rfl XN59 rfl rfl (JP (Jff (hS.ro hf) o39)) ?_
     rintro _ w38 ⟨_, hGw38, hRww38, hNww38, r37q, rfl, rfl, he⟩
     subst he
     exact Ja ⟨rfl, hGw38⟩
   intro w40 hT
   have hS := hS.grow hT
   refine Jf 9 (by decide +kernel) rfl ?_
   obtain ⟨o41, hv⟩ := hv
   refine Jl Jq XE3 (hS.rd (i := 0) rfl) rfl rfl o41 rfl <| Ja <| Jf 10 (by decide +kernel) rfl <| JD (cs' := is (si x21 z22 r37)) 0 z22.toNat hS rfl XE3 rfl rfl rfl (QH (hS.rd (i := 0) rfl) o41) (Qn _ _ _) ?_
   intro w42 hS
   refine Ja <| Jr (by decide +kernel) <| Jg 2 ?_
   obtain ⟨o43, hv⟩ := hv
   refine WL.add (r := (z22 + (1 : Int))) rfl rfl (wr o43) rfl <| Jc 2 ?_
   exact ⟨(si x21 z22 r37, (z22 + (1 : Int))), ⟨rfl, rfl, rfl, rfl, rfl, rfl, trivial⟩, hv.2, rfl, hv.1, hS⟩
  have hv := hv.2 (of_decide_eq_false c26)
  refine JA <| Jg 5 <| W.ret ?_
  have hm := (hS.rd (i := 0) rfl).ilen
  have hS := hS.relen (i := 0) rfl hm.symm
  refine ⟨_, rfl, Fin.nil ?_⟩
  exact ⟨_, hS.ext, (hS.pick [0] rfl).rows, Ji (hS.pick [0] rfl).rows rfl, ⟨x21, A14, (y.length : Int).toNat, (by rw [hm]), rfl, hv⟩⟩
def Jdr (Pf : Int) (Mf : Int) (mf : List Int) (y : List Int) (a : Int) (u : List Int) (Q : List Int -> Prop) : Prop :=
  (0 <= (y.length : Int) /\ (y.length : Int) * 8 <= 281474976710656 /\ (y.length : Int) <= 281474976710656) /\ (∃ (I23 : List Int -> Int -> Prop) (μ24 : List Int -> Int -> Nat), I23 (List.replicate (y.length : Int).toNat (0 : Int)) (0 : Int) /\ ∀ (x21 : List Int) (z22 : Int), (I23 x21 z22 -> (((z22 < (y.length : Int)) -> (∃ J28 : List Int -> Prop, ((0 <= z22 /\ z22 < (y.length : Nat)) /\ ((0 <= z22 /\ z22 < ((y.length : Int).toNat : Nat)) /\ ((0 <= z22 /\ z22 < (u.length : Nat)) /\ ((((gi u z22) ≠ (0 : Int)) -> ((0 <= z22 /\ z22 < (y.length : Nat)) /\ ((0 <= z22 /\ z22 < (u.length : Nat)) /\ (∃ (r50 : Int), Jcr Pf Mf mf a (gi u z22) (fun q => q = r50) /\ (∃ (r54 : Int), Jhe Pf Mf mf (gi y z22) r50 (fun q => q = r54) /\ ((0 <= z22 /\ z22 < ((y.length : Int).toNat : Nat)) /\ (J28 (si (si x21 z22 (gi y z22)) z22 r54)))))))) /\ (¬ ((gi u z22) ≠ (0 : Int)) -> (J28 (si x21 z22 (gi y z22)))))))) /\ ∀ (x27 : List Int), (J28 x27 -> ((I64 (z22 + (1 : Int))) /\ (I23 x27 (z22 + (1 : Int)) /\ μ24 x27 (z22 + (1 : Int)) < μ24 x21 z22))))) /\ (¬ (z22 < (y.length : Int)) -> Q x21))))
theorem Jpf {w : World} {Q : List Int -> Prop} {Pf : Int} {Mf : Int} {mf : List Int} {y : List Int} {a : Int} {u : List Int} {Bf : Nat} {Af : Option Addr} {nf kf : Nat} (hf : Rd Bf w 1 Af nf kf (is mf)) {By : Nat} {Ay : Option Addr} {ny ky : Nat} (hy : Rd By w 1 Ay ny ky (is y)) {Bu : Nat} {Au : Option Addr} {nu ku : Nat} (hu : Rd Bu w 1 Au nu ku (is u)) (hv : Jdr Pf Mf mf y a u Q) :
    Calls Try.prog 28 #[.agg #[.int .i64 Pf, .int .i64 Mf, .slice Af nf kf], .slice Ay ny ky, .int .i64 a, .slice Au nu ku] w fun e w' => ∃ v Qr, e = .returned v /\ w.grownBy w' none /\ Rows w.heap.size none w' Qr /\ News w.heap.size Qr /\ ∃ (x : List Int)  (A : Option Addr) (c : Nat), v = .slice A x.length c /\ Qr = [.row 3 1 A x.length c (is x)] /\ Q x := by
  have hnf := hf.ilen
  subst hnf
  have hny := hy.ilen
  subst hny
  have hnu := hu.ilen
  subst hnu
  refine Jp <| Jo (vs := [.agg #[.int .i64 Pf, .int .i64 Mf, .slice Af mf.length kf], .slice Ay y.length ky, .int .i64 a, .slice Au u.length ku]) [8] XF28 rfl rfl rfl rfl ?_
  have hS := Js w
  unfold Jdr at hv
  refine Jg 2 <| JF (z := 3) (cs := [.int .i64 Pf, .int .i64 Mf, .slice Af mf.length kf]) hS rfl rfl rfl rfl ?_
  intro g11 w12 hS
  refine Jc 2 <| Jg 3 <| WL.len Jq rfl rfl ?_
  obtain ⟨o13, hv⟩ := hv
  refine QB (J := (y.length : Int)) hS Jq XE3 rfl rfl o13 (QG _) rfl ?_
  intro A14 w15 hS
  refine Jc 2 <| Jg 5 <| W.block ?_
  obtain ⟨I23, μ24, hv, hk63⟩ := hv
  refine JE (σ := List Int × Int) (fun q w1 => match q with | (x21, z22) => I23 x21 z22 /\ St TT w none w1 [.row 3 1 A14 ((y.length : Int).toNat) ((y.length : Int).toNat) (is x21), .row 24 3 (some ⟨g11, 0, none⟩) 1 1 [.int .i64 Pf, .int .i64 Mf, .slice Af mf.length kf]]) (fun q => match q with | (x21, z22) => [(1, .slice Ay y.length ky), (2, .int .i64 a), (3, .slice Au u.length ku), (4, .pointer (some ⟨g11, 0, none⟩)), (8, .slice none 0 0), (9, .slice A14 ((y.length : Int).toNat) ((y.length : Int).toNat)), (10, .int .i64 z22)]) (fun q => match q with | (x21, z22) => μ24 x21 z22) (List.replicate (y.length : Int).toNat (0 : Int), (0 : Int)) ⟨hv, hS⟩ ⟨rfl, rfl, rfl, rfl, rfl, rfl, rfl, trivial⟩ ?_
  rintro ⟨x21, z22⟩ w25 ⟨hv, hS⟩
  have hv := hk63 x21 z22 hv
  refine Jg 5 <| WL.len Jq rfl rfl <| Jc 2 <| Jm rfl (fun c26 => ?_) (fun c26 => ?_)
  .have hv := hv.1 (of_decide_eq_true c26)
   refine Jn <| JB ?_
   obtain ⟨J28, hv, hk62⟩ := hv
   refine Qx (σ := List Int) (fun x27 w1 => J28 x27 /\ St TT w none w1 [.row 3 1 A14 ((y.length : Int).toNat) ((y.length : Int).toNat) (is x27), .row 24 3 (some ⟨g11, 0, none⟩) 1 1 [.int .i64 Pf, .int .i64 Mf, .slice Af mf.length kf]]) (fun x27 => [(1, .slice Ay y.length ky), (2, .int .i64 a), (3, .slice Au u.length ku), (4, .pointer (some ⟨g11, 0, none⟩)), (8, .slice none 0 0), (9, .slice A14 ((y.length : Int).toNat) ((y.length : Int).toNat)), (10, .int .i64 z22), (17, .bool (decide (z22 < (y.length : Int)))), (31, .bool (decide ((gi u z22) ≠ (0 : Int))))]) ?_ ?_
   .refine W.block ?_
    refine Jg 6 ?_
    obtain ⟨o29, hv⟩ := hv
    refine Jl Jq XE3 (hS.ro hy) rfl rfl o29 rfl <| Jd XU3 rfl rfl (JH (hS.ro hy) o29) rfl ?_
    obtain ⟨o30, hv⟩ := hv
    refine Jl Jq XE3 (hS.rd (i := 0) rfl) rfl rfl o30 rfl <| JD (cs' := is (si x21 z22 (gi y z22))) 0 z22.toNat hS rfl XE3 rfl rfl rfl (QH (hS.rd (i := 0) rfl) o30) (Qn _ _ _) ?_
    intro w31 hS
    refine Ja <| Jg 4 ?_
    obtain ⟨o32, hv⟩ := hv
    refine Jl Jq XE3 (hS.ro hu) rfl rfl o32 rfl <| Jd XU3 rfl rfl (JH (hS.ro hu) o32) rfl <| Jc 2 <| Jm rfl (fun c33 => ?_) (fun c33 => ?_)
    .have hv := hv.1 (of_decide_eq_true c33)
     obtain ⟨o40, hv⟩ := hv
     obtain ⟨o47, hv⟩ := hv
     obtain ⟨r50, o52, hv⟩ := hv
     obtain ⟨r54, o56, hv⟩ := hv
     refine JU 15 [⟨[], [9], true⟩, ⟨[], [10], true⟩, ⟨[], [4], false⟩, ⟨[], [1], true⟩, ⟨[], [10], true⟩, ⟨[3, 4], [], true⟩, ⟨[5], [], false⟩, ⟨[], [4], false⟩, ⟨[], [2], true⟩, ⟨[], [3], true⟩, ⟨[], [10], true⟩, ⟨[9, 10], [], true⟩, ⟨[11], [], false⟩, ⟨[7, 8, 12], [], false⟩, ⟨[2, 6, 13], [], false⟩] [[(9, .slice A14 ((y.length : Int).toNat) ((y.length : Int).toNat))], [(10, .int .i64 z22)], [(4, .pointer (some ⟨g11, 0, none⟩))], [(1, .slice Ay y.length ky)], [(10, .int .i64 z22)], [], [], [(4, .pointer (some ⟨g11, 0, none⟩))], [(2, .int .i64 a)], [(3, .slice Au u.length ku)], [(10, .int .i64 z22)], [], [], [], []] [(32, .slice A14 ((y.length : Int).toNat) ((y.length : Int).toNat)), (33, .int .i64 z22), (34, .agg #[.int .i64 Pf, .int .i64 Mf, .slice Af mf.length kf]), (35, .slice Ay y.length ky), (36, .int .i64 z22), (37, .pointer (some ((JM Ay).add z22.toNat))), (38, .int .i64 (gi y z22)), (39, .agg #[.int .i64 Pf, .int .i64 Mf, .slice Af mf.length kf]), (40, .int .i64 a), (41, .slice Au u.length ku), (42, .int .i64 z22), (43, .pointer (some ((JM Au).add z22.toNat))), (44, .int .i64 (gi u z22)), (45, .int .i64 r50), (46, .int .i64 r54)] Try.mixed (by kernel_rfl) rfl rfl ?_ ?_
     . refine ⟨⟨rfl, ⟨rfl, trivial⟩, fun _ _ _ => Je rfl rfl <| Ja ⟨rfl, rfl⟩⟩, ⟨rfl, ⟨rfl, trivial⟩, fun _ _ _ => Je rfl rfl <| Ja ⟨rfl, rfl⟩⟩, ⟨rfl, ⟨rfl, trivial⟩, fun _ hE _ => have hS := hS.grow (hE rfl); Jk (cs := [.int .i64 Pf, .int .i64 Mf, .slice Af mf.length kf]) JT JY rfl rfl (Jb (hS.own (i := 1) rfl)) rfl <| Ja ⟨rfl, Jj _⟩⟩, ⟨rfl, ⟨rfl, trivial⟩, fun _ _ _ => Je rfl rfl <| Ja ⟨rfl, rfl⟩⟩, ⟨rfl, ⟨rfl, trivial⟩, fun _ _ _ => Je rfl rfl <| Ja ⟨rfl, rfl⟩⟩, ⟨rfl, trivial, fun _ _ _ => Jl Jq XE3 (hS.ro hy) rfl rfl o40 rfl <| Ja ⟨rfl, rfl⟩⟩, ⟨rfl, trivial, fun _ hE _ => have hS := hS.grow (hE rfl); Jd XU3 rfl rfl (JH (hS.ro hy) o40) rfl <| Ja ⟨rfl, Jj _⟩⟩, ⟨rfl, ⟨rfl, trivial⟩, fun _ hE _ => have hS := hS.grow (hE rfl); Jk (cs := [.int .i64 Pf, .int .i64 Mf, .slice Af mf.length kf]) JT JY rfl rfl (Jb (hS.own (i := 1) rfl)) rfl <| Ja ⟨rfl, Jj _⟩⟩, ⟨rfl, ⟨rfl, trivial⟩, fun _ _ _ => Je rfl rfl <| Ja ⟨rfl, rfl⟩⟩, ⟨rfl, ⟨rfl, trivial⟩, fun _ _ _ => Je rfl rfl <| Ja ⟨rfl, rfl⟩⟩, ⟨rfl, ⟨rfl, trivial⟩, fun _ _ _ => Je rfl rfl <| Ja ⟨rfl, rfl⟩⟩, ⟨rfl, trivial, fun _ _ _ => Jl Jq XE3 (hS.ro hu) rfl rfl o47 rfl <| Ja ⟨rfl, rfl⟩⟩, ⟨rfl, trivial, fun _ hE _ => have hS := hS.grow (hE rfl); Jd XU3 rfl rfl (JH (hS.ro hu) o47) rfl <| Ja ⟨rfl, Jj _⟩⟩, ⟨rfl, trivial, ?_⟩, ⟨rfl, trivial, ?_⟩, trivial⟩
       . intro w49 hE RR
         have hS := hS.grow (hE rfl)
         refine WL.call XF59 rfl XN59 rfl rfl (JP (Jff (hS.ro hf) o52)) ?_
         rintro _ w51 ⟨_, hGw51, hRww51, hNww51, r50q, rfl, rfl, he⟩
         subst he
         exact Ja ⟨rfl, hGw51⟩
       intro w53 hE RR
       have hS := hS.grow (hE rfl)
       refine WL.call XF65 rfl XN65 rfl rfl (JP (Jn3 (hS.ro hf) o56)) ?_
       rintro _ w55 ⟨_, hGw55, hRww55, hNww55, r54q, rfl, rfl, he⟩
       subst he
       exact Ja ⟨rfl, hGw55⟩
     intro w57 hT
     have hS := hS.grow hT
     refine Jf 15 (by decide +kernel) rfl ?_
     obtain ⟨o58, hv⟩ := hv
     refine Jl Jq XE3 (hS.rd (i := 0) rfl) rfl rfl o58 rfl <| Ja <| Jf 16 (by decide +kernel) rfl <| JD (cs' := is (si (si x21 z22 (gi y z22)) z22 r54)) 0 z22.toNat hS rfl XE3 rfl rfl rfl (QH (hS.rd (i := 0) rfl) o58) (Qn _ _ _) ?_
     intro w59 hS
     refine Ja <| Jr (by decide +kernel) ?_
     exact ⟨si (si x21 z22 (gi y z22)) z22 r54, ⟨rfl, rfl, rfl, rfl, rfl, rfl, rfl, rfl, rfl, trivial⟩, rfl, hv, hS⟩
    have hv := hv.2 (of_decide_eq_false c33)
    refine Jn ?_
    exact ⟨si x21 z22 (gi y z22), ⟨rfl, rfl, rfl, rfl, rfl, rfl, rfl, rfl, rfl, trivial⟩, rfl, hv, hS⟩
   rintro x27 w60 ⟨hv, hS⟩
   have hv := hk62 x27 hv
   refine Jg 2 ?_
   obtain ⟨o61, hv⟩ := hv
   refine WL.add (r := (z22 + (1 : Int))) rfl rfl (wr o61) rfl <| Jc 2 ?_
   exact ⟨(x27, (z22 + (1 : Int))), ⟨rfl, rfl, rfl, rfl, rfl, rfl, rfl, trivial⟩, hv.2, rfl, hv.1, hS⟩
  have hv := hv.2 (of_decide_eq_false c26)
  refine JA <| Jg 5 <| W.ret ?_
  have hm := (hS.rd (i := 0) rfl).ilen
  have hS := hS.relen (i := 0) rfl hm.symm
  refine ⟨_, rfl, Fin.nil ?_⟩
  exact ⟨_, hS.ext, (hS.pick [0] rfl).rows, Ji (hS.pick [0] rfl).rows rfl, ⟨x21, A14, (y.length : Int).toNat, (by rw [hm]), rfl, hv⟩⟩
end Go.Proofs.Ytiboieijhehjnaa
set_option linter.unusedSimpArgs false
set_option linter.unusedVariables false
set_option maxRecDepth 4000
set_option maxHeartbeats 4000000
namespace Go.Proofs.Ytiboieijhehjnaa
open Go.RowKit
def Yz (Pf : Int) (Mf : Int) (mf : List Int) (l : List (List Int)) (cols : Int) (Q : List (List Int) × List Int -> Prop) : Prop :=
  Jfs l (fun x14 => ∃ J25 : List (List Int) -> List Int -> Prop, (∃ (I50 : List (List Int) -> List Int -> Int -> Int -> Prop) (μ51 : List (List Int) -> List Int -> Int -> Int -> Nat), I50 x14 ([] : List Int) (0 : Int) (0 : Int) /\ ∀ (x42 : List (List Int)) (x44 : List Int) (z48 : Int) (z49 : Int), (I50 x42 x44 z48 z49 -> (((z49 < cols) -> (((z48 < (x14.length : Int)) -> (∃ J65 : List Int -> List (List Int) -> Int -> Int -> Bool -> Bool -> Bool -> Prop, (∃ J69 : Int -> Bool -> Bool -> Prop, (∃ (I76 : Int -> Bool -> Prop) (μ77 : Int -> Bool -> Nat), I76 z48 (decide (z48 < (x14.length : Int))) /\ ∀ (z74 : Int) (b75 : Bool), (I76 z74 b75 -> (((z74 < (x14.length : Int)) -> ((0 <= z74 /\ z74 < (x14.length : Nat)) /\ ((0 <= z49 /\ z49 < ((gl x42 z74).length : Nat)) /\ ((((gi (gl x42 z74) z49) = (0 : Int)) -> ((I64 (z74 + (1 : Int))) /\ (I76 (z74 + (1 : Int)) b75 /\ μ77 (z74 + (1 : Int)) b75 < μ77 z74 b75))) /\ (¬ ((gi (gl x42 z74) z49) = (0 : Int)) -> (J69 z74 b75 (decide ((gi (gl x42 z74) z49) = (0 : Int))))))))) /\ (¬ (z74 < (x14.length : Int)) -> J69 z74 b75 false)))) /\ ∀ (z66 : Int) (b67 : Bool) (b68 : Bool), (J69 z66 b67 b68 -> (((z66 = (x14.length : Int)) -> (J65 x44 x42 z48 z66 b67 b68 (decide (z66 = (x14.length : Int))))) /\ (¬ (z66 = (x14.length : Int)) -> (∃ J87 : Prop, ((0 <= z66 /\ z66 < (x14.length : Nat)) /\ ((0 <= z48 /\ z48 < (x14.length : Nat)) /\ ((0 <= z48 /\ z48 < (x14.length : Nat)) /\ ((0 <= z66 /\ z66 < (x14.length : Nat)) /\ J87)))) /\ (J87 -> ((0 <= z48 /\ z48 < (x14.length : Nat)) /\ ((0 <= z49 /\ z49 < ((gl (sll (sll x42 z48 (gl x42 z66)) z66 (gl x42 z48)) z48).length : Nat)) /\ (∃ J113 : List (List Int) -> Prop, ((((gi (gl (sll (sll x42 z48 (gl x42 z66)) z66 (gl x42 z48)) z48) z49) ≠ (1 : Int)) -> ((0 <= z48 /\ z48 < (x14.length : Nat)) /\ ((0 <= z49 /\ z49 < ((gl (sll (sll x42 z48 (gl x42 z66)) z66 (gl x42 z48)) z48).length : Nat)) /\ (∃ (r129 : Int), Jju Pf Mf mf (gi (gl (sll (sll x42 z48 (gl x42 z66)) z66 (gl x42 z48)) z48) z49) (fun q => q = r129) /\ ((0 <= z48 /\ z48 < (x14.length : Nat)) /\ (∃ (x138 : List Int), Jdo Pf Mf mf r129 (gl (sll (sll x42 z48 (gl x42 z66)) z66 (gl x42 z48)) z48) (fun q => q = x138) /\ ((0 <= z48 /\ z48 < (x14.length : Nat)) /\ (J113 (sll (sll (sll x42 z48 (gl x42 z66)) z66 (gl x42 z48)) z48 x138))))))))) /\ (¬ ((gi (gl (sll (sll x42 z48 (gl x42 z66)) z66 (gl x42 z48)) z48) z49) ≠ (1 : Int)) -> (J113 (sll (sll x42 z48 (gl x42 z66)) z66 (gl x42 z48))))) /\ ∀ (x111 : List (List Int)), (J113 x111 -> (∃ (I160 : List (List Int) -> Int -> Prop) (μ161 : List (List Int) -> Int -> Nat), I160 x111 (0 : Int) /\ ∀ (x157 : List (List Int)) (z159 : Int), (I160 x157 z159 -> (((z159 < (x14.length : Int)) -> (∃ J167 : List (List Int) -> Bool -> Prop, (((z159 ≠ z48) -> ((0 <= z159 /\ z159 < (x14.length : Nat)) /\ ((0 <= z49 /\ z49 < ((gl x157 z159).length : Nat)) /\ ((((gi (gl x157 z159) z49) ≠ (0 : Int)) -> ((0 <= z159 /\ z159 < (x14.length : Nat)) /\ ((0 <= z159 /\ z159 < (x14.length : Nat)) /\ ((0 <= z49 /\ z49 < ((gl x157 z159).length : Nat)) /\ (∃ (r191 : Int), Jhd Pf Mf mf (gi (gl x157 z159) z49) (fun q => q = r191) /\ ((0 <= z48 /\ z48 < (x14.length : Nat)) /\ (∃ (x200 : List Int), Jdr Pf Mf mf (gl x157 z159) r191 (gl x157 z48) (fun q => q = x200) /\ ((0 <= z159 /\ z159 < (x14.length : Nat)) /\ (J167 (sll x157 z159 x200) (decide ((gi (gl x157 z159) z49) ≠ (0 : Int)))))))))))) /\ (¬ ((gi (gl x157 z159) z49) ≠ (0 : Int)) -> (J167 x157 (decide ((gi (gl x157 z159) z49) ≠ (0 : Int))))))))) /\ (¬ (z159 ≠ z48) -> J167 x157 false)) /\ ∀ (x164 : List (List Int)) (b166 : Bool), (J167 x164 b166 -> ((I64 (z159 + (1 : Int))) /\ (I160 x164 (z159 + (1 : Int)) /\ μ161 x164 (z159 + (1 : Int)) < μ161 x157 z159))))) /\ (¬ (z159 < (x14.length : Int)) -> ((((x44.length : Nat) + (1 : Nat) : Int) * 8 <= 140737488355328) /\ ((I64 (z48 + (1 : Int))) /\ (J65 (x44 ++ ([z49] : List Int)) x157 (z48 + (1 : Int)) z66 b67 b68 (decide (z66 = (x14.length : Int)))))))))))))))))))) /\ ∀ (x55 : List Int) (x58 : List (List Int)) (z60 : Int) (z61 : Int) (b62 : Bool) (b63 : Bool) (b64 : Bool), (J65 x55 x58 z60 z61 b62 b63 b64 -> ((I64 (z49 + (1 : Int))) /\ (I50 x58 x55 z60 (z49 + (1 : Int)) /\ μ51 x58 x55 z60 (z49 + (1 : Int)) < μ51 x42 x44 z48 z49))))) /\ (¬ (z48 < (x14.length : Int)) -> J25 x42 x44))) /\ (¬ (z49 < cols) -> J25 x42 x44)))) /\ ∀ (x19 : List (List Int)) (x21 : List Int), (J25 x19 x21 -> (Q (x19, x21))))
theorem Jhm {w : World} {Q : List (List Int) × List Int -> Prop} {Pf : Int} {Mf : Int} {mf : List Int} {l : List (List Int)} {cols : Int} {Bf : Nat} {Af : Option Addr} {nf kf : Nat} (hf : Rd Bf w 1 Af nf kf (is mf)) {Al : Option Addr} {nl kl : Nat} (hl : Rl w Al nl kl l) (hv : Yz Pf Mf mf l cols Q) :
    Calls Try.prog 69 #[.agg #[.int .i64 Pf, .int .i64 Mf, .slice Af nf kf], .slice Al nl kl, .int .i64 cols] w fun e w' => ∃ v Qr, e = .returned v /\ w.grownBy w' none /\ Rows w.heap.size none w' Qr /\ News w.heap.size Qr /\ ∃ (r0 : List (List Int)) (r1 : List Int) (A0 : Option Addr) (k0 : Nat) (hs0 : Hs) (A1 : Option Addr) (k1 : Nat), v = .tuple #[.slice A0 r0.length k0, .slice A1 r1.length k1] /\ Qr = [mx 22 3 A0 r0.length k0 hs0 r0, .row 3 1 A1 r1.length k1 (is r1)] /\ Q (r0, r1) := by
  have hnf := hf.ilen
  subst hnf
  have hnl := hl.len
  subst hnl
  obtain ⟨hsl, hHl⟩ := hl.heads
  refine Jp <| Jo (vs := [.agg #[.int .i64 Pf, .int .i64 Mf, .slice Af mf.length kf], .slice Al l.length kl, .int .i64 cols]) [6, 7] XF69 rfl rfl rfl rfl ?_
  have hS := Js w
  unfold Yz at hv
  refine Jg 2 <| JF (z := 3) (cs := [.int .i64 Pf, .int .i64 Mf, .slice Af mf.length kf]) hS rfl rfl rfl rfl ?_
  intro g11 w12 hS
  refine Jc 3 <| Jg 3 <| SL.call hS (Jr1 (RlH.rl (RlH.ext hHl hS.ext)) hv) XF27 rfl XN27 rfl rfl ?_
  rintro _ _ w13 ⟨x14, A15, k16, hs17, rfl, rfl, hv⟩ hGw13 hS
  have hS := hS.n1
  refine Jc 2 <| Jg 13 ?_
  obtain ⟨J25, hv, hk232⟩ := hv
  refine Qx (σ := List (List Int) × List Int × Hs × Option Addr × Nat) (fun q w1 => match q with | (x19, x21, hs20, A22, k23) => J25 x19 x21 /\ St TT w none w1 [.row 3 1 A22 x21.length k23 (is x21), mx 22 3 A15 x14.length k16 hs20 x19, .row 24 3 (some ⟨g11, 0, none⟩) 1 1 [.int .i64 Pf, .int .i64 Mf, .slice Af mf.length kf]]) (fun q => match q with | (x19, x21, hs20, A22, k23) => [(6, .slice none 0 0), (7, .slice none 0 0), (8, .slice A15 x14.length k16), (9, .slice A22 x21.length k23)]) ?_ ?_
  .refine W.block ?_
   obtain ⟨I50, μ51, hv, hk230⟩ := hv
   have hS := hS.nil (e := 3) (z := 1)
   have hm0 : 0 = ([] : List Int).length := (hS.rd (i := 0) rfl).ilen.symm
   have hS := hS.relen (i := 0) rfl hm0
   change St _ _ _ _ [.row 3 1 none ([] : List Int).length 0 (is ([] : List Int)), mx 22 3 A15 x14.length k16 hs17 x14, .row 24 3 (some ⟨g11, 0, none⟩) 1 1 [.int .i64 Pf, .int .i64 Mf, .slice Af mf.length kf]] at hS
   refine JE (σ := List (List Int) × List Int × Int × Int × Hs × Option Addr × Nat) (fun q w1 => match q with | (x42, x44, z48, z49, hs43, A45, k46) => I50 x42 x44 z48 z49 /\ St TT w none w1 [.row 3 1 A45 x44.length k46 (is x44), mx 22 3 A15 x14.length k16 hs43 x42, .row 24 3 (some ⟨g11, 0, none⟩) 1 1 [.int .i64 Pf, .int .i64 Mf, .slice Af mf.length kf]]) (fun q => match q with | (x42, x44, z48, z49, hs43, A45, k46) => [(2, .int .i64 cols), (3, .pointer (some ⟨g11, 0, none⟩)), (6, .slice none 0 0), (7, .slice none 0 0), (8, .slice A15 x14.length k16), (9, .slice A45 x44.length k46), (10, .int .i64 z48), (11, .int .i64 z49)]) (fun q => match q with | (x42, x44, z48, z49, hs43, A45, k46) => μ51 x42 x44 z48 z49) (x14, ([] : List Int), (0 : Int), (0 : Int), hs17, none, 0) ⟨hv, hS⟩ ⟨rfl, rfl, rfl, rfl, rfl, (sm (by first | rfl | assumption | omega)), rfl, rfl, trivial⟩ ?_
   rintro ⟨x42, x44, z48, z49, hs43, A45, k46⟩ w52 ⟨hv, hS⟩
   have hv := hk230 x42 x44 z48 z49 hv
   refine Jg 6 <| Je rfl rfl ?_
   by_cases g53 : z49 < cols
   .have hv := hv.1 g53
    rw [decide_eq_true g53]
    refine Jc 5 <| WL.len Jt rfl rfl <| Jc 4 <| Jm rfl (fun c54 => ?_) (fun c54 => ?_)
    .have hv := hv.1 (of_decide_eq_true c54)
     refine Jn <| JB ?_
     obtain ⟨J65, hv, hk229⟩ := hv
     refine Qx (σ := List Int × List (List Int) × Int × Int × Bool × Bool × Bool × Option Addr × Nat × Hs) (fun q w1 => match q with | (x55, x58, z60, z61, b62, b63, b64, A56, k57, hs59) => J65 x55 x58 z60 z61 b62 b63 b64 /\ St TT w none w1 [.row 3 1 A56 x55.length k57 (is x55), mx 22 3 A15 x14.length k16 hs59 x58, .row 24 3 (some ⟨g11, 0, none⟩) 1 1 [.int .i64 Pf, .int .i64 Mf, .slice Af mf.length kf]]) (fun q => match q with | (x55, x58, z60, z61, b62, b63, b64, A56, k57, hs59) => [(2, .int .i64 cols), (3, .pointer (some ⟨g11, 0, none⟩)), (6, .slice none 0 0), (7, .slice none 0 0), (8, .slice A15 x14.length k16), (9, .slice A56 x55.length k57), (10, .int .i64 z60), (11, .int .i64 z49), (12, .int .i64 z61), (24, .bool b62), (41, .bool b63), (47, .bool b64)]) ?_ ?_
     .refine W.block ?_
      refine Jg 6 ?_
      obtain ⟨J69, hv, hk226⟩ := hv
      refine Qx (σ := Int × Bool × Bool) (fun q w1 => match q with | (z66, b67, b68) => J69 z66 b67 b68 /\ St TT w none w1 [.row 3 1 A45 x44.length k46 (is x44), mx 22 3 A15 x14.length k16 hs43 x42, .row 24 3 (some ⟨g11, 0, none⟩) 1 1 [.int .i64 Pf, .int .i64 Mf, .slice Af mf.length kf]]) (fun q => match q with | (z66, b67, b68) => [(2, .int .i64 cols), (3, .pointer (some ⟨g11, 0, none⟩)), (6, .slice none 0 0), (7, .slice none 0 0), (8, .slice A15 x14.length k16), (9, .slice A45 x44.length k46), (10, .int .i64 z48), (11, .int .i64 z49), (12, .int .i64 z66), (24, .bool b67), (41, .bool b68)]) ?_ ?_
      .refine W.block ?_
       obtain ⟨I76, μ77, hv, hk84⟩ := hv
       refine JE (σ := Int × Bool) (fun q w1 => match q with | (z74, b75) => I76 z74 b75 /\ St TT w none w1 [.row 3 1 A45 x44.length k46 (is x44), mx 22 3 A15 x14.length k16 hs43 x42, .row 24 3 (some ⟨g11, 0, none⟩) 1 1 [.int .i64 Pf, .int .i64 Mf, .slice Af mf.length kf]]) (fun q => match q with | (z74, b75) => [(2, .int .i64 cols), (3, .pointer (some ⟨g11, 0, none⟩)), (6, .slice none 0 0), (7, .slice none 0 0), (8, .slice A15 x14.length k16), (9, .slice A45 x44.length k46), (10, .int .i64 z48), (11, .int .i64 z49), (12, .int .i64 z74), (24, .bool b75)]) (fun q => match q with | (z74, b75) => μ77 z74 b75) (z48, (decide (z48 < (x14.length : Int)))) ⟨hv, hS⟩ ⟨rfl, rfl, rfl, rfl, rfl, rfl, rfl, rfl, rfl, rfl, trivial⟩ ?_
       rintro ⟨z74, b75⟩ w78 ⟨hv, hS⟩
       have hv := hk84 z74 b75 hv
       refine Jg 5 <| WL.len Jt rfl rfl <| Yy rfl rfl rfl <| Je rfl rfl ?_
       by_cases g79 : z74 < (x14.length : Int)
       .have hv := hv.1 g79
        rw [decide_eq_true g79]
        refine Jc 5 ?_
        obtain ⟨o80, hv⟩ := hv
        refine JC 1 Jt Jy hS rfl rfl rfl o80 rfl <| WL.take rfl <| Jd Jq rfl rfl (hS.mxcell (i := 1) rfl o80) rfl <| Jc 3 ?_
        obtain ⟨o81, hv⟩ := hv
        refine Jl Jq XE3 (hS.mxrd (i := 1) rfl o80) rfl rfl o81 rfl <| WL.take rfl <| Jd XU3 rfl rfl (JH (hS.mxrd (i := 1) rfl o80) o81) rfl <| Jc 4 <| Jm rfl (fun c82 => ?_) (fun c82 => ?_)
        .have hv := hv.1 (of_decide_eq_true c82)
         refine Jn <| W.block <| Jg 2 ?_
         obtain ⟨o83, hv⟩ := hv
         refine WL.add (r := (z74 + (1 : Int))) rfl rfl (wr o83) rfl <| Jc 2 ?_
         exact ⟨((z74 + (1 : Int)), b75), ⟨rfl, rfl, rfl, rfl, rfl, rfl, rfl, rfl, rfl, rfl, trivial⟩, hv.2, rfl, hv.1, hS⟩
        have hv := hv.2 (of_decide_eq_false c82)
        refine JA ?_
        exact ⟨(z74, b75, (decide ((gi (gl x42 z74) z49) = (0 : Int)))), ⟨rfl, rfl, rfl, rfl, rfl, rfl, rfl, rfl, rfl, rfl, rfl, trivial⟩, rfl, hv, hS⟩
       have hv := hv.2 g79
       rw [decide_eq_false g79]
       refine Jc 10 <| Qv rfl <| JA ?_
       exact ⟨(z74, b75, false), ⟨rfl, rfl, rfl, rfl, rfl, rfl, rfl, rfl, rfl, rfl, rfl, trivial⟩, rfl, hv, hS⟩
      rintro ⟨z66, b67, b68⟩ w85 ⟨hv, hS⟩
      have hv := hk226 z66 b67 b68 hv
      refine Jg 5 <| WL.len Jt rfl rfl <| Jc 2 <| Jm rfl (fun c86 => ?_) (fun c86 => ?_)
      .have hv := hv.1 (of_decide_eq_true c86)
       refine JA ?_
       exact ⟨(x44, x42, z48, z66, b67, b68, (decide (z66 = (x14.length : Int))), A45, k46, hs43), ⟨rfl, rfl, rfl, rfl, rfl, rfl, rfl, rfl, rfl, rfl, rfl, rfl, trivial⟩, rfl, hv, hS⟩
      have hv := hv.2 (of_decide_eq_false c86)
      refine Jn <| JB ?_
      obtain ⟨J87, hv, hk225⟩ := hv
      refine Qx (σ := Unit) (fun _ w1 => J87 /\ St TT w none w1 [.row 3 1 A45 x44.length k46 (is x44), mx 22 3 A15 x14.length k16 (up (up hs43 z48.toNat (hs43 z66.toNat)) z66.toNat (hs43 z48.toNat)) (sll (sll x42 z48 (gl x42 z66)) z66 (gl x42 z48)), .row 24 3 (some ⟨g11, 0, none⟩) 1 1 [.int .i64 Pf, .int .i64 Mf, .slice Af mf.length kf]]) (fun _ => [(2, .int .i64 cols), (3, .pointer (some ⟨g11, 0, none⟩)), (6, .slice none 0 0), (7, .slice none 0 0), (8, .slice A15 x14.length k16), (9, .slice A45 x44.length k46), (10, .int .i64 z48), (11, .int .i64 z49), (12, .int .i64 z66), (24, .bool b67), (41, .bool b68), (47, .bool (decide (z66 = (x14.length : Int))))]) ?_ ?_
      .obtain ⟨o95, hv⟩ := hv
       obtain ⟨o100, hv⟩ := hv
       obtain ⟨o103, hv⟩ := hv
       have hS0 := hS
       refine ZO 13 [2, 3] (fun _ => false) (fun _ => none) (fun _ v => v) [⟨[], [8], true⟩, ⟨[], [10], true⟩, ⟨[], [8], true⟩, ⟨[], [12], true⟩, ⟨[], [8], true⟩, ⟨[], [12], true⟩, ⟨[4, 5], [], true⟩, ⟨[6], [], false⟩, ⟨[], [8], true⟩, ⟨[], [10], true⟩, ⟨[8, 9], [], true⟩, ⟨[10], [], false⟩, ⟨[0, 1], [], true⟩] [[(8, .slice A15 x14.length k16)], [(10, .int .i64 z48)], [(8, .slice A15 x14.length k16)], [(12, .int .i64 z66)], [(8, .slice A15 x14.length k16)], [(12, .int .i64 z66)], [], [], [(8, .slice A15 x14.length k16)], [(10, .int .i64 z48)], [], [], []] (fun iQ => [fun v _ => v = .slice A15 x14.length k16, fun v _ => v = .int .i64 z48, fun v _ => v = .slice A15 x14.length k16, fun v _ => v = .int .i64 z66, fun v _ => v = .slice A15 x14.length k16, fun v _ => v = .int .i64 z66, fun v _ => v = .pointer (some ((JM A15).add z66.toNat)), fun v _ => v = .slice ((hs43 z66.toNat).1) ((gl x42 z66).length) ((hs43 z66.toNat).2), fun v _ => v = .slice A15 x14.length k16, fun v _ => v = .int .i64 z48, fun v _ => v = .pointer (some ((JM A15).add z48.toNat)), fun v _ => v = .slice ((hs43 z48.toNat).1) ((gl x42 z48).length) ((hs43 z48.toNat).2), fun v _ => v = .pointer (some ((JM A15).add z48.toNat))].getD iQ (fun _ _ => True)) (fun _ => vbD) Try.mixed (by kernel_rfl) ?_ (fun _ _ _ _ _ _ _ h => h) (by kernel_rfl) ?_ ?_
       . refine J4 _ ?_
         intro VQ hVQ vQ wQ1 wQ2 hQ1 hQ2
         simp only [List.mem_cons, List.not_mem_nil, or_false] at hVQ
         rcases hVQ with rfl | rfl | rfl | rfl | rfl | rfl | rfl | rfl | rfl | rfl | rfl | rfl | rfl
         any_goals exact hQ1
       . refine ⟨⟨rfl, ⟨rfl, trivial⟩, ?_⟩, ⟨rfl, ⟨rfl, trivial⟩, ?_⟩, ⟨rfl, ⟨rfl, trivial⟩, ?_⟩, ⟨rfl, ⟨rfl, trivial⟩, ?_⟩, ⟨rfl, ⟨rfl, trivial⟩, ?_⟩, ⟨rfl, ⟨rfl, trivial⟩, ?_⟩, ⟨rfl, trivial, ?_⟩, ⟨rfl, trivial, ?_⟩, ⟨rfl, ⟨rfl, trivial⟩, ?_⟩, ⟨rfl, ⟨rfl, trivial⟩, ?_⟩, ⟨rfl, trivial, ?_⟩, ⟨rfl, trivial, ?_⟩, ⟨rfl, trivial, ?_⟩, trivial⟩
         . intro w88 hE
           intro RR
           refine Je rfl rfl ?_
           exact Ja ⟨_, rfl, dnq rfl rfl rfl rfl⟩
         . intro w89 hE
           intro RR
           refine Je rfl rfl ?_
           exact Ja ⟨_, rfl, dnq rfl rfl rfl rfl⟩
         . intro w90 hE
           intro RR
           refine Je rfl rfl ?_
           exact Ja ⟨_, rfl, dnq rfl rfl rfl rfl⟩
         . intro w91 hE
           intro RR
           refine Je rfl rfl ?_
           exact Ja ⟨_, rfl, dnq rfl rfl rfl rfl⟩
         . intro w92 hE
           intro RR
           refine Je rfl rfl ?_
           exact Ja ⟨_, rfl, dnq rfl rfl rfl rfl⟩
         . intro w93 hE
           intro RR
           refine Je rfl rfl ?_
           exact Ja ⟨_, rfl, dnq rfl rfl rfl rfl⟩
         . intro w94 hE
           rintro _ rfl
           rintro _ rfl
           intro RR
           refine JC 1 Jt Jy hS rfl rfl rfl o95 rfl ?_
           exact Ja ⟨_, rfl, dnq rfl rfl rfl rfl⟩
         . intro w96 hE
           have hE := hE rfl
           have hS := hS.grow hE
           rintro _ rfl
           intro RR
           refine Jd Jq rfl rfl (hS.mxcell (i := 1) rfl o95) rfl ?_
           exact Ja ⟨_, rfl, dnq (Jj _) rfl rfl rfl⟩
         . intro w97 hE
           intro RR
           refine Je rfl rfl ?_
           exact Ja ⟨_, rfl, dnq rfl rfl rfl rfl⟩
         . intro w98 hE
           intro RR
           refine Je rfl rfl ?_
           exact Ja ⟨_, rfl, dnq rfl rfl rfl rfl⟩
         . intro w99 hE
           rintro _ rfl
           rintro _ rfl
           intro RR
           refine JC 1 Jt Jy hS rfl rfl rfl o100 rfl ?_
           exact Ja ⟨_, rfl, dnq rfl rfl rfl rfl⟩
         . intro w101 hE
           have hE := hE rfl
           have hS := hS.grow hE
           rintro _ rfl
           intro RR
           refine Jd Jq rfl rfl (hS.mxcell (i := 1) rfl o100) rfl ?_
           exact Ja ⟨_, rfl, dnq (Jj _) rfl rfl rfl⟩
         intro w102 hE
         rintro _ rfl
         rintro _ rfl
         intro RR
         refine JC 1 Jt Jy hS rfl rfl rfl o103 rfl ?_
         exact Ja ⟨_, rfl, dnq rfl rfl rfl rfl⟩
       intro X hX
       have hX : X ∈ ([[], [3], [2], [2, 3]] : List (List Nat)) := hX
       simp only [List.mem_cons, List.not_mem_nil, or_false] at hX
       rcases hX with rfl | rfl | rfl | rfl
       .intro vals w104 hT hVs hAp hCp q_ hq_
        have hS := hS.grow hT
        obtain rfl : q_ = 3 := hq_.trans (by decide +kernel)
        have hv0 : vals 0 = _ := hVs 0 (by decide) (by decide)
        have hv1 : vals 1 = _ := hVs 1 (by decide) (by decide)
        have hv2 : vals 2 = _ := hVs 2 (by decide) (by decide)
        have hv3 : vals 3 = _ := hVs 3 (by decide) (by decide)
        have hv4 : vals 4 = _ := hVs 4 (by decide) (by decide)
        have hv5 : vals 5 = _ := hVs 5 (by decide) (by decide)
        have hv6 : vals 6 = _ := hVs 6 (by decide) (by decide)
        have hv7 : vals 7 = _ := hVs 7 (by decide) (by decide)
        have hv8 : vals 8 = _ := hVs 8 (by decide) (by decide)
        have hv9 : vals 9 = _ := hVs 9 (by decide) (by decide)
        have hv10 : vals 10 = _ := hVs 10 (by decide) (by decide)
        have hv11 : vals 11 = _ := hVs 11 (by decide) (by decide)
        have hv12 : vals 12 = _ := hVs 12 (by decide) (by decide)
        show WA _ _ _ _ _ _ _ _ ([(48, vals 0), (49, vals 1), (50, vals 2), (51, vals 3), (52, vals 4), (53, vals 5), (54, vals 6), (55, vals 7), (56, vals 8), (57, vals 9), (58, vals 10), (59, vals 11), (60, vals 12)] ++ _) _
        rw [hv0, hv1, hv2, hv3, hv4, hv5, hv6, hv7, hv8, hv9, hv10, hv11, hv12]
        refine Jf 13 (by decide +kernel) rfl <| J0 1 hS rfl Jy o103 o95 rfl rfl ?_
        intro w105 hS
        refine Ja <| Jf 14 (by decide +kernel) rfl ?_
        obtain ⟨o106, hv⟩ := hv
        refine Jl Jt Jy (hS.mxdout (q := 1) rfl) rfl rfl o106 rfl <| Ja <| Jf 15 (by decide +kernel) rfl <| JS 1 hS rfl Jy o103 o95 rfl rfl ?_
        intro w107 hS
        refine Ja <| Jr (by decide +kernel) ?_
        exact ⟨(), ⟨rfl, rfl, rfl, rfl, rfl, rfl, rfl, rfl, rfl, rfl, rfl, rfl, trivial⟩, rfl, hv, hS⟩
       .intro vals w104 hT hVs hAp hCp q_ hq_
        have hS := hS.grow hT
        obtain rfl : q_ = 4 := hq_.trans (by decide +kernel)
        have hv0 : vals 0 = _ := hVs 0 (by decide) (by decide)
        have hv1 : vals 1 = _ := hVs 1 (by decide) (by decide)
        have hv2 : vals 2 = _ := hVs 2 (by decide) (by decide)
        have hv4 : vals 4 = _ := hVs 4 (by decide) (by decide)
        have hv5 : vals 5 = _ := hVs 5 (by decide) (by decide)
        have hv6 : vals 6 = _ := hVs 6 (by decide) (by decide)
        have hv7 : vals 7 = _ := hVs 7 (by decide) (by decide)
        have hv8 : vals 8 = _ := hVs 8 (by decide) (by decide)
        have hv9 : vals 9 = _ := hVs 9 (by decide) (by decide)
        have hv10 : vals 10 = _ := hVs 10 (by decide) (by decide)
        have hv11 : vals 11 = _ := hVs 11 (by decide) (by decide)
        have hv12 : vals 12 = _ := hVs 12 (by decide) (by decide)
        show WA _ _ _ _ _ _ _ _ ([(48, vals 0), (49, vals 1), (50, vals 2), (52, vals 4), (53, vals 5), (54, vals 6), (55, vals 7), (56, vals 8), (57, vals 9), (58, vals 10), (59, vals 11), (60, vals 12)] ++ _) _
        rw [hv0, hv1, hv2, hv4, hv5, hv6, hv7, hv8, hv9, hv10, hv11, hv12]
        refine WA.step [3, 13] (by decide +kernel) rfl ?_
        intro iQ hQ
        simp only [List.mem_cons, List.not_mem_nil, or_false] at hQ
        rcases hQ with rfl | rfl
        .refine ⟨_, rfl, ?_⟩
         refine Jc 2 <| Jf 13 (by decide +kernel) rfl <| J0 1 hS rfl Jy o103 o95 rfl rfl ?_
         intro w105 hS
         refine Ja <| Jf 14 (by decide +kernel) rfl ?_
         obtain ⟨o106, hv⟩ := hv
         refine Jl Jt Jy (hS.mxdout (q := 1) rfl) rfl rfl o106 rfl <| Ja <| Jf 15 (by decide +kernel) rfl <| JS 1 hS rfl Jy o103 o95 rfl rfl ?_
         intro w107 hS
         refine Ja <| Jr (by decide +kernel) ?_
         exact ⟨(), ⟨rfl, rfl, rfl, rfl, rfl, rfl, rfl, rfl, rfl, rfl, rfl, rfl, trivial⟩, rfl, hv, hS⟩
        refine ⟨_, rfl, ?_⟩
        refine J0 1 hS rfl Jy o103 o95 rfl rfl ?_
        intro w105 hS
        refine Ja <| Jf 3 (by decide +kernel) rfl <| Jc 2 <| Jf 14 (by decide +kernel) rfl ?_
        obtain ⟨o106, hv⟩ := hv
        refine Jl Jt Jy (hS.mxdout (q := 1) rfl) rfl rfl o106 rfl <| Ja <| Jf 15 (by decide +kernel) rfl <| JS 1 hS rfl Jy o103 o95 rfl rfl ?_
        intro w107 hS
        refine Ja <| Jr (by decide +kernel) ?_
        exact ⟨(), ⟨rfl, rfl, rfl, rfl, rfl, rfl, rfl, rfl, rfl, rfl, rfl, rfl, trivial⟩, rfl, hv, hS⟩
       .intro vals w104 hT hVs hAp hCp q_ hq_
        have hS := hS.grow hT
        obtain rfl : q_ = 4 := hq_.trans (by decide +kernel)
        have hv0 : vals 0 = _ := hVs 0 (by decide) (by decide)
        have hv1 : vals 1 = _ := hVs 1 (by decide) (by decide)
        have hv3 : vals 3 = _ := hVs 3 (by decide) (by decide)
        have hv4 : vals 4 = _ := hVs 4 (by decide) (by decide)
        have hv5 : vals 5 = _ := hVs 5 (by decide) (by decide)
        have hv6 : vals 6 = _ := hVs 6 (by decide) (by decide)
        have hv7 : vals 7 = _ := hVs 7 (by decide) (by decide)
        have hv8 : vals 8 = _ := hVs 8 (by decide) (by decide)
        have hv9 : vals 9 = _ := hVs 9 (by decide) (by decide)
        have hv10 : vals 10 = _ := hVs 10 (by decide) (by decide)
        have hv11 : vals 11 = _ := hVs 11 (by decide) (by decide)
        have hv12 : vals 12 = _ := hVs 12 (by decide) (by decide)
        show WA _ _ _ _ _ _ _ _ ([(48, vals 0), (49, vals 1), (51, vals 3), (52, vals 4), (53, vals 5), (54, vals 6), (55, vals 7), (56, vals 8), (57, vals 9), (58, vals 10), (59, vals 11), (60, vals 12)] ++ _) _
        rw [hv0, hv1, hv3, hv4, hv5, hv6, hv7, hv8, hv9, hv10, hv11, hv12]
        refine WA.step [2, 13] (by decide +kernel) rfl ?_
        intro iQ hQ
        simp only [List.mem_cons, List.not_mem_nil, or_false] at hQ
        rcases hQ with rfl | rfl
        .refine ⟨_, rfl, ?_⟩
         refine Jc 2 <| Jf 13 (by decide +kernel) rfl <| J0 1 hS rfl Jy o103 o95 rfl rfl ?_
         intro w105 hS
         refine Ja <| Jf 14 (by decide +kernel) rfl ?_
         obtain ⟨o106, hv⟩ := hv
         refine Jl Jt Jy (hS.mxdout (q := 1) rfl) rfl rfl o106 rfl <| Ja <| Jf 15 (by decide +kernel) rfl <| JS 1 hS rfl Jy o103 o95 rfl rfl ?_
         intro w107 hS
         refine Ja <| Jr (by decide +kernel) ?_
         exact ⟨(), ⟨rfl, rfl, rfl, rfl, rfl, rfl, rfl, rfl, rfl, rfl, rfl, rfl, trivial⟩, rfl, hv, hS⟩
        refine ⟨_, rfl, ?_⟩
        refine J0 1 hS rfl Jy o103 o95 rfl rfl ?_
        intro w105 hS
        refine Ja <| Jf 2 (by decide +kernel) rfl <| Jc 2 <| Jf 14 (by decide +kernel) rfl ?_
        obtain ⟨o106, hv⟩ := hv
        refine Jl Jt Jy (hS.mxdout (q := 1) rfl) rfl rfl o106 rfl <| Ja <| Jf 15 (by decide +kernel) rfl <| JS 1 hS rfl Jy o103 o95 rfl rfl ?_
        intro w107 hS
        refine Ja <| Jr (by decide +kernel) ?_
        exact ⟨(), ⟨rfl, rfl, rfl, rfl, rfl, rfl, rfl, rfl, rfl, rfl, rfl, rfl, trivial⟩, rfl, hv, hS⟩
       intro vals w104 hT hVs hAp hCp q_ hq_
       have hS := hS.grow hT
       obtain rfl : q_ = 5 := hq_.trans (by decide +kernel)
       have hv0 : vals 0 = _ := hVs 0 (by decide) (by decide)
       have hv1 : vals 1 = _ := hVs 1 (by decide) (by decide)
       have hv4 : vals 4 = _ := hVs 4 (by decide) (by decide)
       have hv5 : vals 5 = _ := hVs 5 (by decide) (by decide)
       have hv6 : vals 6 = _ := hVs 6 (by decide) (by decide)
       have hv7 : vals 7 = _ := hVs 7 (by decide) (by decide)
       have hv8 : vals 8 = _ := hVs 8 (by decide) (by decide)
       have hv9 : vals 9 = _ := hVs 9 (by decide) (by decide)
       have hv10 : vals 10 = _ := hVs 10 (by decide) (by decide)
       have hv11 : vals 11 = _ := hVs 11 (by decide) (by decide)
       have hv12 : vals 12 = _ := hVs 12 (by decide) (by decide)
       show WA _ _ _ _ _ _ _ _ ([(48, vals 0), (49, vals 1), (52, vals 4), (53, vals 5), (54, vals 6), (55, vals 7), (56, vals 8), (57, vals 9), (58, vals 10), (59, vals 11), (60, vals 12)] ++ _) _
       rw [hv0, hv1, hv4, hv5, hv6, hv7, hv8, hv9, hv10, hv11, hv12]
       refine WA.step [2, 3, 13] (by decide +kernel) rfl ?_
       intro iQ hQ
       simp only [List.mem_cons, List.not_mem_nil, or_false] at hQ
       rcases hQ with rfl | rfl | rfl
       .refine ⟨_, rfl, ?_⟩
        refine Jc 2 <| WA.step [3, 13] (by decide +kernel) rfl ?_
        intro iQ hQ
        simp only [List.mem_cons, List.not_mem_nil, or_false] at hQ
        rcases hQ with rfl | rfl
        .refine ⟨_, rfl, ?_⟩
         refine Jc 2 <| Jf 13 (by decide +kernel) rfl <| J0 1 hS rfl Jy o103 o95 rfl rfl ?_
         intro w105 hS
         refine Ja <| Jf 14 (by decide +kernel) rfl ?_
         obtain ⟨o106, hv⟩ := hv
         refine Jl Jt Jy (hS.mxdout (q := 1) rfl) rfl rfl o106 rfl <| Ja <| Jf 15 (by decide +kernel) rfl <| JS 1 hS rfl Jy o103 o95 rfl rfl ?_
         intro w107 hS
         refine Ja <| Jr (by decide +kernel) ?_
         exact ⟨(), ⟨rfl, rfl, rfl, rfl, rfl, rfl, rfl, rfl, rfl, rfl, rfl, rfl, trivial⟩, rfl, hv, hS⟩
        refine ⟨_, rfl, ?_⟩
        refine J0 1 hS rfl Jy o103 o95 rfl rfl ?_
        intro w105 hS
        refine Ja <| Jf 3 (by decide +kernel) rfl <| Jc 2 <| Jf 14 (by decide +kernel) rfl ?_
        obtain ⟨o106, hv⟩ := hv
        refine Jl Jt Jy (hS.mxdout (q := 1) rfl) rfl rfl o106 rfl <| Ja <| Jf 15 (by decide +kernel) rfl <| JS 1 hS rfl Jy o103 o95 rfl rfl ?_
        intro w107 hS
        refine Ja <| Jr (by decide +kernel) ?_
        exact ⟨(), ⟨rfl, rfl, rfl, rfl, rfl, rfl, rfl, rfl, rfl, rfl, rfl, rfl, trivial⟩, rfl, hv, hS⟩
       .refine ⟨_, rfl, ?_⟩
        refine Jc 2 <| WA.step [2, 13] (by decide +kernel) rfl ?_
        intro iQ hQ
        simp only [List.mem_cons, List.not_mem_nil, or_false] at hQ
        rcases hQ with rfl | rfl
        .refine ⟨_, rfl, ?_⟩
         refine Jc 2 <| Jf 13 (by decide +kernel) rfl <| J0 1 hS rfl Jy o103 o95 rfl rfl ?_
         intro w105 hS
         refine Ja <| Jf 14 (by decide +kernel) rfl ?_
         obtain ⟨o106, hv⟩ := hv
         refine Jl Jt Jy (hS.mxdout (q := 1) rfl) rfl rfl o106 rfl <| Ja <| Jf 15 (by decide +kernel) rfl <| JS 1 hS rfl Jy o103 o95 rfl rfl ?_
         intro w107 hS
         refine Ja <| Jr (by decide +kernel) ?_
         exact ⟨(), ⟨rfl, rfl, rfl, rfl, rfl, rfl, rfl, rfl, rfl, rfl, rfl, rfl, trivial⟩, rfl, hv, hS⟩
        refine ⟨_, rfl, ?_⟩
        refine J0 1 hS rfl Jy o103 o95 rfl rfl ?_
        intro w105 hS
        refine Ja <| Jf 2 (by decide +kernel) rfl <| Jc 2 <| Jf 14 (by decide +kernel) rfl ?_
        obtain ⟨o106, hv⟩ := hv
        refine Jl Jt Jy (hS.mxdout (q := 1) rfl) rfl rfl o106 rfl <| Ja <| Jf 15 (by decide +kernel) rfl <| JS 1 hS rfl Jy o103 o95 rfl rfl ?_
        intro w107 hS
        refine Ja <| Jr (by decide +kernel) ?_
        exact ⟨(), ⟨rfl, rfl, rfl, rfl, rfl, rfl, rfl, rfl, rfl, rfl, rfl, rfl, trivial⟩, rfl, hv, hS⟩
       refine ⟨_, rfl, ?_⟩
       refine J0 1 hS rfl Jy o103 o95 rfl rfl ?_
       intro w105 hS
       refine Ja <| WA.step [2, 3] (by decide +kernel) rfl ?_
       intro iQ hQ
       simp only [List.mem_cons, List.not_mem_nil, or_false] at hQ
       rcases hQ with rfl | rfl
       .refine ⟨_, rfl, ?_⟩
        refine Jc 2 <| Jf 3 (by decide +kernel) rfl <| Jc 2 <| Jf 14 (by decide +kernel) rfl ?_
        obtain ⟨o106, hv⟩ := hv
        refine Jl Jt Jy (hS.mxdout (q := 1) rfl) rfl rfl o106 rfl <| Ja <| Jf 15 (by decide +kernel) rfl <| JS 1 hS rfl Jy o103 o95 rfl rfl ?_
        intro w107 hS
        refine Ja <| Jr (by decide +kernel) ?_
        exact ⟨(), ⟨rfl, rfl, rfl, rfl, rfl, rfl, rfl, rfl, rfl, rfl, rfl, rfl, trivial⟩, rfl, hv, hS⟩
       refine ⟨_, rfl, ?_⟩
       refine Jc 2 <| Jf 2 (by decide +kernel) rfl <| Jc 2 <| Jf 14 (by decide +kernel) rfl ?_
       obtain ⟨o106, hv⟩ := hv
       refine Jl Jt Jy (hS.mxdout (q := 1) rfl) rfl rfl o106 rfl <| Ja <| Jf 15 (by decide +kernel) rfl <| JS 1 hS rfl Jy o103 o95 rfl rfl ?_
       intro w107 hS
       refine Ja <| Jr (by decide +kernel) ?_
       exact ⟨(), ⟨rfl, rfl, rfl, rfl, rfl, rfl, rfl, rfl, rfl, rfl, rfl, rfl, trivial⟩, rfl, hv, hS⟩
      rintro _ w108 ⟨hv, hS⟩
      have hv := hk225  hv
      refine Jg 5 ?_
      obtain ⟨o109, hv⟩ := hv
      refine JC 1 Jt Jy hS rfl rfl rfl o109 rfl <| Jd Jq rfl rfl (hS.mxcell (i := 1) rfl o109) rfl <| Je rfl rfl ?_
      obtain ⟨o110, hv⟩ := hv
      refine Jl Jq XE3 (hS.mxrd (i := 1) rfl o109) rfl rfl o110 rfl <| Jd XU3 rfl rfl (JH (hS.mxrd (i := 1) rfl o109) o110) rfl <| Jc 2 ?_
      obtain ⟨J113, hv, hk224⟩ := hv
      refine Qx (σ := List (List Int) × Hs) (fun q w1 => match q with | (x111, hs112) => J113 x111 /\ St TT w none w1 [.row 3 1 A45 x44.length k46 (is x44), mx 22 3 A15 x14.length k16 hs112 x111, .row 24 3 (some ⟨g11, 0, none⟩) 1 1 [.int .i64 Pf, .int .i64 Mf, .slice Af mf.length kf]]) (fun q => match q with | (x111, hs112) => [(2, .int .i64 cols), (3, .pointer (some ⟨g11, 0, none⟩)), (6, .slice none 0 0), (7, .slice none 0 0), (8, .slice A15 x14.length k16), (9, .slice A45 x44.length k46), (10, .int .i64 z48), (11, .int .i64 z49), (12, .int .i64 z66), (24, .bool b67), (41, .bool b68), (47, .bool (decide (z66 = (x14.length : Int)))), (69, .bool (decide ((gi (gl (sll (sll x42 z48 (gl x42 z66)) z66 (gl x42 z48)) z48) z49) ≠ (1 : Int))))]) ?_ ?_
      .refine Jm rfl (fun c114 => ?_) (fun c114 => ?_)
       .have hv := hv.1 (of_decide_eq_true c114)
        obtain ⟨o122, hv⟩ := hv
        obtain ⟨o126, hv⟩ := hv
        obtain ⟨r129, o131, hv⟩ := hv
        obtain ⟨o135, hv⟩ := hv
        obtain ⟨x138, o145, hv⟩ := hv
        have hS0 := hS
        refine QA 17 (fun iA => [false, false, false, false, false, false, false, false, false, false, false, false, false, false, false, false, true].getD iA false) (fun _ => none) (fun _ v => v) [⟨[], [8], true⟩, ⟨[], [10], true⟩, ⟨[], [3], false⟩, ⟨[], [3], false⟩, ⟨[], [8], true⟩, ⟨[], [10], true⟩, ⟨[4, 5], [], true⟩, ⟨[6], [], false⟩, ⟨[], [11], true⟩, ⟨[7, 8], [], true⟩, ⟨[9], [], false⟩, ⟨[3, 10], [], false⟩, ⟨[], [8], true⟩, ⟨[], [10], true⟩, ⟨[12, 13], [], true⟩, ⟨[14], [], false⟩, ⟨[2, 11, 15], [], false⟩] [[(8, .slice A15 x14.length k16)], [(10, .int .i64 z48)], [(3, .pointer (some ⟨g11, 0, none⟩))], [(3, .pointer (some ⟨g11, 0, none⟩))], [(8, .slice A15 x14.length k16)], [(10, .int .i64 z48)], [], [], [(11, .int .i64 z49)], [], [], [], [(8, .slice A15 x14.length k16)], [(10, .int .i64 z48)], [], [], []] (fun iQ => [fun v _ => v = .slice A15 x14.length k16, fun v _ => v = .int .i64 z48, fun v _ => v = .agg #[.int .i64 Pf, .int .i64 Mf, .slice Af mf.length kf], fun v _ => v = .agg #[.int .i64 Pf, .int .i64 Mf, .slice Af mf.length kf], fun v _ => v = .slice A15 x14.length k16, fun v _ => v = .int .i64 z48, fun v _ => v = .pointer (some ((JM A15).add z48.toNat)), fun v _ => v = .slice (((up (up hs43 z48.toNat (hs43 z66.toNat)) z66.toNat (hs43 z48.toNat)) z48.toNat).1) ((gl (sll (sll x42 z48 (gl x42 z66)) z66 (gl x42 z48)) z48).length) (((up (up hs43 z48.toNat (hs43 z66.toNat)) z66.toNat (hs43 z48.toNat)) z48.toNat).2), fun v _ => v = .int .i64 z49, fun v _ => v = .pointer (some ((JM (((up (up hs43 z48.toNat (hs43 z66.toNat)) z66.toNat (hs43 z48.toNat)) z48.toNat).1)).add z49.toNat)), fun v _ => v = .int .i64 (gi (gl (sll (sll x42 z48 (gl x42 z66)) z66 (gl x42 z48)) z48) z49), fun v _ => v = .int .i64 r129, fun v _ => v = .slice A15 x14.length k16, fun v _ => v = .int .i64 z48, fun v _ => v = .pointer (some ((JM A15).add z48.toNat)), fun v _ => v = .slice (((up (up hs43 z48.toNat (hs43 z66.toNat)) z66.toNat (hs43 z48.toNat)) z48.toNat).1) ((gl (sll (sll x42 z48 (gl x42 z66)) z66 (gl x42 z48)) z48).length) (((up (up hs43 z48.toNat (hs43 z66.toNat)) z66.toNat (hs43 z48.toNat)) z48.toNat).2), fun v wQ => ∃ A139_16 k140_16, v = .slice A139_16 x138.length k140_16 /\ Own 0 wQ 3 1 A139_16 x138.length k140_16 (is x138) /\ (∀ g, bl A139_16 = some g -> w108.heap.size <= g)].getD iQ (fun _ _ => True)) (fun _ => vbD) Try.mixed (by kernel_rfl) ?_ (fun _ _ _ _ _ _ _ h => h) (by kernel_rfl) ?_ ?_
        . refine J4 _ ?_
          intro VQ hVQ vQ wQ1 wQ2 hQ1 hQ2
          simp only [List.mem_cons, List.not_mem_nil, or_false] at hVQ
          rcases hVQ with rfl | rfl | rfl | rfl | rfl | rfl | rfl | rfl | rfl | rfl | rfl | rfl | rfl | rfl | rfl | rfl | rfl
          any_goals exact hQ1
          obtain ⟨A139_16, k140_16, hQe, hO143_16, hN144_16⟩ := hQ1
          exact ⟨A139_16, k140_16, hQe, hO143_16.ext hQ2, hN144_16⟩
        . refine ⟨⟨rfl, ⟨rfl, trivial⟩, ?_⟩, ⟨rfl, ⟨rfl, trivial⟩, ?_⟩, ⟨rfl, ⟨rfl, trivial⟩, ?_⟩, ⟨rfl, ⟨rfl, trivial⟩, ?_⟩, ⟨rfl, ⟨rfl, trivial⟩, ?_⟩, ⟨rfl, ⟨rfl, trivial⟩, ?_⟩, ⟨rfl, trivial, ?_⟩, ⟨rfl, trivial, ?_⟩, ⟨rfl, ⟨rfl, trivial⟩, ?_⟩, ⟨rfl, trivial, ?_⟩, ⟨rfl, trivial, ?_⟩, ⟨rfl, trivial, ?_⟩, ⟨rfl, ⟨rfl, trivial⟩, ?_⟩, ⟨rfl, ⟨rfl, trivial⟩, ?_⟩, ⟨rfl, trivial, ?_⟩, ⟨rfl, trivial, ?_⟩, ⟨rfl, trivial, ?_⟩, trivial⟩
          . intro w115 hE
            intro RR
            refine Je rfl rfl ?_
            exact Ja ⟨_, rfl, dnq rfl rfl rfl rfl⟩
          . intro w116 hE
            intro RR
            refine Je rfl rfl ?_
            exact Ja ⟨_, rfl, dnq rfl rfl rfl rfl⟩
          . intro w117 hE
            have hE := hE rfl
            have hS := hS.grow hE
            intro RR
            refine Jk (cs := [.int .i64 Pf, .int .i64 Mf, .slice Af mf.length kf]) JT JY rfl rfl (Jb (hS.own (i := 2) rfl)) rfl ?_
            exact Ja ⟨_, rfl, dnq (Jj _) rfl rfl rfl⟩
          . intro w118 hE
            have hE := hE rfl
            have hS := hS.grow hE
            intro RR
            refine Jk (cs := [.int .i64 Pf, .int .i64 Mf, .slice Af mf.length kf]) JT JY rfl rfl (Jb (hS.own (i := 2) rfl)) rfl ?_
            exact Ja ⟨_, rfl, dnq (Jj _) rfl rfl rfl⟩
          . intro w119 hE
            intro RR
            refine Je rfl rfl ?_
            exact Ja ⟨_, rfl, dnq rfl rfl rfl rfl⟩
          . intro w120 hE
            intro RR
            refine Je rfl rfl ?_
            exact Ja ⟨_, rfl, dnq rfl rfl rfl rfl⟩
          . intro w121 hE
            rintro _ rfl
            rintro _ rfl
            intro RR
            refine JC 1 Jt Jy hS rfl rfl rfl o122 rfl ?_
            exact Ja ⟨_, rfl, dnq rfl rfl rfl rfl⟩
          . intro w123 hE
            have hE := hE rfl
            have hS := hS.grow hE
            rintro _ rfl
            intro RR
            refine Jd Jq rfl rfl (hS.mxcell (i := 1) rfl o122) rfl ?_
            exact Ja ⟨_, rfl, dnq (Jj _) rfl rfl rfl⟩
          . intro w124 hE
            intro RR
            refine Je rfl rfl ?_
            exact Ja ⟨_, rfl, dnq rfl rfl rfl rfl⟩
          . intro w125 hE
            rintro _ rfl
            rintro _ rfl
            intro RR
            refine Jl Jq XE3 (hS.mxrd (i := 1) rfl o122) rfl rfl o126 rfl ?_
            exact Ja ⟨_, rfl, dnq rfl rfl rfl rfl⟩
          . intro w127 hE
            have hE := hE rfl
            have hS := hS.grow hE
            rintro _ rfl
            intro RR
            refine Jd XU3 rfl rfl (JH (hS.mxrd (i := 1) rfl o122) o126) rfl ?_
            exact Ja ⟨_, rfl, dnq (Jj _) rfl rfl rfl⟩
          . intro w128 hE
            have hE := hE rfl
            have hS := hS.grow hE
            rintro _ rfl
            rintro _ rfl
            intro RR
            refine WL.call XF103 rfl XN103 rfl rfl (JP (Jur (hS.ro hf) o131)) ?_
            rintro _ w130 ⟨_, hGw130, hRww130, hNww130, r129q, rfl, rfl, he⟩
            subst he
            exact Ja ⟨_, rfl, dnq hGw130 rfl rfl rfl⟩
          . intro w132 hE
            intro RR
            refine Je rfl rfl ?_
            exact Ja ⟨_, rfl, dnq rfl rfl rfl rfl⟩
          . intro w133 hE
            intro RR
            refine Je rfl rfl ?_
            exact Ja ⟨_, rfl, dnq rfl rfl rfl rfl⟩
          . intro w134 hE
            rintro _ rfl
            rintro _ rfl
            intro RR
            refine JC 1 Jt Jy hS rfl rfl rfl o135 rfl ?_
            exact Ja ⟨_, rfl, dnq rfl rfl rfl rfl⟩
          . intro w136 hE
            have hE := hE rfl
            have hS := hS.grow hE
            rintro _ rfl
            intro RR
            refine Jd Jq rfl rfl (hS.mxcell (i := 1) rfl o135) rfl ?_
            exact Ja ⟨_, rfl, dnq (Jj _) rfl rfl rfl⟩
          intro w137 hE
          have hE := hE rfl
          have hS := hS.grow hE
          rintro _ rfl
          rintro _ rfl
          rintro _ rfl
          intro RR
          refine WL.call XF102 rfl XN102 rfl rfl (JP (Jpc (hS.ro hf) (hS.mxrd (i := 1) rfl o135) o145)) ?_
          rintro _ w142 ⟨_, hGw142, hRww142, hNww142, x138q, A139, k140, rfl, rfl, he⟩
          subst he
          have hO143 := (hRww142.get (i := 0) rfl).1
          have hN144 : ∀ g, bl A139 = some g -> _ <= g := fun g hg => Nat.le_trans hE.size (hNww142.1 g hg)
          exact Ja ⟨_, rfl, hGw142, ⟨A139, k140, rfl, hO143, hN144⟩, (fun _ => fun g hg => ⟨hNww142.1 g hg, (hO143.bl_ge g hg).2⟩), (fun j h => by cases h)⟩
        intro vals w146 hT hVs hAp hCp
        have hS := hS.grow hT
        have hv0 : vals 0 = _ := hVs 0 (by decide)
        have hv1 : vals 1 = _ := hVs 1 (by decide)
        have hv2 : vals 2 = _ := hVs 2 (by decide)
        have hv3 : vals 3 = _ := hVs 3 (by decide)
        have hv4 : vals 4 = _ := hVs 4 (by decide)
        have hv5 : vals 5 = _ := hVs 5 (by decide)
        have hv6 : vals 6 = _ := hVs 6 (by decide)
        have hv7 : vals 7 = _ := hVs 7 (by decide)
        have hv8 : vals 8 = _ := hVs 8 (by decide)
        have hv9 : vals 9 = _ := hVs 9 (by decide)
        have hv10 : vals 10 = _ := hVs 10 (by decide)
        have hv11 : vals 11 = _ := hVs 11 (by decide)
        have hv12 : vals 12 = _ := hVs 12 (by decide)
        have hv13 : vals 13 = _ := hVs 13 (by decide)
        have hv14 : vals 14 = _ := hVs 14 (by decide)
        have hv15 : vals 15 = _ := hVs 15 (by decide)
        obtain ⟨A139_16, k140_16, hv16, hO143_16, hN144_16⟩ := hVs 16 (by decide)
        have hS := Qe [] hS0 hS hO143_16 hN144_16 (fun s hs => by cases hs)
        show WA _ _ _ _ _ _ _ _ ([(70, vals 0), (71, vals 1), (72, vals 2), (73, vals 3), (74, vals 4), (75, vals 5), (76, vals 6), (77, vals 7), (78, vals 8), (79, vals 9), (80, vals 10), (81, vals 11), (82, vals 12), (83, vals 13), (84, vals 14), (85, vals 15), (86, vals 16)] ++ _) _
        rw [hv0, hv1, hv2, hv3, hv4, hv5, hv6, hv7, hv8, hv9, hv10, hv11, hv12, hv13, hv14, hv15, hv16]
        refine Jf 17 (by decide +kernel) rfl ?_
        obtain ⟨o148, hv⟩ := hv
        refine JC 2 Jt Jy hS rfl rfl rfl o148 rfl <| Ja <| Jf 18 (by decide +kernel) rfl ?_
        have hS := hS.pick [0, 2, 1, 3] rfl
        refine Q9 hS Jy o148 (hS.rd (i := 0) rfl).ilen.symm rfl rfl ?_
        intro w149 hS
        refine Ja <| Jr (by decide +kernel) ?_
        have hS := hS.pick [1, 0, 2] rfl
        exact ⟨(sll (sll (sll x42 z48 (gl x42 z66)) z66 (gl x42 z48)) z48 x138, (up (up (up hs43 z48.toNat (hs43 z66.toNat)) z66.toNat (hs43 z48.toNat)) z48.toNat (A139_16, k140_16))), ⟨rfl, rfl, rfl, rfl, rfl, rfl, rfl, rfl, rfl, rfl, rfl, rfl, rfl, trivial⟩, rfl, hv, hS⟩
       have hv := hv.2 (of_decide_eq_false c114)
       refine Jn ?_
       exact ⟨(sll (sll x42 z48 (gl x42 z66)) z66 (gl x42 z48), (up (up hs43 z48.toNat (hs43 z66.toNat)) z66.toNat (hs43 z48.toNat))), ⟨rfl, rfl, rfl, rfl, rfl, rfl, rfl, rfl, rfl, rfl, rfl, rfl, rfl, trivial⟩, rfl, hv, hS⟩
      rintro ⟨x111, hs112⟩ w150 ⟨hv, hS⟩
      have hv := hk224 x111 hv
      refine Jg 5 <| W.block ?_
      obtain ⟨I160, μ161, hv, hk223⟩ := hv
      refine JE (σ := List (List Int) × Int × Hs) (fun q w1 => match q with | (x157, z159, hs158) => I160 x157 z159 /\ St TT w none w1 [.row 3 1 A45 x44.length k46 (is x44), mx 22 3 A15 x14.length k16 hs158 x157, .row 24 3 (some ⟨g11, 0, none⟩) 1 1 [.int .i64 Pf, .int .i64 Mf, .slice Af mf.length kf]]) (fun q => match q with | (x157, z159, hs158) => [(2, .int .i64 cols), (3, .pointer (some ⟨g11, 0, none⟩)), (6, .slice none 0 0), (7, .slice none 0 0), (8, .slice A15 x14.length k16), (9, .slice A45 x44.length k46), (10, .int .i64 z48), (11, .int .i64 z49), (12, .int .i64 z66), (13, .int .i64 z159), (24, .bool b67), (41, .bool b68), (47, .bool (decide (z66 = (x14.length : Int)))), (69, .bool (decide ((gi (gl (sll (sll x42 z48 (gl x42 z66)) z66 (gl x42 z48)) z48) z49) ≠ (1 : Int))))]) (fun q => match q with | (x157, z159, hs158) => μ161 x157 z159) (x111, (0 : Int), hs112) ⟨hv, hS⟩ ⟨rfl, rfl, rfl, rfl, rfl, rfl, rfl, rfl, rfl, rfl, rfl, rfl, rfl, rfl, trivial⟩ ?_
      rintro ⟨x157, z159, hs158⟩ w162 ⟨hv, hS⟩
      have hv := hk223 x157 z159 hv
      refine Jg 5 <| WL.len Jt rfl rfl <| Jc 2 <| Jm rfl (fun c163 => ?_) (fun c163 => ?_)
      .have hv := hv.1 (of_decide_eq_true c163)
       refine Jn <| JB ?_
       obtain ⟨J167, hv, hk214⟩ := hv
       refine Qx (σ := List (List Int) × Bool × Hs) (fun q w1 => match q with | (x164, b166, hs165) => J167 x164 b166 /\ St TT w none w1 [.row 3 1 A45 x44.length k46 (is x44), mx 22 3 A15 x14.length k16 hs165 x164, .row 24 3 (some ⟨g11, 0, none⟩) 1 1 [.int .i64 Pf, .int .i64 Mf, .slice Af mf.length kf]]) (fun q => match q with | (x164, b166, hs165) => [(2, .int .i64 cols), (3, .pointer (some ⟨g11, 0, none⟩)), (6, .slice none 0 0), (7, .slice none 0 0), (8, .slice A15 x14.length k16), (9, .slice A45 x44.length k46), (10, .int .i64 z48), (11, .int .i64 z49), (12, .int .i64 z66), (13, .int .i64 z159), (24, .bool b67), (41, .bool b68), (47, .bool (decide (z66 = (x14.length : Int)))), (69, .bool (decide ((gi (gl (sll (sll x42 z48 (gl x42 z66)) z66 (gl x42 z48)) z48) z49) ≠ (1 : Int)))), (91, .bool (decide (z159 < (x14.length : Int)))), (106, .bool b166)]) ?_ ?_
       .refine W.block ?_
        refine Jg 5 <| Je rfl rfl ?_
        by_cases g168 : z159 ≠ z48
        .have hv := hv.1 g168
         rw [decide_eq_true g168]
         refine Jc 5 ?_
         obtain ⟨o169, hv⟩ := hv
         refine JC 1 Jt Jy hS rfl rfl rfl o169 rfl <| WL.take rfl <| Jd Jq rfl rfl (hS.mxcell (i := 1) rfl o169) rfl <| Jc 3 ?_
         obtain ⟨o170, hv⟩ := hv
         refine Jl Jq XE3 (hS.mxrd (i := 1) rfl o169) rfl rfl o170 rfl <| WL.take rfl <| Jd XU3 rfl rfl (JH (hS.mxrd (i := 1) rfl o169) o170) rfl <| Jc 4 <| Jm rfl (fun c171 => ?_) (fun c171 => ?_)
         .have hv := hv.1 (of_decide_eq_true c171)
          obtain ⟨o178, hv⟩ := hv
          obtain ⟨o184, hv⟩ := hv
          obtain ⟨o188, hv⟩ := hv
          obtain ⟨r191, o193, hv⟩ := hv
          obtain ⟨o197, hv⟩ := hv
          obtain ⟨x200, o207, hv⟩ := hv
          have hS0 := hS
          refine QA 21 (fun iA => [false, false, false, false, false, false, false, false, false, false, false, false, false, false, false, false, false, false, false, false, true].getD iA false) (fun _ => none) (fun _ v => v) [⟨[], [8], true⟩, ⟨[], [13], true⟩, ⟨[], [3], false⟩, ⟨[], [8], true⟩, ⟨[], [13], true⟩, ⟨[3, 4], [], true⟩, ⟨[5], [], false⟩, ⟨[], [3], false⟩, ⟨[], [8], true⟩, ⟨[], [13], true⟩, ⟨[8, 9], [], true⟩, ⟨[10], [], false⟩, ⟨[], [11], true⟩, ⟨[11, 12], [], true⟩, ⟨[13], [], false⟩, ⟨[7, 14], [], false⟩, ⟨[], [8], true⟩, ⟨[], [10], true⟩, ⟨[16, 17], [], true⟩, ⟨[18], [], false⟩, ⟨[2, 6, 15, 19], [], false⟩] [[(8, .slice A15 x14.length k16)], [(13, .int .i64 z159)], [(3, .pointer (some ⟨g11, 0, none⟩))], [(8, .slice A15 x14.length k16)], [(13, .int .i64 z159)], [], [], [(3, .pointer (some ⟨g11, 0, none⟩))], [(8, .slice A15 x14.length k16)], [(13, .int .i64 z159)], [], [], [(11, .int .i64 z49)], [], [], [], [(8, .slice A15 x14.length k16)], [(10, .int .i64 z48)], [], [], []] (fun iQ => [fun v _ => v = .slice A15 x14.length k16, fun v _ => v = .int .i64 z159, fun v _ => v = .agg #[.int .i64 Pf, .int .i64 Mf, .slice Af mf.length kf], fun v _ => v = .slice A15 x14.length k16, fun v _ => v = .int .i64 z159, fun v _ => v = .pointer (some ((JM A15).add z159.toNat)), fun v _ => v = .slice ((hs158 z159.toNat).1) ((gl x157 z159).length) ((hs158 z159.toNat).2), fun v _ => v = .agg #[.int .i64 Pf, .int .i64 Mf, .slice Af mf.length kf], fun v _ => v = .slice A15 x14.length k16, fun v _ => v = .int .i64 z159, fun v _ => v = .pointer (some ((JM A15).add z159.toNat)), fun v _ => v = .slice ((hs158 z159.toNat).1) ((gl x157 z159).length) ((hs158 z159.toNat).2), fun v _ => v = .int .i64 z49, fun v _ => v = .pointer (some ((JM ((hs158 z159.toNat).1)).add z49.toNat)), fun v _ => v = .int .i64 (gi (gl x157 z159) z49), fun v _ => v = .int .i64 r191, fun v _ => v = .slice A15 x14.length k16, fun v _ => v = .int .i64 z48, fun v _ => v = .pointer (some ((JM A15).add z48.toNat)), fun v _ => v = .slice ((hs158 z48.toNat).1) ((gl x157 z48).length) ((hs158 z48.toNat).2), fun v wQ => ∃ A201_20 k202_20, v = .slice A201_20 x200.length k202_20 /\ Own 0 wQ 3 1 A201_20 x200.length k202_20 (is x200) /\ (∀ g, bl A201_20 = some g -> w162.heap.size <= g)].getD iQ (fun _ _ => True)) (fun _ => vbD) Try.mixed (by kernel_rfl) ?_ (fun _ _ _ _ _ _ _ h => h) (by kernel_rfl) ?_ ?_
          . refine J4 _ ?_
            intro VQ hVQ vQ wQ1 wQ2 hQ1 hQ2
            simp only [List.mem_cons, List.not_mem_nil, or_false] at hVQ
            rcases hVQ with rfl | rfl | rfl | rfl | rfl | rfl | rfl | rfl | rfl | rfl | rfl | rfl | rfl | rfl | rfl | rfl | rfl | rfl | rfl | rfl | rfl
            any_goals exact hQ1
            obtain ⟨A201_20, k202_20, hQe, hO205_20, hN206_20⟩ := hQ1
            exact ⟨A201_20, k202_20, hQe, hO205_20.ext hQ2, hN206_20⟩
          . refine ⟨⟨rfl, ⟨rfl, trivial⟩, ?_⟩, ⟨rfl, ⟨rfl, trivial⟩, ?_⟩, ⟨rfl, ⟨rfl, trivial⟩, ?_⟩, ⟨rfl, ⟨rfl, trivial⟩, ?_⟩, ⟨rfl, ⟨rfl, trivial⟩, ?_⟩, ⟨rfl, trivial, ?_⟩, ⟨rfl, trivial, ?_⟩, ⟨rfl, ⟨rfl, trivial⟩, ?_⟩, ⟨rfl, ⟨rfl, trivial⟩, ?_⟩, ⟨rfl, ⟨rfl, trivial⟩, ?_⟩, ⟨rfl, trivial, ?_⟩, ⟨rfl, trivial, ?_⟩, ⟨rfl, ⟨rfl, trivial⟩, ?_⟩, ⟨rfl, trivial, ?_⟩, ⟨rfl, trivial, ?_⟩, ⟨rfl, trivial, ?_⟩, ⟨rfl, ⟨rfl, trivial⟩, ?_⟩, ⟨rfl, ⟨rfl, trivial⟩, ?_⟩, ⟨rfl, trivial, ?_⟩, ⟨rfl, trivial, ?_⟩, ⟨rfl, trivial, ?_⟩, trivial⟩
            . intro w172 hE
              intro RR
              refine Je rfl rfl ?_
              exact Ja ⟨_, rfl, dnq rfl rfl rfl rfl⟩
            . intro w173 hE
              intro RR
              refine Je rfl rfl ?_
              exact Ja ⟨_, rfl, dnq rfl rfl rfl rfl⟩
            . intro w174 hE
              have hE := hE rfl
              have hS := hS.grow hE
              intro RR
              refine Jk (cs := [.int .i64 Pf, .int .i64 Mf, .slice Af mf.length kf]) JT JY rfl rfl (Jb (hS.own (i := 2) rfl)) rfl ?_
              exact Ja ⟨_, rfl, dnq (Jj _) rfl rfl rfl⟩
            . intro w175 hE
              intro RR
              refine Je rfl rfl ?_
              exact Ja ⟨_, rfl, dnq rfl rfl rfl rfl⟩
            . intro w176 hE
              intro RR
              refine Je rfl rfl ?_
              exact Ja ⟨_, rfl, dnq rfl rfl rfl rfl⟩
            . intro w177 hE
              rintro _ rfl
              rintro _ rfl
              intro RR
              refine JC 1 Jt Jy hS rfl rfl rfl o178 rfl ?_
              exact Ja ⟨_, rfl, dnq rfl rfl rfl rfl⟩
            . intro w179 hE
              have hE := hE rfl
              have hS := hS.grow hE
              rintro _ rfl
              intro RR
              refine Jd Jq rfl rfl (hS.mxcell (i := 1) rfl o178) rfl ?_
              exact Ja ⟨_, rfl, dnq (Jj _) rfl rfl rfl⟩
            . intro w180 hE
              have hE := hE rfl
              have hS := hS.grow hE
              intro RR
              refine Jk (cs := [.int .i64 Pf, .int .i64 Mf, .slice Af mf.length kf]) JT JY rfl rfl (Jb (hS.own (i := 2) rfl)) rfl ?_
              exact Ja ⟨_, rfl, dnq (Jj _) rfl rfl rfl⟩
            . intro w181 hE
              intro RR
              refine Je rfl rfl ?_
              exact Ja ⟨_, rfl, dnq rfl rfl rfl rfl⟩
            . intro w182 hE
              intro RR
              refine Je rfl rfl ?_
              exact Ja ⟨_, rfl, dnq rfl rfl rfl rfl⟩
            . intro w183 hE
              rintro _ rfl
              rintro _ rfl
              intro RR
              refine JC 1 Jt Jy hS rfl rfl rfl o184 rfl ?_
              exact Ja ⟨_, rfl, dnq rfl rfl rfl rfl⟩
            . intro w185 hE
              have hE := hE rfl
              have hS := hS.grow hE
              rintro _ rfl
              intro RR
              refine Jd Jq rfl rfl (hS.mxcell (i := 1) rfl o184) rfl ?_
              exact Ja ⟨_, rfl, dnq (Jj _) rfl rfl rfl⟩
            . intro w186 hE
              intro RR
              refine Je rfl rfl ?_
              exact Ja ⟨_, rfl, dnq rfl rfl rfl rfl⟩
            . intro w187 hE
              rintro _ rfl
              rintro _ rfl
              intro RR
              refine Jl Jq XE3 (hS.mxrd (i := 1) rfl o184) rfl rfl o188 rfl ?_
              exact Ja ⟨_, rfl, dnq rfl rfl rfl rfl⟩
            . intro w189 hE
              have hE := hE rfl
              have hS := hS.grow hE
              rintro _ rfl
              intro RR
              refine Jd XU3 rfl rfl (JH (hS.mxrd (i := 1) rfl o184) o188) rfl ?_
              exact Ja ⟨_, rfl, dnq (Jj _) rfl rfl rfl⟩
            . intro w190 hE
              have hE := hE rfl
              have hS := hS.grow hE
              rintro _ rfl
              rintro _ rfl
              intro RR
              refine WL.call XF60 rfl XN60 rfl rfl (JP (Jn2 (hS.ro hf) o193)) ?_
              rintro _ w192 ⟨_, hGw192, hRww192, hNww192, r191q, rfl, rfl, he⟩
              subst he
              exact Ja ⟨_, rfl, dnq hGw192 rfl rfl rfl⟩
            . intro w194 hE
              intro RR
              refine Je rfl rfl ?_
              exact Ja ⟨_, rfl, dnq rfl rfl rfl rfl⟩
            . intro w195 hE
              intro RR
              refine Je rfl rfl ?_
              exact Ja ⟨_, rfl, dnq rfl rfl rfl rfl⟩
            . intro w196 hE
              rintro _ rfl
              rintro _ rfl
              intro RR
              refine JC 1 Jt Jy hS rfl rfl rfl o197 rfl ?_
              exact Ja ⟨_, rfl, dnq rfl rfl rfl rfl⟩
            . intro w198 hE
              have hE := hE rfl
              have hS := hS.grow hE
              rintro _ rfl
              intro RR
              refine Jd Jq rfl rfl (hS.mxcell (i := 1) rfl o197) rfl ?_
              exact Ja ⟨_, rfl, dnq (Jj _) rfl rfl rfl⟩
            intro w199 hE
            have hE := hE rfl
            have hS := hS.grow hE
            rintro _ rfl
            rintro _ rfl
            rintro _ rfl
            rintro _ rfl
            intro RR
            refine WL.call XF28 rfl XN28 rfl rfl (JP (Jpf (hS.ro hf) (hS.mxrd (i := 1) rfl o178) (hS.mxrd (i := 1) rfl o197) o207)) ?_
            rintro _ w204 ⟨_, hGw204, hRww204, hNww204, x200q, A201, k202, rfl, rfl, he⟩
            subst he
            have hO205 := (hRww204.get (i := 0) rfl).1
            have hN206 : ∀ g, bl A201 = some g -> _ <= g := fun g hg => Nat.le_trans hE.size (hNww204.1 g hg)
            exact Ja ⟨_, rfl, hGw204, ⟨A201, k202, rfl, hO205, hN206⟩, (fun _ => fun g hg => ⟨hNww204.1 g hg, (hO205.bl_ge g hg).2⟩), (fun j h => by cases h)⟩
          intro vals w208 hT hVs hAp hCp
          have hS := hS.grow hT
          have hv0 : vals 0 = _ := hVs 0 (by decide)
          have hv1 : vals 1 = _ := hVs 1 (by decide)
          have hv2 : vals 2 = _ := hVs 2 (by decide)
          have hv3 : vals 3 = _ := hVs 3 (by decide)
          have hv4 : vals 4 = _ := hVs 4 (by decide)
          have hv5 : vals 5 = _ := hVs 5 (by decide)
          have hv6 : vals 6 = _ := hVs 6 (by decide)
          have hv7 : vals 7 = _ := hVs 7 (by decide)
          have hv8 : vals 8 = _ := hVs 8 (by decide)
          have hv9 : vals 9 = _ := hVs 9 (by decide)
          have hv10 : vals 10 = _ := hVs 10 (by decide)
          have hv11 : vals 11 = _ := hVs 11 (by decide)
          have hv12 : vals 12 = _ := hVs 12 (by decide)
          have hv13 : vals 13 = _ := hVs 13 (by decide)
          have hv14 : vals 14 = _ := hVs 14 (by decide)
          have hv15 : vals 15 = _ := hVs 15 (by decide)
          have hv16 : vals 16 = _ := hVs 16 (by decide)
          have hv17 : vals 17 = _ := hVs 17 (by decide)
          have hv18 : vals 18 = _ := hVs 18 (by decide)
          have hv19 : vals 19 = _ := hVs 19 (by decide)
          obtain ⟨A201_20, k202_20, hv20, hO205_20, hN206_20⟩ := hVs 20 (by decide)
          have hS := Qe [] hS0 hS hO205_20 hN206_20 (fun s hs => by cases hs)
          show WA _ _ _ _ _ _ _ _ ([(107, vals 0), (108, vals 1), (109, vals 2), (110, vals 3), (111, vals 4), (112, vals 5), (113, vals 6), (114, vals 7), (115, vals 8), (116, vals 9), (117, vals 10), (118, vals 11), (119, vals 12), (120, vals 13), (121, vals 14), (122, vals 15), (123, vals 16), (124, vals 17), (125, vals 18), (126, vals 19), (127, vals 20)] ++ _) _
          rw [hv0, hv1, hv2, hv3, hv4, hv5, hv6, hv7, hv8, hv9, hv10, hv11, hv12, hv13, hv14, hv15, hv16, hv17, hv18, hv19, hv20]
          refine Jf 21 (by decide +kernel) rfl ?_
          obtain ⟨o210, hv⟩ := hv
          refine JC 2 Jt Jy hS rfl rfl rfl o210 rfl <| Ja <| Jf 22 (by decide +kernel) rfl ?_
          have hS := hS.pick [0, 2, 1, 3] rfl
          refine Q9 hS Jy o210 (hS.rd (i := 0) rfl).ilen.symm rfl rfl ?_
          intro w211 hS
          refine Ja <| Jr (by decide +kernel) ?_
          have hS := hS.pick [1, 0, 2] rfl
          exact ⟨(sll x157 z159 x200, (decide ((gi (gl x157 z159) z49) ≠ (0 : Int))), (up hs158 z159.toNat (A201_20, k202_20))), ⟨rfl, rfl, rfl, rfl, rfl, rfl, rfl, rfl, rfl, rfl, rfl, rfl, rfl, rfl, rfl, rfl, trivial⟩, rfl, hv, hS⟩
         have hv := hv.2 (of_decide_eq_false c171)
         refine Jn ?_
         exact ⟨(x157, (decide ((gi (gl x157 z159) z49) ≠ (0 : Int))), hs158), ⟨rfl, rfl, rfl, rfl, rfl, rfl, rfl, rfl, rfl, rfl, rfl, rfl, rfl, rfl, rfl, rfl, trivial⟩, rfl, hv, hS⟩
        have hv := hv.2 g168
        rw [decide_eq_false g168]
        refine Jc 10 <| Qv rfl <| Jn ?_
        exact ⟨(x157, false, hs158), ⟨rfl, rfl, rfl, rfl, rfl, rfl, rfl, rfl, rfl, rfl, rfl, rfl, rfl, rfl, rfl, rfl, trivial⟩, rfl, hv, hS⟩
       rintro ⟨x164, b166, hs165⟩ w212 ⟨hv, hS⟩
       have hv := hk214 x164 b166 hv
       refine Jg 2 ?_
       obtain ⟨o213, hv⟩ := hv
       refine WL.add (r := (z159 + (1 : Int))) rfl rfl (wr o213) rfl <| Jc 2 ?_
       exact ⟨(x164, (z159 + (1 : Int)), hs165), ⟨rfl, rfl, rfl, rfl, rfl, rfl, rfl, rfl, rfl, rfl, rfl, rfl, rfl, rfl, trivial⟩, hv.2, rfl, hv.1, hS⟩
      have hv := hv.2 (of_decide_eq_false c163)
      refine JA <| Jg 4 <| JQ (vs := is ([z49] : List Int)) hS Jq XE3 rfl rfl rfl rfl (J8 _) rfl ?_
      intro A215 w216 hS
      obtain ⟨o218, hv⟩ := hv
      refine SL.append (cs := is x44) (cs' := is ([z49] : List Int)) 1 ((x44 ++ ([z49] : List Int)).length) (is (x44 ++ ([z49] : List Int))) hS rfl Jq XE3 (hS.rd (i := 0) rfl) (J8 _) rfl rfl (apk o218).1 (apk o218).2 (Jba (hS.rd (i := 1) rfl) (hS.rd (i := 0) rfl)) (QD _ _) rfl ?_
      intro A219 k220 w221 hS
      refine Jc 2 <| Jg 2 ?_
      obtain ⟨o222, hv⟩ := hv
      refine WL.add (r := (z48 + (1 : Int))) rfl rfl (wr o222) rfl <| Jc 2 ?_
      have hS := hS.pick [1, 2, 3] rfl
      exact ⟨(x44 ++ ([z49] : List Int), x157, (z48 + (1 : Int)), z66, b67, b68, (decide (z66 = (x14.length : Int))), A219, k220, hs158), ⟨rfl, rfl, rfl, rfl, rfl, rfl, rfl, rfl, rfl, rfl, rfl, rfl, trivial⟩, rfl, hv, hS⟩
     rintro ⟨x55, x58, z60, z61, b62, b63, b64, A56, k57, hs59⟩ w227 ⟨hv, hS⟩
     have hv := hk229 x55 x58 z60 z61 b62 b63 b64 hv
     refine Jg 2 ?_
     obtain ⟨o228, hv⟩ := hv
     refine WL.add (r := (z49 + (1 : Int))) rfl rfl (wr o228) rfl <| Jc 2 ?_
     exact ⟨(x58, x55, z60, (z49 + (1 : Int)), hs59, A56, k57), ⟨rfl, rfl, rfl, rfl, rfl, rfl, rfl, rfl, trivial⟩, hv.2, rfl, hv.1, hS⟩
    have hv := hv.2 (of_decide_eq_false c54)
    refine JA ?_
    exact ⟨(x42, x44, hs43, A45, k46), ⟨rfl, rfl, rfl, rfl, trivial⟩, rfl, hv, hS⟩
   have hv := hv.2 g53
   rw [decide_eq_false g53]
   refine Jc 6 <| Qv rfl <| JA ?_
   exact ⟨(x42, x44, hs43, A45, k46), ⟨rfl, rfl, rfl, rfl, trivial⟩, rfl, hv, hS⟩
  rintro ⟨x19, x21, hs20, A22, k23⟩ w231 ⟨hv, hS⟩
  have hv := hk232 x19 x21 hv
  refine Jg 7 <| W.ret ?_
  have hS := hS.pick [1, 0, 2] rfl
  have hm0 := hS.mxlen (i := 0) rfl
  have hS := hS.relenMx (i := 0) rfl hm0.symm
  change St _ _ _ _ [mx 22 3 A15 ((x19).length) k16 hs20 x19, .row 3 1 A22 x21.length k23 (is x21), .row 24 3 (some ⟨g11, 0, none⟩) 1 1 [.int .i64 Pf, .int .i64 Mf, .slice Af mf.length kf]] at hS
  refine ⟨_, rfl, Fin.nil ?_⟩
  exact ⟨_, hS.ext, (hS.pick [0, 1] rfl).rows, Ji (hS.pick [0, 1] rfl).rows rfl, ⟨x19, x21, A15, k16, hs20, A22, k23, (by first | (rw [show (Value.slice A15 x14.length k16) = Value.slice A15 (x19).length k16 from sm0 hm0.symm]; done) | (rw [show (Value.slice A15 x14.length k16) = Value.slice A15 (x19).length k16 from sm0 hm0.symm]; rfl)), rfl, hv⟩⟩
end Go.Proofs.Ytiboieijhehjnaa
set_option linter.unusedSimpArgs false
set_option linter.unusedVariables false
set_option maxRecDepth 4000
set_option maxHeartbeats 4000000
namespace Go.Proofs.Ytiboieijhehjnaa
open Go.RowKit
def Jbl (Pf : Int) (Mf : Int) (mf : List Int) (l : List (List Int)) (cols : Int) (Q : List (List Int) × List Int -> Prop) : Prop :=
  Yz Pf Mf mf l cols (fun q => match q with | (x14, x15) => (0 <= (x15.length : Int) /\ (x15.length : Int) <= (x14.length : Nat)) /\ (Q ((x14.take (x15.length : Int).toNat), x15)))
theorem Jhz {w : World} {Q : List (List Int) × List Int -> Prop} {Pf : Int} {Mf : Int} {mf : List Int} {l : List (List Int)} {cols : Int} {Bf : Nat} {Af : Option Addr} {nf kf : Nat} (hf : Rd Bf w 1 Af nf kf (is mf)) {Al : Option Addr} {nl kl : Nat} (hl : Rl w Al nl kl l) (hv : Jbl Pf Mf mf l cols Q) :
    Calls Try.prog 63 #[.agg #[.int .i64 Pf, .int .i64 Mf, .slice Af nf kf], .slice Al nl kl, .int .i64 cols] w fun e w' => ∃ v Qr, e = .returned v /\ w.grownBy w' none /\ Rows w.heap.size none w' Qr /\ News w.heap.size Qr /\ ∃ (r0 : List (List Int)) (r1 : List Int) (A0 : Option Addr) (k0 : Nat) (hs0 : Hs) (A1 : Option Addr) (k1 : Nat), v = .tuple #[.slice A0 r0.length k0, .slice A1 r1.length k1] /\ Qr = [mx 22 3 A0 r0.length k0 hs0 r0, .row 3 1 A1 r1.length k1 (is r1)] /\ Q (r0, r1) := by
  have hnf := hf.ilen
  subst hnf
  have hnl := hl.len
  subst hnl
  obtain ⟨hsl, hHl⟩ := hl.heads
  refine Jp <| Jo (vs := [.agg #[.int .i64 Pf, .int .i64 Mf, .slice Af mf.length kf], .slice Al l.length kl, .int .i64 cols]) [6, 7] XF63 rfl rfl rfl rfl ?_
  have hS := Js w
  unfold Jbl at hv
  refine Jg 2 <| JF (z := 3) (cs := [.int .i64 Pf, .int .i64 Mf, .slice Af mf.length kf]) hS rfl rfl rfl rfl ?_
  intro g11 w12 hS
  refine Jc 3 <| Jg 2 <| Jk (cs := [.int .i64 Pf, .int .i64 Mf, .slice Af mf.length kf]) JT JY rfl rfl (Jb (hS.own (i := 0) rfl)) rfl <| Jc 2 <| SL.call hS (Jhm (hS.ro hf) (RlH.rl (RlH.ext hHl hS.ext)) hv) XF69 rfl XN69 rfl rfl ?_
  rintro _ _ w13 ⟨x14, x15, A16, k17, hs18, A20, k21, rfl, rfl, hv⟩ hGw13 hS
  have hS := hS.n2
  refine Jc 6 <| Jg 4 <| WL.len Jq rfl rfl ?_
  obtain ⟨o23, hv⟩ := hv
  refine Jb3 Jt Jy (hS.mxout (i := 0) rfl) rfl rfl o23 rfl (x14.take (x15.length : Int).toNat).length (Ja4 (hS.rl (i := 0) rfl) o23) <| Jc 4 <| W.ret ?_
  have hS := hS.mxShrink (k := (x15.length : Int).toNat) (by omega)
  have hm0 := hS.mxlen (i := 0) rfl
  have hS := hS.relenMx (i := 0) rfl hm0.symm
  change St _ _ _ _ [mx 22 3 A16 ((x14.take (x15.length : Int).toNat).length) k17 hs18 (x14.take (x15.length : Int).toNat), .row 3 1 A20 x15.length k21 (is x15), .row 24 3 (some ⟨g11, 0, none⟩) 1 1 [.int .i64 Pf, .int .i64 Mf, .slice Af mf.length kf]] at hS
  refine ⟨_, rfl, Fin.nil ?_⟩
  exact ⟨_, hS.ext, (hS.pick [0, 1] rfl).rows, Ji (hS.pick [0, 1] rfl).rows rfl, ⟨(x14.take (x15.length : Int).toNat), x15, A16, k17, hs18, A20, k21, rfl, rfl, hv⟩⟩
def Jfr (Pf : Int) (Mf : Int) (mf : List Int) (l : List (List Int)) (cols : Int) (Q : List (List Int) -> Prop) : Prop :=
  Jbl Pf Mf mf l cols (fun q => match q with | (x14, x15) => (0 <= cols /\ cols * 8 <= 281474976710656 /\ cols <= 281474976710656) /\ (∃ (I33 : List Int -> Int -> Prop) (μ34 : List Int -> Int -> Nat), I33 (List.replicate cols.toNat (0 : Int)) (0 : Int) /\ ∀ (x31 : List Int) (z32 : Int), (I33 x31 z32 -> (((z32 < cols) -> ((0 <= z32 /\ z32 < (cols.toNat : Nat)) /\ ((I64 (z32 + (1 : Int))) /\ (I33 (si x31 z32 (-1 : Int)) (z32 + (1 : Int)) /\ μ34 (si x31 z32 (-1 : Int)) (z32 + (1 : Int)) < μ34 x31 z32)))) /\ (¬ (z32 < cols) -> (∃ (I46 : List Int -> Int -> Prop) (μ47 : List Int -> Int -> Nat), I46 x31 (0 : Int) /\ ∀ (x44 : List Int) (z45 : Int), (I46 x44 z45 -> (((z45 < (x15.length : Int)) -> ((0 <= z45 /\ z45 < (x15.length : Nat)) /\ ((0 <= (gi x15 z45) /\ (gi x15 z45) < (cols.toNat : Nat)) /\ ((I64 (z45 + (1 : Int))) /\ (I46 (si x44 (gi x15 z45) z45) (z45 + (1 : Int)) /\ μ47 (si x44 (gi x15 z45) z45) (z45 + (1 : Int)) < μ47 x44 z45))))) /\ (¬ (z45 < (x15.length : Int)) -> (∃ (I72 : List (List Int) -> Int -> Prop) (μ73 : List (List Int) -> Int -> Nat), I72 ([] : List (List Int)) (0 : Int) /\ ∀ (x66 : List (List Int)) (z71 : Int), (I72 x66 z71 -> (((z71 < cols) -> (∃ J80 : List (List Int) -> Prop, ((0 <= z71 /\ z71 < (cols.toNat : Nat)) /\ ((((0 : Int) <= (gi x44 z71)) -> J80 x66) /\ (¬ ((0 : Int) <= (gi x44 z71)) -> ((0 <= cols /\ cols * 8 <= 281474976710656 /\ cols <= 281474976710656) /\ ((0 <= z71 /\ z71 < (cols.toNat : Nat)) /\ (∃ (I95 : List Int -> Int -> Prop) (μ96 : List Int -> Int -> Nat), I95 (si (List.replicate cols.toNat (0 : Int)) z71 (1 : Int)) (0 : Int) /\ ∀ (x93 : List Int) (z94 : Int), (I95 x93 z94 -> (((z94 < (x15.length : Int)) -> ((0 <= z94 /\ z94 < (x15.length : Nat)) /\ ((0 <= z94 /\ z94 < (x14.length : Nat)) /\ ((0 <= z71 /\ z71 < ((gl x14 z94).length : Nat)) /\ (∃ (r116 : Int), Jhd Pf Mf mf (gi (gl x14 z94) z71) (fun q => q = r116) /\ ((0 <= (gi x15 z94) /\ (gi x15 z94) < (cols.toNat : Nat)) /\ ((I64 (z94 + (1 : Int))) /\ (I95 (si x93 (gi x15 z94) r116) (z94 + (1 : Int)) /\ μ96 (si x93 (gi x15 z94) r116) (z94 + (1 : Int)) < μ96 x93 z94)))))))) /\ (¬ (z94 < (x15.length : Int)) -> ((((x66.length : Nat) + (1 : Nat) : Int) * 24 <= 140737488355328) /\ (J80 (x66 ++ [x93])))))))))))) /\ ∀ (x76 : List (List Int)), (J80 x76 -> ((I64 (z71 + (1 : Int))) /\ (I72 x76 (z71 + (1 : Int)) /\ μ73 x76 (z71 + (1 : Int)) < μ73 x66 z71))))) /\ (¬ (z71 < cols) -> (Jbl Pf Mf mf x66 cols (fun q => match q with | (x135, x136) => Q x135)))))))))))))))
theorem Jrz {w : World} {Q : List (List Int) -> Prop} {Pf : Int} {Mf : Int} {mf : List Int} {l : List (List Int)} {cols : Int} {Bf : Nat} {Af : Option Addr} {nf kf : Nat} (hf : Rd Bf w 1 Af nf kf (is mf)) {Al : Option Addr} {nl kl : Nat} (hl : Rl w Al nl kl l) (hv : Jfr Pf Mf mf l cols Q) :
    Calls Try.prog 74 #[.agg #[.int .i64 Pf, .int .i64 Mf, .slice Af nf kf], .slice Al nl kl, .int .i64 cols] w fun e w' => ∃ v Qr, e = .returned v /\ w.grownBy w' none /\ Rows w.heap.size none w' Qr /\ News w.heap.size Qr /\ ∃ (r0 : List (List Int)) (A0 : Option Addr) (k0 : Nat) (hs0 : Hs), v = .slice A0 r0.length k0 /\ Qr = [mx 22 3 A0 r0.length k0 hs0 r0] /\ Q r0 := by
  have hnf := hf.ilen
  subst hnf
  have hnl := hl.len
  subst hnl
  obtain ⟨hsl, hHl⟩ := hl.heads
  refine Jp <| Jo (vs := [.agg #[.int .i64 Pf, .int .i64 Mf, .slice Af mf.length kf], .slice Al l.length kl, .int .i64 cols]) [6] XF74 rfl rfl rfl rfl ?_
  have hS := Js w
  unfold Jfr at hv
  refine Jg 2 <| JF (z := 3) (cs := [.int .i64 Pf, .int .i64 Mf, .slice Af mf.length kf]) hS rfl rfl rfl rfl ?_
  intro g11 w12 hS
  refine Jc 2 <| Jg 2 <| Jk (cs := [.int .i64 Pf, .int .i64 Mf, .slice Af mf.length kf]) JT JY rfl rfl (Jb (hS.own (i := 0) rfl)) rfl <| Jc 2 <| SL.call hS (Jhz (hS.ro hf) (RlH.rl (RlH.ext hHl hS.ext)) hv) XF63 rfl XN63 rfl rfl ?_
  rintro _ _ w13 ⟨x14, x15, A16, k17, hs18, A20, k21, rfl, rfl, hv⟩ hGw13 hS
  have hS := hS.n2
  refine Jc 6 <| Jg 3 ?_
  obtain ⟨o23, hv⟩ := hv
  refine QB (J := cols) hS Jq XE3 rfl rfl o23 (QG _) rfl ?_
  intro A24 w25 hS
  refine Jc 2 <| Jg 5 <| W.block ?_
  obtain ⟨I33, μ34, hv, hk146⟩ := hv
  refine JE (σ := List Int × Int) (fun q w1 => match q with | (x31, z32) => I33 x31 z32 /\ St TT w none w1 [.row 3 1 A24 cols.toNat cols.toNat (is x31), mx 22 3 A16 x14.length k17 hs18 x14, .row 3 1 A20 x15.length k21 (is x15), .row 24 3 (some ⟨g11, 0, none⟩) 1 1 [.int .i64 Pf, .int .i64 Mf, .slice Af mf.length kf]]) (fun q => match q with | (x31, z32) => [(2, .int .i64 cols), (3, .pointer (some ⟨g11, 0, none⟩)), (6, .slice none 0 0), (7, .slice A16 x14.length k17), (8, .slice A20 x15.length k21), (9, .slice A24 cols.toNat cols.toNat), (10, .int .i64 z32)]) (fun q => match q with | (x31, z32) => μ34 x31 z32) (List.replicate cols.toNat (0 : Int), (0 : Int)) ⟨hv, hS⟩ ⟨rfl, rfl, rfl, rfl, rfl, rfl, rfl, trivial⟩ ?_
  rintro ⟨x31, z32⟩ w35 ⟨hv, hS⟩
  have hv := hk146 x31 z32 hv
  refine Jg 7 <| Jm rfl (fun c36 => ?_) (fun c36 => ?_)
  .have hv := hv.1 (of_decide_eq_true c36)
   refine Jn <| JB <| W.block <| Jg 3 ?_
   obtain ⟨o37, hv⟩ := hv
   refine Jl Jq XE3 (hS.rd (i := 0) rfl) rfl rfl o37 rfl <| JD (cs' := is (si x31 z32 (-1 : Int))) 0 z32.toNat hS rfl XE3 rfl rfl rfl (QH (hS.rd (i := 0) rfl) o37) (Qn _ _ _) ?_
   intro w38 hS
   refine Ja <| Jg 2 ?_
   obtain ⟨o39, hv⟩ := hv
   refine WL.add (r := (z32 + (1 : Int))) rfl rfl (wr o39) rfl <| Jc 2 ?_
   exact ⟨(si x31 z32 (-1 : Int), (z32 + (1 : Int))), ⟨rfl, rfl, rfl, rfl, rfl, rfl, rfl, trivial⟩, hv.2, rfl, hv.1, hS⟩
  have hv := hv.2 (of_decide_eq_false c36)
  refine JA <| Jg 5 <| W.block ?_
  obtain ⟨I46, μ47, hv, hk145⟩ := hv
  refine JE (σ := List Int × Int) (fun q w1 => match q with | (x44, z45) => I46 x44 z45 /\ St TT w none w1 [.row 3 1 A24 cols.toNat cols.toNat (is x44), mx 22 3 A16 x14.length k17 hs18 x14, .row 3 1 A20 x15.length k21 (is x15), .row 24 3 (some ⟨g11, 0, none⟩) 1 1 [.int .i64 Pf, .int .i64 Mf, .slice Af mf.length kf]]) (fun q => match q with | (x44, z45) => [(2, .int .i64 cols), (3, .pointer (some ⟨g11, 0, none⟩)), (6, .slice none 0 0), (7, .slice A16 x14.length k17), (8, .slice A20 x15.length k21), (9, .slice A24 cols.toNat cols.toNat), (11, .int .i64 z45)]) (fun q => match q with | (x44, z45) => μ47 x44 z45) (x31, (0 : Int)) ⟨hv, hS⟩ ⟨rfl, rfl, rfl, rfl, rfl, rfl, rfl, trivial⟩ ?_
  rintro ⟨x44, z45⟩ w48 ⟨hv, hS⟩
  have hv := hk145 x44 z45 hv
  refine Jg 5 <| WL.len Jq rfl rfl <| Jc 2 <| Jm rfl (fun c49 => ?_) (fun c49 => ?_)
  .have hv := hv.1 (of_decide_eq_true c49)
   refine Jn <| JB <| W.block <| Jg 4 ?_
   obtain ⟨o50, hv⟩ := hv
   refine Jl Jq XE3 (hS.rd (i := 2) rfl) rfl rfl o50 rfl <| Jd XU3 rfl rfl (JH (hS.rd (i := 2) rfl) o50) rfl <| Je rfl rfl ?_
   obtain ⟨o51, hv⟩ := hv
   refine Jl Jq XE3 (hS.rd (i := 0) rfl) rfl rfl o51 rfl <| JD (cs' := is (si x44 (gi x15 z45) z45)) 0 (gi x15 z45).toNat hS rfl XE3 rfl rfl rfl (QH (hS.rd (i := 0) rfl) o51) (Qn _ _ _) ?_
   intro w52 hS
   refine Ja <| Jg 2 ?_
   obtain ⟨o53, hv⟩ := hv
   refine WL.add (r := (z45 + (1 : Int))) rfl rfl (wr o53) rfl <| Jc 2 ?_
   exact ⟨(si x44 (gi x15 z45) z45, (z45 + (1 : Int))), ⟨rfl, rfl, rfl, rfl, rfl, rfl, rfl, trivial⟩, hv.2, rfl, hv.1, hS⟩
  have hv := hv.2 (of_decide_eq_false c49)
  refine JA <| Jg 9 <| W.block ?_
  obtain ⟨I72, μ73, hv, hk144⟩ := hv
  have hS := hS.mxNil 22 3
  have hm0 : 0 = ([] : List (List Int)).length := (hS.mxlen (i := 0) rfl).symm
  have hS := hS.relenMx (i := 0) rfl hm0
  change St _ _ _ _ [mx 22 3 none ([] : List (List Int)).length 0 (fun _ => (none, 0)) ([] : List (List Int)), .row 3 1 A24 cols.toNat cols.toNat (is x44), mx 22 3 A16 x14.length k17 hs18 x14, .row 3 1 A20 x15.length k21 (is x15), .row 24 3 (some ⟨g11, 0, none⟩) 1 1 [.int .i64 Pf, .int .i64 Mf, .slice Af mf.length kf]] at hS
  refine JE (σ := List (List Int) × Int × Option Addr × Nat × Hs) (fun q w1 => match q with | (x66, z71, A67, k68, hs69) => I72 x66 z71 /\ St TT w none w1 [mx 22 3 A67 x66.length k68 hs69 x66, .row 3 1 A24 cols.toNat cols.toNat (is x44), mx 22 3 A16 x14.length k17 hs18 x14, .row 3 1 A20 x15.length k21 (is x15), .row 24 3 (some ⟨g11, 0, none⟩) 1 1 [.int .i64 Pf, .int .i64 Mf, .slice Af mf.length kf]]) (fun q => match q with | (x66, z71, A67, k68, hs69) => [(2, .int .i64 cols), (3, .pointer (some ⟨g11, 0, none⟩)), (6, .slice none 0 0), (7, .slice A16 x14.length k17), (8, .slice A20 x15.length k21), (9, .slice A24 cols.toNat cols.toNat), (12, .slice A67 x66.length k68), (13, .int .i64 z71)]) (fun q => match q with | (x66, z71, A67, k68, hs69) => μ73 x66 z71) (([] : List (List Int)), (0 : Int), none, 0, (fun _ => (none, 0))) ⟨hv, hS⟩ ⟨rfl, rfl, rfl, rfl, rfl, rfl, (sm (by first | rfl | assumption | omega)), rfl, trivial⟩ ?_
  rintro ⟨x66, z71, A67, k68, hs69⟩ w74 ⟨hv, hS⟩
  have hv := hk144 x66 z71 hv
  refine Jg 7 <| Jm rfl (fun c75 => ?_) (fun c75 => ?_)
  .have hv := hv.1 (of_decide_eq_true c75)
   refine Jn <| JB ?_
   obtain ⟨J80, hv, hk133⟩ := hv
   refine Qx (σ := List (List Int) × Option Addr × Nat × Hs) (fun q w1 => match q with | (x76, A77, k78, hs79) => J80 x76 /\ St TT w none w1 [mx 22 3 A77 x76.length k78 hs79 x76, .row 3 1 A24 cols.toNat cols.toNat (is x44), mx 22 3 A16 x14.length k17 hs18 x14, .row 3 1 A20 x15.length k21 (is x15), .row 24 3 (some ⟨g11, 0, none⟩) 1 1 [.int .i64 Pf, .int .i64 Mf, .slice Af mf.length kf]]) (fun q => match q with | (x76, A77, k78, hs79) => [(2, .int .i64 cols), (3, .pointer (some ⟨g11, 0, none⟩)), (6, .slice none 0 0), (7, .slice A16 x14.length k17), (8, .slice A20 x15.length k21), (9, .slice A24 cols.toNat cols.toNat), (12, .slice A77 x76.length k78), (13, .int .i64 z71), (48, .bool (decide (z71 < cols))), (55, .bool (decide ((0 : Int) <= (gi x44 z71))))]) ?_ ?_
   .refine W.block ?_
    refine Jg 5 ?_
    obtain ⟨o81, hv⟩ := hv
    refine Jl Jq XE3 (hS.rd (i := 1) rfl) rfl rfl o81 rfl <| Jd XU3 rfl rfl (JH (hS.rd (i := 1) rfl) o81) rfl <| Jc 2 <| Jm rfl (fun c82 => ?_) (fun c82 => ?_)
    .have hv := hv.1 (of_decide_eq_true c82)
     refine JA ?_
     exact ⟨(x66, A67, k68, hs69), ⟨rfl, rfl, rfl, rfl, rfl, rfl, rfl, rfl, rfl, rfl, trivial⟩, rfl, hv, hS⟩
    have hv := hv.2 (of_decide_eq_false c82)
    refine Jn <| Jg 3 ?_
    obtain ⟨o83, hv⟩ := hv
    refine QB (J := cols) hS Jq XE3 rfl rfl o83 (QG _) rfl ?_
    intro A84 w85 hS
    refine Jc 2 <| Jg 4 ?_
    obtain ⟨o87, hv⟩ := hv
    refine Jl Jq XE3 (hS.rd (i := 0) rfl) rfl rfl o87 rfl <| JD (cs' := is (si (List.replicate cols.toNat (0 : Int)) z71 (1 : Int))) 0 z71.toNat hS rfl XE3 rfl rfl rfl (QH (hS.rd (i := 0) rfl) o87) (Qn _ _ _) ?_
    intro w88 hS
    refine Ja <| Jg 5 <| W.block ?_
    obtain ⟨I95, μ96, hv, hk130⟩ := hv
    refine JE (σ := List Int × Int) (fun q w1 => match q with | (x93, z94) => I95 x93 z94 /\ St TT w none w1 [.row 3 1 A84 cols.toNat cols.toNat (is x93), mx 22 3 A67 x66.length k68 hs69 x66, .row 3 1 A24 cols.toNat cols.toNat (is x44), mx 22 3 A16 x14.length k17 hs18 x14, .row 3 1 A20 x15.length k21 (is x15), .row 24 3 (some ⟨g11, 0, none⟩) 1 1 [.int .i64 Pf, .int .i64 Mf, .slice Af mf.length kf]]) (fun q => match q with | (x93, z94) => [(2, .int .i64 cols), (3, .pointer (some ⟨g11, 0, none⟩)), (6, .slice none 0 0), (7, .slice A16 x14.length k17), (8, .slice A20 x15.length k21), (9, .slice A24 cols.toNat cols.toNat), (12, .slice A67 x66.length k68), (13, .int .i64 z71), (14, .slice A84 cols.toNat cols.toNat), (15, .int .i64 z94), (48, .bool (decide (z71 < cols))), (55, .bool (decide ((0 : Int) <= (gi x44 z71))))]) (fun q => match q with | (x93, z94) => μ96 x93 z94) (si (List.replicate cols.toNat (0 : Int)) z71 (1 : Int), (0 : Int)) ⟨hv, hS⟩ ⟨rfl, rfl, rfl, rfl, rfl, rfl, rfl, rfl, rfl, rfl, rfl, rfl, trivial⟩ ?_
    rintro ⟨x93, z94⟩ w97 ⟨hv, hS⟩
    have hv := hk130 x93 z94 hv
    refine Jg 5 <| WL.len Jq rfl rfl <| Jc 2 <| Jm rfl (fun c98 => ?_) (fun c98 => ?_)
    .have hv := hv.1 (of_decide_eq_true c98)
     refine Jn <| JB <| W.block ?_
     obtain ⟨o103, hv⟩ := hv
     obtain ⟨o109, hv⟩ := hv
     obtain ⟨o113, hv⟩ := hv
     obtain ⟨r116, o118, hv⟩ := hv
     refine JU 14 [⟨[], [14], true⟩, ⟨[], [8], true⟩, ⟨[], [15], true⟩, ⟨[1, 2], [], true⟩, ⟨[3], [], false⟩, ⟨[], [3], false⟩, ⟨[], [7], true⟩, ⟨[], [15], true⟩, ⟨[6, 7], [], true⟩, ⟨[8], [], false⟩, ⟨[], [13], true⟩, ⟨[9, 10], [], true⟩, ⟨[11], [], false⟩, ⟨[5, 12], [], false⟩] [[(14, .slice A84 cols.toNat cols.toNat)], [(8, .slice A20 x15.length k21)], [(15, .int .i64 z94)], [], [], [(3, .pointer (some ⟨g11, 0, none⟩))], [(7, .slice A16 x14.length k17)], [(15, .int .i64 z94)], [], [], [(13, .int .i64 z71)], [], [], []] [(67, .slice A84 cols.toNat cols.toNat), (68, .slice A20 x15.length k21), (69, .int .i64 z94), (70, .pointer (some ((JM A20).add z94.toNat))), (71, .int .i64 (gi x15 z94)), (72, .agg #[.int .i64 Pf, .int .i64 Mf, .slice Af mf.length kf]), (73, .slice A16 x14.length k17), (74, .int .i64 z94), (75, .pointer (some ((JM A16).add z94.toNat))), (76, .slice ((hs18 z94.toNat).1) ((gl x14 z94).length) ((hs18 z94.toNat).2)), (77, .int .i64 z71), (78, .pointer (some ((JM ((hs18 z94.toNat).1)).add z71.toNat))), (79, .int .i64 (gi (gl x14 z94) z71)), (80, .int .i64 r116)] Try.mixed (by kernel_rfl) rfl rfl ?_ ?_
     . refine ⟨⟨rfl, ⟨rfl, trivial⟩, fun _ _ _ => Je rfl rfl <| Ja ⟨rfl, rfl⟩⟩, ⟨rfl, ⟨rfl, trivial⟩, fun _ _ _ => Je rfl rfl <| Ja ⟨rfl, rfl⟩⟩, ⟨rfl, ⟨rfl, trivial⟩, fun _ _ _ => Je rfl rfl <| Ja ⟨rfl, rfl⟩⟩, ⟨rfl, trivial, fun _ _ _ => Jl Jq XE3 (hS.rd (i := 4) rfl) rfl rfl o103 rfl <| Ja ⟨rfl, rfl⟩⟩, ⟨rfl, trivial, fun _ hE _ => have hS := hS.grow (hE rfl); Jd XU3 rfl rfl (JH (hS.rd (i := 4) rfl) o103) rfl <| Ja ⟨rfl, Jj _⟩⟩, ⟨rfl, ⟨rfl, trivial⟩, fun _ hE _ => have hS := hS.grow (hE rfl); Jk (cs := [.int .i64 Pf, .int .i64 Mf, .slice Af mf.length kf]) JT JY rfl rfl (Jb (hS.own (i := 5) rfl)) rfl <| Ja ⟨rfl, Jj _⟩⟩, ⟨rfl, ⟨rfl, trivial⟩, fun _ _ _ => Je rfl rfl <| Ja ⟨rfl, rfl⟩⟩, ⟨rfl, ⟨rfl, trivial⟩, fun _ _ _ => Je rfl rfl <| Ja ⟨rfl, rfl⟩⟩, ⟨rfl, trivial, fun _ _ _ => JC 3 Jt Jy hS rfl rfl rfl o109 rfl <| Ja ⟨rfl, rfl⟩⟩, ⟨rfl, trivial, fun _ hE _ => have hS := hS.grow (hE rfl); Jd Jq rfl rfl (hS.mxcell (i := 3) rfl o109) rfl <| Ja ⟨rfl, Jj _⟩⟩, ⟨rfl, ⟨rfl, trivial⟩, fun _ _ _ => Je rfl rfl <| Ja ⟨rfl, rfl⟩⟩, ⟨rfl, trivial, fun _ _ _ => Jl Jq XE3 (hS.mxrd (i := 3) rfl o109) rfl rfl o113 rfl <| Ja ⟨rfl, rfl⟩⟩, ⟨rfl, trivial, fun _ hE _ => have hS := hS.grow (hE rfl); Jd XU3 rfl rfl (JH (hS.mxrd (i := 3) rfl o109) o113) rfl <| Ja ⟨rfl, Jj _⟩⟩, ⟨rfl, trivial, ?_⟩, trivial⟩
       intro w115 hE RR
       have hS := hS.grow (hE rfl)
       refine WL.call XF60 rfl XN60 rfl rfl (JP (Jn2 (hS.ro hf) o118)) ?_
       rintro _ w117 ⟨_, hGw117, hRww117, hNww117, r116q, rfl, rfl, he⟩
       subst he
       exact Ja ⟨rfl, hGw117⟩
     intro w119 hT
     have hS := hS.grow hT
     refine Jf 14 (by decide +kernel) rfl ?_
     obtain ⟨o120, hv⟩ := hv
     refine Jl Jq XE3 (hS.rd (i := 0) rfl) rfl rfl o120 rfl <| Ja <| Jf 15 (by decide +kernel) rfl <| JD (cs' := is (si x93 (gi x15 z94) r116)) 0 (gi x15 z94).toNat hS rfl XE3 rfl rfl rfl (QH (hS.rd (i := 0) rfl) o120) (Qn _ _ _) ?_
     intro w121 hS
     refine Ja <| Jr (by decide +kernel) <| Jg 2 ?_
     obtain ⟨o122, hv⟩ := hv
     refine WL.add (r := (z94 + (1 : Int))) rfl rfl (wr o122) rfl <| Jc 2 ?_
     exact ⟨(si x93 (gi x15 z94) r116, (z94 + (1 : Int))), ⟨rfl, rfl, rfl, rfl, rfl, rfl, rfl, rfl, rfl, rfl, rfl, rfl, trivial⟩, hv.2, rfl, hv.1, hS⟩
    have hv := hv.2 (of_decide_eq_false c98)
    refine JA <| Jg 3 <| JQ (vs := [.slice A84 cols.toNat cols.toNat]) hS Jt Jy rfl rfl rfl rfl (by simp [Value.oneCell']) rfl ?_
    intro A123 w124 hS
    obtain ⟨o126, hv⟩ := hv
    have hS := hS.pick [2, 0, 1, 3, 4, 5, 6] rfl
    have hS := hS.pick [1, 2, 0, 3, 4, 5, 6] rfl
    have hS := Q5 (hS.rd (i := 1) rfl).ilen.symm hS
    change St _ _ _ _ [mx 22 3 A123 1 1 (fun _ => (A84, cols.toNat)) [x93], mx 22 3 A67 x66.length k68 hs69 x66, .row 3 1 A24 cols.toNat cols.toNat (is x44), mx 22 3 A16 x14.length k17 hs18 x14, .row 3 1 A20 x15.length k21 (is x15), .row 24 3 (some ⟨g11, 0, none⟩) 1 1 [.int .i64 Pf, .int .i64 Mf, .slice Af mf.length kf]] at hS
    refine Qt hS Jt Jy rfl rfl (apk o126).1 (apk o126).2 rfl ?_
    intro A127 k128 w129 hS
    refine Jc 2 ?_
    exact ⟨(x66 ++ [x93], A127, k128, (Jb7 x66.length hs69 (fun _ => (A84, cols.toNat)))), ⟨rfl, rfl, rfl, rfl, rfl, rfl, rfl, rfl, rfl, rfl, trivial⟩, rfl, hv, hS⟩
   rintro ⟨x76, A77, k78, hs79⟩ w131 ⟨hv, hS⟩
   have hv := hk133 x76 hv
   refine Jg 2 ?_
   obtain ⟨o132, hv⟩ := hv
   refine WL.add (r := (z71 + (1 : Int))) rfl rfl (wr o132) rfl <| Jc 2 ?_
   exact ⟨(x76, (z71 + (1 : Int)), A77, k78, hs79), ⟨rfl, rfl, rfl, rfl, rfl, rfl, rfl, rfl, trivial⟩, hv.2, rfl, hv.1, hS⟩
  have hv := hv.2 (of_decide_eq_false c75)
  refine JA <| Jg 2 <| Jk (cs := [.int .i64 Pf, .int .i64 Mf, .slice Af mf.length kf]) JT JY rfl rfl (Jb (hS.own (i := 4) rfl)) rfl <| Jc 2 <| SL.call hS (Jhz (hS.ro hf) (hS.rl (i := 0) rfl) hv) XF63 rfl XN63 rfl rfl ?_
  rintro _ _ w134 ⟨x135, x136, A137, k138, hs139, A141, k142, rfl, rfl, hv⟩ hGw134 hS
  have hS := hS.n2
  refine Jc 5 <| Jg 5 <| W.ret <| ⟨_, rfl, Fin.nil ?_⟩
  exact ⟨_, hS.ext, (hS.pick [0] rfl).rows, Ji (hS.pick [0] rfl).rows rfl, ⟨x135, A137, k138, hs139, rfl, rfl, hv⟩⟩
def ZS (Pf : Int) (Mf : Int) (mf : List Int) (Cm : Int) (m : List (List Int)) (Q : Int × List (List Int) × Int -> Prop) : Prop :=
  ZP Pf Mf mf Cm m (fun r18 => ((r18 ≠ (0 : Int)) -> (Q ((0 : Int), ([] : List (List Int)), r18))) /\ (¬ (r18 ≠ (0 : Int)) -> (∃ (x30 : List (List Int)), Jfr Pf Mf mf m Cm (fun q => q = x30) /\ (Q (Cm, x30, (0 : Int))))))
theorem Jgj {w : World} {Q : Int × List (List Int) × Int -> Prop} {Pf : Int} {Mf : Int} {mf : List Int} {Cm : Int} {m : List (List Int)} {Bf : Nat} {Af : Option Addr} {nf kf : Nat} (hf : Rd Bf w 1 Af nf kf (is mf)) {Am : Option Addr} {nm km : Nat} (hm : Rl w Am nm km m) (hv : ZS Pf Mf mf Cm m Q) :
    Calls Try.prog 34 #[.agg #[.int .i64 Pf, .int .i64 Mf, .slice Af nf kf], .agg #[.int .i64 Cm, .slice Am nm km]] w fun e w' => ∃ v Qr, e = .returned v /\ w.grownBy w' none /\ Rows w.heap.size none w' Qr /\ News w.heap.size Qr /\ ∃ (c0 : Int) (r0 : List (List Int)) (r1 : Int) (A0 : Option Addr) (k0 : Nat) (hs0 : Hs), v = .tuple #[.agg #[.int .i64 c0, .slice A0 r0.length k0], .int .i64 r1] /\ Qr = [mx 22 3 A0 r0.length k0 hs0 r0] /\ Q (c0, r0, r1) := by
  have hnf := hf.ilen
  subst hnf
  have hnm := hm.len
  subst hnm
  obtain ⟨hsm, hHm⟩ := hm.heads
  refine Jp <| QJ (vs := [.agg #[.int .i64 Pf, .int .i64 Mf, .slice Af mf.length kf], .agg #[.int .i64 Cm, .slice Am m.length km]]) [.cell 4 27, .tmp 5] XF34 rfl rfl rfl rfl ?_
  have hS := Js w
  unfold ZS at hv
  refine Jg 2 <| JF (z := 3) (cs := [.int .i64 Pf, .int .i64 Mf, .slice Af mf.length kf]) hS rfl rfl rfl rfl ?_
  intro g11 w12 hS
  refine JF (z := 2) (cs := [.int .i64 Cm, .slice Am m.length km]) hS rfl rfl rfl rfl ?_
  intro g13 w14 hS
  refine SL.alloc (cs := [.int .i64 0, .slice none 0 0]) hS Jv rfl rfl ?_
  intro g15 w16 hS
  refine Jc 2 <| Jg 2 <| Jk (cs := [.int .i64 Pf, .int .i64 Mf, .slice Af mf.length kf]) JT JY rfl rfl (Jb (hS.own (i := 2) rfl)) rfl <| Jk (cs := [.int .i64 Cm, .slice Am m.length km]) Jv JN rfl rfl (Jb (hS.own (i := 1) rfl)) rfl <| SL.call hS (Jgh (hS.ro hf) (RlH.rl (RlH.ext hHm hS.ext)) hv) XF23 rfl XN23 rfl rfl ?_
  rintro _ _ w17 ⟨r18, rfl, rfl, hv⟩ hGw17 hS
  have hS := hS.n0
  refine Jc 2 <| Jg 6 <| Jm rfl (fun c19 => ?_) (fun c19 => ?_)
  .have hv := hv.1 (of_decide_eq_true c19)
   refine Jg 2 <| J2 (cells := #[.int .i64 0, .slice none 0 0]) Zg rfl rfl rfl <| Je rfl rfl <| Jw (cs := [.int .i64 0, .slice none 0 0]) 0 hS rfl Jv rfl rfl rfl rfl rfl ?_
   intro w20 hS
   refine Jc 2 <| W.ret ?_
   have hS := hS.mxNil 22 3
   have hm0 := hS.mxlen (i := 0) rfl
   have hS := hS.relenMx (i := 0) rfl hm0.symm
   change St _ _ _ _ [mx 22 3 none ((([] : List (List Int))).length) 0 (fun _ => (none, 0)) ([] : List (List Int)), .row 27 2 (some ⟨g15, 0, none⟩) 1 1 [.int .i64 0, .slice none 0 0], .row 27 2 (some ⟨g13, 0, none⟩) 1 1 [.int .i64 Cm, .slice Am m.length km], .row 24 3 (some ⟨g11, 0, none⟩) 1 1 [.int .i64 Pf, .int .i64 Mf, .slice Af mf.length kf]] at hS
   repeat with_reducible first | refine blk.ret ?_ | refine exits.retI ?_
   refine endC.mk ⟨[.agg #[.int .i64 0, .slice none 0 0], .int .i64 r18], ⟨_, _, _, rfl, rfl, JO (cs := [.int .i64 0, .slice none 0 0]) Jv JN rfl (Jb (hS.own (i := 1) rfl)), ⟨_, _, rfl, rfl, rfl⟩⟩, ?_⟩
   exact ⟨_, hS.ext, (hS.pick [0] rfl).rows, Ji (hS.pick [0] rfl).rows rfl, ⟨(0 : Int), ([] : List (List Int)), r18, none, 0, (fun _ => (none, 0)), (by first | (rw [show (Value.slice none 0 0) = Value.slice none (([] : List (List Int))).length 0 from sm0 hm0.symm]; done) | (rw [show (Value.slice none 0 0) = Value.slice none (([] : List (List Int))).length 0 from sm0 hm0.symm]; rfl)), rfl, hv⟩⟩
  have hv := hv.2 (of_decide_eq_false c19)
  refine Jn <| JB ?_
  obtain ⟨x30, o37, hv⟩ := hv
  have hS0 := hS
  refine QA 8 (fun iA => [false, false, false, false, false, false, false, true].getD iA false) (fun _ => none) (fun _ v => v) [⟨[], [3], true⟩, ⟨[0], [], false⟩, ⟨[], [2], false⟩, ⟨[], [3], true⟩, ⟨[3], [], false⟩, ⟨[], [3], true⟩, ⟨[5], [], false⟩, ⟨[2, 4, 6], [], false⟩] [[(3, .pointer (some ⟨g13, 0, none⟩))], [], [(2, .pointer (some ⟨g11, 0, none⟩))], [(3, .pointer (some ⟨g13, 0, none⟩))], [], [(3, .pointer (some ⟨g13, 0, none⟩))], [], []] (fun iQ => [fun v _ => v = .pointer (some ⟨g13, 0, none⟩), fun v _ => v = .int .i64 Cm, fun v _ => v = .agg #[.int .i64 Pf, .int .i64 Mf, .slice Af mf.length kf], fun v _ => v = .pointer (some ((⟨g13, 0, none⟩ : Addr).add 1)), fun v _ => v = .slice Am m.length km, fun v _ => v = .pointer (some ⟨g13, 0, none⟩), fun v _ => v = .int .i64 Cm, fun v wQ => ∃ A31_7 k32_7 hs33_7, v = .slice A31_7 x30.length k32_7 /\ Rows w17.heap.size none wQ [mx 22 3 A31_7 x30.length k32_7 hs33_7 x30]].getD iQ (fun _ _ => True)) (fun iD => [vbD, vbD, vbD, vbD, vbD, vbD, vbD, rch].getD iD vbD) Try.mixed (by kernel_rfl) ?_ ?_ (by kernel_rfl) ?_ ?_
  . refine J4 _ ?_
    intro VQ hVQ vQ wQ1 wQ2 hQ1 hQ2
    simp only [List.mem_cons, List.not_mem_nil, or_false] at hVQ
    rcases hVQ with rfl | rfl | rfl | rfl | rfl | rfl | rfl | rfl
    any_goals exact hQ1
    obtain ⟨A31_7, k32_7, hs33_7, hQe, hR36_7⟩ := hQ1
    exact ⟨A31_7, k32_7, hs33_7, hQe, hR36_7.ext hQ2⟩
  . intro jD vD w1D w2D hvD hgD gD hD_
    rcases jD with _ | _ | _ | _ | _ | _ | _ | _ | jD
    any_goals exact hD_
    obtain ⟨A31_7, k32_7, hs33_7, rfl, hR36_7⟩ := hvD
    exact YN hR36_7 hgD hD_
  . refine ⟨⟨rfl, ⟨rfl, trivial⟩, ?_⟩, ⟨rfl, trivial, ?_⟩, ⟨rfl, ⟨rfl, trivial⟩, ?_⟩, ⟨rfl, ⟨rfl, trivial⟩, ?_⟩, ⟨rfl, trivial, ?_⟩, ⟨rfl, ⟨rfl, trivial⟩, ?_⟩, ⟨rfl, trivial, ?_⟩, ⟨rfl, trivial, ?_⟩, trivial⟩
    . intro w22 hE
      intro RR
      refine Jh (off := 0) J1 rfl rfl ?_
      exact Ja ⟨_, rfl, dnq rfl rfl rfl rfl⟩
    . intro w23 hE
      have hE := hE rfl
      have hS := hS.grow hE
      rintro _ rfl
      intro RR
      refine Jd XU3 rfl rfl (Jb (hS.own (i := 1) rfl) 0 _ rfl) rfl ?_
      exact Ja ⟨_, rfl, dnq (Jj _) rfl rfl rfl⟩
    . intro w24 hE
      have hE := hE rfl
      have hS := hS.grow hE
      intro RR
      refine Jk (cs := [.int .i64 Pf, .int .i64 Mf, .slice Af mf.length kf]) JT JY rfl rfl (Jb (hS.own (i := 2) rfl)) rfl ?_
      exact Ja ⟨_, rfl, dnq (Jj _) rfl rfl rfl⟩
    . intro w25 hE
      intro RR
      refine Jh (off := 1) JI rfl rfl ?_
      exact Ja ⟨_, rfl, dnq rfl rfl rfl rfl⟩
    . intro w26 hE
      have hE := hE rfl
      have hS := hS.grow hE
      rintro _ rfl
      intro RR
      refine Jd Jt rfl rfl (Jb (hS.own (i := 1) rfl) 1 _ rfl) rfl ?_
      exact Ja ⟨_, rfl, dnq (Jj _) rfl rfl rfl⟩
    . intro w27 hE
      intro RR
      refine Jh (off := 0) J1 rfl rfl ?_
      exact Ja ⟨_, rfl, dnq rfl rfl rfl rfl⟩
    . intro w28 hE
      have hE := hE rfl
      have hS := hS.grow hE
      rintro _ rfl
      intro RR
      refine Jd XU3 rfl rfl (Jb (hS.own (i := 1) rfl) 0 _ rfl) rfl ?_
      exact Ja ⟨_, rfl, dnq (Jj _) rfl rfl rfl⟩
    intro w29 hE
    have hE := hE rfl
    have hS := hS.grow hE
    rintro _ rfl
    rintro _ rfl
    rintro _ rfl
    intro RR
    refine WL.call XF74 rfl XN74 rfl rfl (JP (Jrz (hS.ro hf) (RlH.rl (RlH.ext hHm hS.ext)) o37)) ?_
    rintro _ w35 ⟨_, hGw35, hRww35, hNww35, x30q, A31, k32, hs33, rfl, rfl, he⟩
    subst he
    have hR36 := hRww35.mxbase hE.size
    exact Ja ⟨_, rfl, hGw35, ⟨A31, k32, hs33, rfl, hR36⟩, (fun _ => fun g hg => Zt hRww35 hg), (fun j h => by cases h)⟩
  intro vals w38 hT hVs hAp hCp
  have hS := hS.grow hT
  have hv0 : vals 0 = _ := hVs 0 (by decide)
  have hv1 : vals 1 = _ := hVs 1 (by decide)
  have hv2 : vals 2 = _ := hVs 2 (by decide)
  have hv3 : vals 3 = _ := hVs 3 (by decide)
  have hv4 : vals 4 = _ := hVs 4 (by decide)
  have hv5 : vals 5 = _ := hVs 5 (by decide)
  have hv6 : vals 6 = _ := hVs 6 (by decide)
  obtain ⟨A31_7, k32_7, hs33_7, hv7, hR36_7⟩ := hVs 7 (by decide)
  have hS := YR [] hS0 hS hR36_7 (fun s hs => by cases hs)
  show WA _ _ _ _ _ _ _ _ ([(14, vals 0), (15, vals 1), (16, vals 2), (17, vals 3), (18, vals 4), (19, vals 5), (20, vals 6), (21, vals 7)] ++ _) _
  rw [hv0, hv1, hv2, hv3, hv4, hv5, hv6, hv7]
  refine Jf 8 (by decide +kernel) rfl <| J2 (cells := #[.int .i64 Cm, .slice A31_7 x30.length k32_7]) Zg rfl rfl rfl <| Ja <| Jf 9 (by decide +kernel) rfl <| Jw (cs := [.int .i64 Cm, .slice A31_7 x30.length k32_7]) 1 hS rfl Jv rfl rfl rfl rfl rfl ?_
  intro w40 hS
  refine Ja <| Jf 10 (by decide +kernel) rfl <| Jc 2 <| Jr (by decide +kernel) <| W.ret ?_
  repeat with_reducible first | refine blk.ret ?_ | refine exits.retI ?_
  refine endC.mk ⟨[.agg #[.int .i64 Cm, .slice A31_7 x30.length k32_7], .int .i64 0], ⟨_, _, _, rfl, rfl, JO (cs := [.int .i64 Cm, .slice A31_7 x30.length k32_7]) Jv JN rfl (Jb (hS.own (i := 1) rfl)), ⟨_, _, rfl, rfl, rfl⟩⟩, ?_⟩
  exact ⟨_, hS.ext, (hS.pick [0] rfl).rows, Ji (hS.pick [0] rfl).rows rfl, ⟨Cm, x30, (0 : Int), A31_7, k32_7, hs33_7, rfl, rfl, hv⟩⟩
end Go.Proofs.Ytiboieijhehjnaa
set_option linter.unusedSimpArgs false
set_option linter.unusedVariables false
set_option maxRecDepth 4000
set_option maxHeartbeats 4000000
namespace Go.Proofs.Ytiboieijhehjnaa
open Go.RowKit
def Jem (Pf : Int) (Mf : Int) (mf : List Int) (Cm : Int) (m : List (List Int)) (Q : Bool -> Prop) : Prop :=
  QP  (fun r16 => (((!r16) = true) -> (QP  (fun r19 => Q r19))) /\ ((!r16) = false -> (Jcs Cm m (150 : Int) (fun r21 => (((!r21) = true) -> (QP  (fun r24 => Q r24))) /\ ((!r21) = false -> ((((40 : Int) < Cm) -> ((((0 : Int) < (m.length : Int)) -> (QP  (fun r28 => Q r28))) /\ (¬ ((0 : Int) < (m.length : Int)) -> (ZZ Pf Mf mf Cm m (fun q => match q with | (c30, x31, r32) => ZS Pf Mf mf Cm m (fun q => match q with | (c41, x42, r43) => ((r32 ≠ r43) -> Q false) /\ (¬ (r32 ≠ r43) -> (YL c30 x31 c41 x42 (fun r53 => (((!r53) = true) -> Q false) /\ ((!r53) = false -> (((r32 ≠ (0 : Int)) -> Q true) /\ (¬ (r32 ≠ (0 : Int)) -> (∃ (I59 : Int -> Prop) (μ60 : Int -> Nat), I59 (0 : Int) /\ ∀ (z58 : Int), (I59 z58 -> (((z58 < (x31.length : Int)) -> ((0 <= z58 /\ z58 < (x31.length : Nat)) /\ (∃ (I67 : Int -> Prop) (μ68 : Int -> Nat), I67 (0 : Int) /\ ∀ (z66 : Int), (I67 z66 -> (((z66 < (m.length : Int)) -> ((0 <= z66 /\ z66 < (m.length : Nat)) /\ (Jct Pf Mf mf (gl x31 z58) (gl m z66) (fun r73 => ((r73 ≠ (0 : Int)) -> Q false) /\ (¬ (r73 ≠ (0 : Int)) -> ((I64 (z66 + (1 : Int))) /\ (I67 (z66 + (1 : Int)) /\ μ68 (z66 + (1 : Int)) < μ68 z66))))))) /\ (¬ (z66 < (m.length : Int)) -> ((I64 (z58 + (1 : Int))) /\ (I59 (z58 + (1 : Int)) /\ μ60 (z58 + (1 : Int)) < μ60 z58)))))))) /\ (¬ (z58 < (x31.length : Int)) -> (Jas Pf Mf mf Cm m (fun q => match q with | (r79, r80) => ((r80 = (0 : Int)) -> ((I64 (r79 + (x31.length : Int))) /\ (Q (decide ((r79 + (x31.length : Int)) = Cm))))) /\ (¬ (r80 = (0 : Int)) -> Q false))))))))))))))))))) /\ (¬ ((40 : Int) < Cm) -> (ZZ Pf Mf mf Cm m (fun q => match q with | (c85, x86, r87) => ZS Pf Mf mf Cm m (fun q => match q with | (c96, x97, r98) => ((r87 ≠ r98) -> Q false) /\ (¬ (r87 ≠ r98) -> (YL c85 x86 c96 x97 (fun r108 => (((!r108) = true) -> Q false) /\ ((!r108) = false -> (((r87 ≠ (0 : Int)) -> Q true) /\ (¬ (r87 ≠ (0 : Int)) -> (∃ (I114 : Int -> Prop) (μ115 : Int -> Nat), I114 (0 : Int) /\ ∀ (z113 : Int), (I114 z113 -> (((z113 < (x86.length : Int)) -> ((0 <= z113 /\ z113 < (x86.length : Nat)) /\ (∃ (I122 : Int -> Prop) (μ123 : Int -> Nat), I122 (0 : Int) /\ ∀ (z121 : Int), (I122 z121 -> (((z121 < (m.length : Int)) -> ((0 <= z121 /\ z121 < (m.length : Nat)) /\ (Jct Pf Mf mf (gl x86 z113) (gl m z121) (fun r128 => ((r128 ≠ (0 : Int)) -> Q false) /\ (¬ (r128 ≠ (0 : Int)) -> ((I64 (z121 + (1 : Int))) /\ (I122 (z121 + (1 : Int)) /\ μ123 (z121 + (1 : Int)) < μ123 z121))))))) /\ (¬ (z121 < (m.length : Int)) -> ((I64 (z113 + (1 : Int))) /\ (I114 (z113 + (1 : Int)) /\ μ115 (z113 + (1 : Int)) < μ115 z113)))))))) /\ (¬ (z113 < (x86.length : Int)) -> (Jas Pf Mf mf Cm m (fun q => match q with | (r134, r135) => ((r135 = (0 : Int)) -> ((I64 (r134 + (x86.length : Int))) /\ (Q (decide ((r134 + (x86.length : Int)) = Cm))))) /\ (¬ (r135 = (0 : Int)) -> Q false)))))))))))))))))))))))
theorem Jme {w : World} {Q : Bool -> Prop} {Pf : Int} {Mf : Int} {mf : List Int} {Cm : Int} {m : List (List Int)} {Bf : Nat} {Af : Option Addr} {nf kf : Nat} (hf : Rd Bf w 1 Af nf kf (is mf)) {Am : Option Addr} {nm km : Nat} (hm : Rl w Am nm km m) (hv : Jem Pf Mf mf Cm m Q) :
    Calls Try.prog 7 #[.agg #[.int .i64 Pf, .int .i64 Mf, .slice Af nf kf], .agg #[.int .i64 Cm, .slice Am nm km]] w fun e w' => ∃ v Qr, e = .returned v /\ w.grownBy w' none /\ Rows w.heap.size none w' Qr /\ News w.heap.size Qr /\ ∃ (r0 : Bool), v = .bool r0 /\ Qr = [] /\ Q r0 := by
  have hnf := hf.ilen
  subst hnf
  have hnm := hm.len
  subst hnm
  obtain ⟨hsm, hHm⟩ := hm.heads
  refine Jp <| Jo (vs := [.agg #[.int .i64 Pf, .int .i64 Mf, .slice Af mf.length kf], .agg #[.int .i64 Cm, .slice Am m.length km]]) [4] XF7 rfl rfl rfl rfl ?_
  have hS := Js w
  unfold Jem at hv
  refine Jg 2 <| JF (z := 3) (cs := [.int .i64 Pf, .int .i64 Mf, .slice Af mf.length kf]) hS rfl rfl rfl rfl ?_
  intro g11 w12 hS
  refine JF (z := 2) (cs := [.int .i64 Cm, .slice Am m.length km]) hS rfl rfl rfl rfl ?_
  intro g13 w14 hS
  refine Jc 2 <| Jg 3 <| SL.call hS (QQ  hv) Jel rfl Je5 rfl rfl ?_
  rintro _ _ w15 ⟨r16, rfl, rfl, hv⟩ hGw15 hS
  have hS := hS.n0
  refine Zh rfl rfl <| Je rfl rfl ?_
  rcases g17 : (!r16) with _ | _
  .have hv := hv.2 g17
   refine WL.take rfl <| Jk (cs := [.int .i64 Cm, .slice Am m.length km]) Jv JN rfl rfl (Jb (hS.own (i := 0) rfl)) rfl <| WL.take rfl <| SL.call hS (Jfg (RlH.rl (RlH.ext hHm hS.ext)) hv) XF16 rfl XN16 rfl rfl ?_
   rintro _ _ w20 ⟨r21, rfl, rfl, hv⟩ hGw20 hS
   have hS := hS.n0
   refine Jc 3 <| Je rfl rfl ?_
   rcases g22 : (!r21) with _ | _
   .have hv := hv.2 g22
    refine WL.take rfl <| Jh (off := 0) J1 rfl rfl <| WL.take rfl <| Jd XU3 rfl rfl (Jb (hS.own (i := 0) rfl) 0 _ rfl) rfl <| Jc 3 <| Je rfl rfl ?_
    by_cases g25 : (40 : Int) < Cm
    .have hv := hv.1 g25
     rw [decide_eq_true g25]
     refine WL.take rfl <| Jh (off := 1) JI rfl rfl <| WL.take rfl <| Jd Jt rfl rfl (Jb (hS.own (i := 0) rfl) 1 _ rfl) rfl <| WL.take rfl <| WL.len Jt rfl rfl <| Jc 6 <| Jm rfl (fun c26 => ?_) (fun c26 => ?_)
     .have hv := hv.1 (of_decide_eq_true c26)
      refine Jg 2 <| SL.call hS (QQ  hv) Jel rfl Je5 rfl rfl ?_
      rintro _ _ w27 ⟨r28, rfl, rfl, hv⟩ hGw27 hS
      have hS := hS.n0
      refine Jc 2 <| W.ret <| ⟨_, rfl, Fin.nil ?_⟩
      exact ⟨_, hS.ext, (hS.pick [] rfl).rows, Ji (hS.pick [] rfl).rows rfl, ⟨r28, rfl, rfl, hv⟩⟩
     have hv := hv.2 (of_decide_eq_false c26)
     refine Jn <| Jg 2 <| Jk (cs := [.int .i64 Pf, .int .i64 Mf, .slice Af mf.length kf]) JT JY rfl rfl (Jb (hS.own (i := 1) rfl)) rfl <| Jk (cs := [.int .i64 Cm, .slice Am m.length km]) Jv JN rfl rfl (Jb (hS.own (i := 0) rfl)) rfl <| SL.call hS (Jd7 (hS.ro hf) (RlH.rl (RlH.ext hHm hS.ext)) hv) XF33 rfl XN33 rfl rfl ?_
     rintro _ _ w29 ⟨c30, x31, r32, A33, k34, hs35, rfl, rfl, hv⟩ hGw29 hS
     have hS := hS.n1
     refine Jc 3 <| SL.alloc (cs := [.int .i64 0, .slice none 0 0]) hS Jv rfl rfl ?_
     intro g37 w38 hS
     refine Jw (cs := [.int .i64 c30, .slice A33 x31.length k34]) 0 hS rfl Jv rfl rfl rfl rfl rfl ?_
     intro w39 hS
     refine Jc 2 <| Jg 2 <| Jk (cs := [.int .i64 Pf, .int .i64 Mf, .slice Af mf.length kf]) JT JY rfl rfl (Jb (hS.own (i := 3) rfl)) rfl <| Jk (cs := [.int .i64 Cm, .slice Am m.length km]) Jv JN rfl rfl (Jb (hS.own (i := 2) rfl)) rfl <| SL.call hS (Jgj (hS.ro hf) (RlH.rl (RlH.ext hHm hS.ext)) hv) XF34 rfl XN34 rfl rfl ?_
     rintro _ _ w40 ⟨c41, x42, r43, A44, k45, hs46, rfl, rfl, hv⟩ hGw40 hS
     have hS := hS.n1
     refine Jc 3 <| SL.alloc (cs := [.int .i64 0, .slice none 0 0]) hS Jv rfl rfl ?_
     intro g48 w49 hS
     refine Jw (cs := [.int .i64 c41, .slice A44 x42.length k45]) 0 hS rfl Jv rfl rfl rfl rfl rfl ?_
     intro w50 hS
     refine Jc 2 <| Jg 6 <| Je rfl rfl ?_
     by_cases g51 : r32 ≠ r43
     .have hv := hv.1 g51
      rw [decide_eq_true g51]
      refine Jc 6 <| JV rfl <| Jg 4 <| W.ret <| ⟨_, rfl, Fin.nil ?_⟩
      exact ⟨_, hS.ext, (hS.pick [] rfl).rows, Ji (hS.pick [] rfl).rows rfl, ⟨false, rfl, rfl, hv⟩⟩
     have hv := hv.2 g51
     rw [decide_eq_false g51]
     refine WL.take rfl <| Jk (cs := [.int .i64 c30, .slice A33 x31.length k34]) Jv JN rfl rfl (Jb (hS.own (i := 2) rfl)) rfl <| WL.take rfl <| Jk (cs := [.int .i64 c41, .slice A44 x42.length k45]) Jv JN rfl rfl (Jb (hS.own (i := 0) rfl)) rfl <| WL.take rfl <| SL.call hS (Za (hS.rl (i := 3) rfl) (hS.rl (i := 1) rfl) hv) Jlc rfl Jnc rfl rfl ?_
     rintro _ _ w52 ⟨r53, rfl, rfl, hv⟩ hGw52 hS
     have hS := hS.n0
     refine Jc 4 <| Jm rfl (fun c54 => ?_) (fun c54 => ?_)
     .have hv := hv.1 (c54)
      refine Jg 4 <| W.ret <| ⟨_, rfl, Fin.nil ?_⟩
      exact ⟨_, hS.ext, (hS.pick [] rfl).rows, Ji (hS.pick [] rfl).rows rfl, ⟨false, rfl, rfl, hv⟩⟩
     have hv := hv.2 (c54)
     refine Jn <| Jg 6 <| Jm rfl (fun c55 => ?_) (fun c55 => ?_)
     .have hv := hv.1 (of_decide_eq_true c55)
      refine Jg 4 <| W.ret <| ⟨_, rfl, Fin.nil ?_⟩
      exact ⟨_, hS.ext, (hS.pick [] rfl).rows, Ji (hS.pick [] rfl).rows rfl, ⟨true, rfl, rfl, hv⟩⟩
     have hv := hv.2 (of_decide_eq_false c55)
     refine Jn <| Jg 3 <| Jh (off := 1) JI rfl rfl <| Jd Jt rfl rfl (Jb (hS.own (i := 2) rfl) 1 _ rfl) rfl <| WL.len Jt rfl rfl <| Jc 2 <| W.block ?_
     obtain ⟨I59, μ60, hv, hk83⟩ := hv
     refine JE (σ := Int) (fun z58 w1 => I59 z58 /\ St TT w none w1 [.row 27 2 (some ⟨g48, 0, none⟩) 1 1 [.int .i64 c41, .slice A44 x42.length k45], mx 22 3 A44 x42.length k45 hs46 x42, .row 27 2 (some ⟨g37, 0, none⟩) 1 1 [.int .i64 c30, .slice A33 x31.length k34], mx 22 3 A33 x31.length k34 hs35 x31, .row 27 2 (some ⟨g13, 0, none⟩) 1 1 [.int .i64 Cm, .slice Am m.length km], .row 24 3 (some ⟨g11, 0, none⟩) 1 1 [.int .i64 Pf, .int .i64 Mf, .slice Af mf.length kf]]) (fun z58 => [(2, .pointer (some ⟨g11, 0, none⟩)), (3, .pointer (some ⟨g13, 0, none⟩)), (4, .bool false), (5, .pointer (some ⟨g37, 0, none⟩)), (58, .slice A33 x31.length k34), (59, .int .i64 (x31.length : Int)), (60, .int .i64 z58)]) (fun z58 => μ60 z58) (0 : Int) ⟨hv, hS⟩ ⟨rfl, rfl, rfl, rfl, rfl, rfl, rfl, trivial⟩ ?_
     rintro z58 w61 ⟨hv, hS⟩
     have hv := hk83 z58 hv
     refine Jg 5 <| Jm rfl (fun c62 => ?_) (fun c62 => ?_)
     .have hv := hv.1 (of_decide_eq_true c62)
      refine Jn <| JB <| W.block <| Jg 2 ?_
      obtain ⟨o63, hv⟩ := hv
      refine JC 3 Jt Jy hS rfl rfl rfl o63 rfl <| Jd Jq rfl rfl (hS.mxcell (i := 3) rfl o63) rfl <| Jc 2 <| Jg 2 <| Jh (off := 1) JI rfl rfl <| Jd Jt rfl rfl (Jb (hS.own (i := 4) rfl) 1 _ rfl) rfl <| WL.len Jt rfl rfl <| Jc 2 <| W.block ?_
      obtain ⟨I67, μ68, hv, hk77⟩ := hv
      refine JE (σ := Int) (fun z66 w1 => I67 z66 /\ St TT w none w1 [.row 27 2 (some ⟨g48, 0, none⟩) 1 1 [.int .i64 c41, .slice A44 x42.length k45], mx 22 3 A44 x42.length k45 hs46 x42, .row 27 2 (some ⟨g37, 0, none⟩) 1 1 [.int .i64 c30, .slice A33 x31.length k34], mx 22 3 A33 x31.length k34 hs35 x31, .row 27 2 (some ⟨g13, 0, none⟩) 1 1 [.int .i64 Cm, .slice Am m.length km], .row 24 3 (some ⟨g11, 0, none⟩) 1 1 [.int .i64 Pf, .int .i64 Mf, .slice Af mf.length kf]]) (fun z66 => [(2, .pointer (some ⟨g11, 0, none⟩)), (3, .pointer (some ⟨g13, 0, none⟩)), (4, .bool false), (5, .pointer (some ⟨g37, 0, none⟩)), (10, .slice ((hs35 z58.toNat).1) ((gl x31 z58).length) ((hs35 z58.toNat).2)), (58, .slice A33 x31.length k34), (59, .int .i64 (x31.length : Int)), (60, .int .i64 z58), (61, .bool (decide (z58 < (x31.length : Int)))), (65, .slice Am m.length km), (66, .int .i64 (m.length : Int)), (67, .int .i64 z66)]) (fun z66 => μ68 z66) (0 : Int) ⟨hv, hS⟩ ⟨rfl, rfl, rfl, rfl, rfl, rfl, rfl, rfl, rfl, rfl, rfl, rfl, trivial⟩ ?_
      rintro z66 w69 ⟨hv, hS⟩
      have hv := hk77 z66 hv
      refine Jg 5 <| Jm rfl (fun c70 => ?_) (fun c70 => ?_)
      .have hv := hv.1 (of_decide_eq_true c70)
       refine Jn <| JB <| W.block <| Jg 2 ?_
       obtain ⟨o71, hv⟩ := hv
       refine Qf Jt Jy hHm rfl rfl o71 rfl <| Jd Jq rfl rfl (hS.cell (RlH.cell hHm o71)) rfl <| Jc 2 <| Jg 2 <| Jk (cs := [.int .i64 Pf, .int .i64 Mf, .slice Af mf.length kf]) JT JY rfl rfl (Jb (hS.own (i := 5) rfl)) rfl <| Jc 2 <| SL.call hS (Jfh (hS.ro hf) (hS.mxrd (i := 3) rfl o63) (hS.ro (Qw hHm o71)) hv) XF35 rfl XN35 rfl rfl ?_
       rintro _ _ w72 ⟨r73, rfl, rfl, hv⟩ hGw72 hS
       have hS := hS.n0
       refine Jc 2 <| Jm rfl (fun c74 => ?_) (fun c74 => ?_)
       .have hv := hv.1 (of_decide_eq_true c74)
        refine Jg 4 <| W.ret <| ⟨_, rfl, Fin.nil ?_⟩
        exact ⟨_, hS.ext, (hS.pick [] rfl).rows, Ji (hS.pick [] rfl).rows rfl, ⟨false, rfl, rfl, hv⟩⟩
       have hv := hv.2 (of_decide_eq_false c74)
       refine Jn <| JG ?_
       obtain ⟨o75, hv⟩ := hv
       refine WL.add (r := (z66 + (1 : Int))) rfl rfl (wr o75) rfl <| Jc 2 ?_
       exact ⟨(z66 + (1 : Int)), ⟨rfl, rfl, rfl, rfl, rfl, rfl, rfl, rfl, rfl, rfl, rfl, rfl, trivial⟩, hv.2, rfl, hv.1, hS⟩
      have hv := hv.2 (of_decide_eq_false c70)
      refine JA <| JG ?_
      obtain ⟨o76, hv⟩ := hv
      refine WL.add (r := (z58 + (1 : Int))) rfl rfl (wr o76) rfl <| Jc 2 ?_
      exact ⟨(z58 + (1 : Int)), ⟨rfl, rfl, rfl, rfl, rfl, rfl, rfl, trivial⟩, hv.2, rfl, hv.1, hS⟩
     have hv := hv.2 (of_decide_eq_false c62)
     refine JA <| Jg 2 <| Jk (cs := [.int .i64 Pf, .int .i64 Mf, .slice Af mf.length kf]) JT JY rfl rfl (Jb (hS.own (i := 5) rfl)) rfl <| Jk (cs := [.int .i64 Cm, .slice Am m.length km]) Jv JN rfl rfl (Jb (hS.own (i := 4) rfl)) rfl <| SL.call hS (Jbu (hS.ro hf) (RlH.rl (RlH.ext hHm hS.ext)) hv) Jnd rfl Jqa rfl rfl ?_
     rintro _ _ w78 ⟨r79, r80, rfl, rfl, hv⟩ hGw78 hS
     have hS := hS.n0
     refine Jc 6 <| Jg 4 <| Je rfl rfl ?_
     by_cases g81 : r80 = (0 : Int)
     .have hv := hv.1 g81
      rw [decide_eq_true g81]
      refine Jc 3 <| Jh (off := 1) JI rfl rfl <| WL.take rfl <| Jd Jt rfl rfl (Jb (hS.own (i := 2) rfl) 1 _ rfl) rfl <| WL.take rfl <| WL.len Jt rfl rfl <| WL.take rfl ?_
      obtain ⟨o82, hv⟩ := hv
      refine WL.add (r := (r79 + (x31.length : Int))) rfl rfl (wr o82) rfl <| WL.take rfl <| Jh (off := 0) J1 rfl rfl <| WL.take rfl <| Jd XU3 rfl rfl (Jb (hS.own (i := 4) rfl) 0 _ rfl) rfl <| Jc 5 <| W.ret <| ⟨_, rfl, Fin.nil ?_⟩
      exact ⟨_, hS.ext, (hS.pick [] rfl).rows, Ji (hS.pick [] rfl).rows rfl, ⟨(decide ((r79 + (x31.length : Int)) = Cm)), rfl, rfl, hv⟩⟩
     have hv := hv.2 g81
     rw [decide_eq_false g81]
     refine Jc 11 <| W.ret <| ⟨_, rfl, Fin.nil ?_⟩
     exact ⟨_, hS.ext, (hS.pick [] rfl).rows, Ji (hS.pick [] rfl).rows rfl, ⟨false, rfl, rfl, hv⟩⟩
    have hv := hv.2 g25
    rw [decide_eq_false g25]
    refine Jc 8 <| Qv rfl <| Jn <| Jg 2 <| Jk (cs := [.int .i64 Pf, .int .i64 Mf, .slice Af mf.length kf]) JT JY rfl rfl (Jb (hS.own (i := 1) rfl)) rfl <| Jk (cs := [.int .i64 Cm, .slice Am m.length km]) Jv JN rfl rfl (Jb (hS.own (i := 0) rfl)) rfl <| SL.call hS (Jd7 (hS.ro hf) (RlH.rl (RlH.ext hHm hS.ext)) hv) XF33 rfl XN33 rfl rfl ?_
    rintro _ _ w84 ⟨c85, x86, r87, A88, k89, hs90, rfl, rfl, hv⟩ hGw84 hS
    have hS := hS.n1
    refine Jc 3 <| SL.alloc (cs := [.int .i64 0, .slice none 0 0]) hS Jv rfl rfl ?_
    intro g92 w93 hS
    refine Jw (cs := [.int .i64 c85, .slice A88 x86.length k89]) 0 hS rfl Jv rfl rfl rfl rfl rfl ?_
    intro w94 hS
    refine Jc 2 <| Jg 2 <| Jk (cs := [.int .i64 Pf, .int .i64 Mf, .slice Af mf.length kf]) JT JY rfl rfl (Jb (hS.own (i := 3) rfl)) rfl <| Jk (cs := [.int .i64 Cm, .slice Am m.length km]) Jv JN rfl rfl (Jb (hS.own (i := 2) rfl)) rfl <| SL.call hS (Jgj (hS.ro hf) (RlH.rl (RlH.ext hHm hS.ext)) hv) XF34 rfl XN34 rfl rfl ?_
    rintro _ _ w95 ⟨c96, x97, r98, A99, k100, hs101, rfl, rfl, hv⟩ hGw95 hS
    have hS := hS.n1
    refine Jc 3 <| SL.alloc (cs := [.int .i64 0, .slice none 0 0]) hS Jv rfl rfl ?_
    intro g103 w104 hS
    refine Jw (cs := [.int .i64 c96, .slice A99 x97.length k100]) 0 hS rfl Jv rfl rfl rfl rfl rfl ?_
    intro w105 hS
    refine Jc 2 <| Jg 6 <| Je rfl rfl ?_
    by_cases g106 : r87 ≠ r98
    .have hv := hv.1 g106
     rw [decide_eq_true g106]
     refine Jc 6 <| JV rfl <| Jg 4 <| W.ret <| ⟨_, rfl, Fin.nil ?_⟩
     exact ⟨_, hS.ext, (hS.pick [] rfl).rows, Ji (hS.pick [] rfl).rows rfl, ⟨false, rfl, rfl, hv⟩⟩
    have hv := hv.2 g106
    rw [decide_eq_false g106]
    refine WL.take rfl <| Jk (cs := [.int .i64 c85, .slice A88 x86.length k89]) Jv JN rfl rfl (Jb (hS.own (i := 2) rfl)) rfl <| WL.take rfl <| Jk (cs := [.int .i64 c96, .slice A99 x97.length k100]) Jv JN rfl rfl (Jb (hS.own (i := 0) rfl)) rfl <| WL.take rfl <| SL.call hS (Za (hS.rl (i := 3) rfl) (hS.rl (i := 1) rfl) hv) Jlc rfl Jnc rfl rfl ?_
    rintro _ _ w107 ⟨r108, rfl, rfl, hv⟩ hGw107 hS
    have hS := hS.n0
    refine Jc 4 <| Jm rfl (fun c109 => ?_) (fun c109 => ?_)
    .have hv := hv.1 (c109)
     refine Jg 4 <| W.ret <| ⟨_, rfl, Fin.nil ?_⟩
     exact ⟨_, hS.ext, (hS.pick [] rfl).rows, Ji (hS.pick [] rfl).rows rfl, ⟨false, rfl, rfl, hv⟩⟩
    have hv := hv.2 (c109)
    refine Jn <| Jg 6 <| Jm rfl (fun c110 => ?_) (fun c110 => ?_)
    .have hv := hv.1 (of_decide_eq_true c110)
     refine Jg 4 <| W.ret <| ⟨_, rfl, Fin.nil ?_⟩
     exact ⟨_, hS.ext, (hS.pick [] rfl).rows, Ji (hS.pick [] rfl).rows rfl, ⟨true, rfl, rfl, hv⟩⟩
    have hv := hv.2 (of_decide_eq_false c110)
    refine Jn <| Jg 3 <| Jh (off := 1) JI rfl rfl <| Jd Jt rfl rfl (Jb (hS.own (i := 2) rfl) 1 _ rfl) rfl <| WL.len Jt rfl rfl <| Jc 2 <| W.block ?_
    obtain ⟨I114, μ115, hv, hk138⟩ := hv
    refine JE (σ := Int) (fun z113 w1 => I114 z113 /\ St TT w none w1 [.row 27 2 (some ⟨g103, 0, none⟩) 1 1 [.int .i64 c96, .slice A99 x97.length k100], mx 22 3 A99 x97.length k100 hs101 x97, .row 27 2 (some ⟨g92, 0, none⟩) 1 1 [.int .i64 c85, .slice A88 x86.length k89], mx 22 3 A88 x86.length k89 hs90 x86, .row 27 2 (some ⟨g13, 0, none⟩) 1 1 [.int .i64 Cm, .slice Am m.length km], .row 24 3 (some ⟨g11, 0, none⟩) 1 1 [.int .i64 Pf, .int .i64 Mf, .slice Af mf.length kf]]) (fun z113 => [(2, .pointer (some ⟨g11, 0, none⟩)), (3, .pointer (some ⟨g13, 0, none⟩)), (4, .bool false), (5, .pointer (some ⟨g92, 0, none⟩)), (58, .slice A88 x86.length k89), (59, .int .i64 (x86.length : Int)), (60, .int .i64 z113)]) (fun z113 => μ115 z113) (0 : Int) ⟨hv, hS⟩ ⟨rfl, rfl, rfl, rfl, rfl, rfl, rfl, trivial⟩ ?_
    rintro z113 w116 ⟨hv, hS⟩
    have hv := hk138 z113 hv
    refine Jg 5 <| Jm rfl (fun c117 => ?_) (fun c117 => ?_)
    .have hv := hv.1 (of_decide_eq_true c117)
     refine Jn <| JB <| W.block <| Jg 2 ?_
     obtain ⟨o118, hv⟩ := hv
     refine JC 3 Jt Jy hS rfl rfl rfl o118 rfl <| Jd Jq rfl rfl (hS.mxcell (i := 3) rfl o118) rfl <| Jc 2 <| Jg 2 <| Jh (off := 1) JI rfl rfl <| Jd Jt rfl rfl (Jb (hS.own (i := 4) rfl) 1 _ rfl) rfl <| WL.len Jt rfl rfl <| Jc 2 <| W.block ?_
     obtain ⟨I122, μ123, hv, hk132⟩ := hv
     refine JE (σ := Int) (fun z121 w1 => I122 z121 /\ St TT w none w1 [.row 27 2 (some ⟨g103, 0, none⟩) 1 1 [.int .i64 c96, .slice A99 x97.length k100], mx 22 3 A99 x97.length k100 hs101 x97, .row 27 2 (some ⟨g92, 0, none⟩) 1 1 [.int .i64 c85, .slice A88 x86.length k89], mx 22 3 A88 x86.length k89 hs90 x86, .row 27 2 (some ⟨g13, 0, none⟩) 1 1 [.int .i64 Cm, .slice Am m.length km], .row 24 3 (some ⟨g11, 0, none⟩) 1 1 [.int .i64 Pf, .int .i64 Mf, .slice Af mf.length kf]]) (fun z121 => [(2, .pointer (some ⟨g11, 0, none⟩)), (3, .pointer (some ⟨g13, 0, none⟩)), (4, .bool false), (5, .pointer (some ⟨g92, 0, none⟩)), (10, .slice ((hs90 z113.toNat).1) ((gl x86 z113).length) ((hs90 z113.toNat).2)), (58, .slice A88 x86.length k89), (59, .int .i64 (x86.length : Int)), (60, .int .i64 z113), (61, .bool (decide (z113 < (x86.length : Int)))), (65, .slice Am m.length km), (66, .int .i64 (m.length : Int)), (67, .int .i64 z121)]) (fun z121 => μ123 z121) (0 : Int) ⟨hv, hS⟩ ⟨rfl, rfl, rfl, rfl, rfl, rfl, rfl, rfl, rfl, rfl, rfl, rfl, trivial⟩ ?_
     rintro z121 w124 ⟨hv, hS⟩
     have hv := hk132 z121 hv
     refine Jg 5 <| Jm rfl (fun c125 => ?_) (fun c125 => ?_)
     .have hv := hv.1 (of_decide_eq_true c125)
      refine Jn <| JB <| W.block <| Jg 2 ?_
      obtain ⟨o126, hv⟩ := hv
      refine Qf Jt Jy hHm rfl rfl o126 rfl <| Jd Jq rfl rfl (hS.cell (RlH.cell hHm o126)) rfl <| Jc 2 <| Jg 2 <| Jk (cs := [.int .i64 Pf, .int .i64 Mf, .slice Af mf.length kf]) JT JY rfl rfl (Jb (hS.own (i := 5) rfl)) rfl <| Jc 2 <| SL.call hS (Jfh (hS.ro hf) (hS.mxrd (i := 3) rfl o118) (hS.ro (Qw hHm o126)) hv) XF35 rfl XN35 rfl rfl ?_
      rintro _ _ w127 ⟨r128, rfl, rfl, hv⟩ hGw127 hS
      have hS := hS.n0
      refine Jc 2 <| Jm rfl (fun c129 => ?_) (fun c129 => ?_)
      .have hv := hv.1 (of_decide_eq_true c129)
       refine Jg 4 <| W.ret <| ⟨_, rfl, Fin.nil ?_⟩
       exact ⟨_, hS.ext, (hS.pick [] rfl).rows, Ji (hS.pick [] rfl).rows rfl, ⟨false, rfl, rfl, hv⟩⟩
      have hv := hv.2 (of_decide_eq_false c129)
      refine Jn <| JG ?_
      obtain ⟨o130, hv⟩ := hv
      refine WL.add (r := (z121 + (1 : Int))) rfl rfl (wr o130) rfl <| Jc 2 ?_
      exact ⟨(z121 + (1 : Int)), ⟨rfl, rfl, rfl, rfl, rfl, rfl, rfl, rfl, rfl, rfl, rfl, rfl, trivial⟩, hv.2, rfl, hv.1, hS⟩
     have hv := hv.2 (of_decide_eq_false c125)
     refine JA <| JG ?_
     obtain ⟨o131, hv⟩ := hv
     refine WL.add (r := (z113 + (1 : Int))) rfl rfl (wr o131) rfl <| Jc 2 ?_
     exact ⟨(z113 + (1 : Int)), ⟨rfl, rfl, rfl, rfl, rfl, rfl, rfl, trivial⟩, hv.2, rfl, hv.1, hS⟩
    have hv := hv.2 (of_decide_eq_false c117)
    refine JA <| Jg 2 <| Jk (cs := [.int .i64 Pf, .int .i64 Mf, .slice Af mf.length kf]) JT JY rfl rfl (Jb (hS.own (i := 5) rfl)) rfl <| Jk (cs := [.int .i64 Cm, .slice Am m.length km]) Jv JN rfl rfl (Jb (hS.own (i := 4) rfl)) rfl <| SL.call hS (Jbu (hS.ro hf) (RlH.rl (RlH.ext hHm hS.ext)) hv) Jnd rfl Jqa rfl rfl ?_
    rintro _ _ w133 ⟨r134, r135, rfl, rfl, hv⟩ hGw133 hS
    have hS := hS.n0
    refine Jc 6 <| Jg 4 <| Je rfl rfl ?_
    by_cases g136 : r135 = (0 : Int)
    .have hv := hv.1 g136
     rw [decide_eq_true g136]
     refine Jc 3 <| Jh (off := 1) JI rfl rfl <| WL.take rfl <| Jd Jt rfl rfl (Jb (hS.own (i := 2) rfl) 1 _ rfl) rfl <| WL.take rfl <| WL.len Jt rfl rfl <| WL.take rfl ?_
     obtain ⟨o137, hv⟩ := hv
     refine WL.add (r := (r134 + (x86.length : Int))) rfl rfl (wr o137) rfl <| WL.take rfl <| Jh (off := 0) J1 rfl rfl <| WL.take rfl <| Jd XU3 rfl rfl (Jb (hS.own (i := 4) rfl) 0 _ rfl) rfl <| Jc 5 <| W.ret <| ⟨_, rfl, Fin.nil ?_⟩
     exact ⟨_, hS.ext, (hS.pick [] rfl).rows, Ji (hS.pick [] rfl).rows rfl, ⟨(decide ((r134 + (x86.length : Int)) = Cm)), rfl, rfl, hv⟩⟩
    have hv := hv.2 g136
    rw [decide_eq_false g136]
    refine Jc 11 <| W.ret <| ⟨_, rfl, Fin.nil ?_⟩
    exact ⟨_, hS.ext, (hS.pick [] rfl).rows, Ji (hS.pick [] rfl).rows rfl, ⟨false, rfl, rfl, hv⟩⟩
   have hv := hv.1 g22
   refine Jc 4 <| Qo rfl rfl <| Qo rfl rfl <| Qo rfl rfl <| Qo rfl rfl <| Jc 3 <| JV rfl <| Jg 2 <| SL.call hS (QQ  hv) Jel rfl Je5 rfl rfl ?_
   rintro _ _ w23 ⟨r24, rfl, rfl, hv⟩ hGw23 hS
   have hS := hS.n0
   refine Jc 2 <| W.ret <| ⟨_, rfl, Fin.nil ?_⟩
   exact ⟨_, hS.ext, (hS.pick [] rfl).rows, Ji (hS.pick [] rfl).rows rfl, ⟨r24, rfl, rfl, hv⟩⟩
  have hv := hv.1 g17
  refine Jc 9 <| Qo rfl rfl <| Qo rfl rfl <| Qo rfl rfl <| Qo rfl rfl <| Jc 3 <| JV rfl <| Jg 2 <| SL.call hS (QQ  hv) Jel rfl Je5 rfl rfl ?_
  rintro _ _ w18 ⟨r19, rfl, rfl, hv⟩ hGw18 hS
  have hS := hS.n0
  refine Jc 2 <| W.ret <| ⟨_, rfl, Fin.nil ?_⟩
  exact ⟨_, hS.ext, (hS.pick [] rfl).rows, Ji (hS.pick [] rfl).rows rfl, ⟨r19, rfl, rfl, hv⟩⟩
end Go.Proofs.Ytiboieijhehjnaa
set_option linter.unusedVariables false
set_option linter.unusedSimpArgs false
namespace Go.Proofs.Ytiboieijhehjnaa
section
variable {P M : Int} {mf : List Int} {p m v : Nat}
theorem Jq2 (F : FV P M mf p m v) {x : Int} {Q : Int -> Prop} (h : Q ((Q8 p m (inE (p ^ m) x) : Nat) : Int)) : Jhd P M mf x Q := by
  have hp := F.p2
  have hp2 := F.p256
  have hm8 := F.m8
  have hx := J6 F.ring.pos x
  refine ZH F ?_
  generalize inE (p ^ m) x = a at *
  have hla := Qg p m a
  rw [hla]
  refine ⟨fun l z => ∃ k : Nat, z = k /\ k <= m /\ l.length = m /\ ∀ i, i < m -> vo l i = if i < k then (vsm (-1) (dv p a)) i % (p : Int) else dv p a i, fun l z => (m - z).toNat, ⟨0, rfl, Nat.zero_le _, hla, fun i hi => by rw [if_neg (by omega), Yk hi]⟩, ?_⟩
  rintro l _ ⟨k, rfl, hk, hl, hv⟩
  dsimp only
  rw [JW, Qy]
  refine ⟨fun hlt => ?_, fun hge => Jlt F hl (fun i hi => by rw [hv i hi, if_pos (by omega)]) h⟩
  rw [hv k (by omega), if_neg (by omega)]
  have c1 := Jg3 (p := p) (by omega) a k
  rw [F.eP]
  refine ⟨⟨by omega, by omega⟩, Jz (by omega) (by omega), by omega, ⟨by omega, by omega⟩, Jz (by omega) (by omega), ⟨k + 1, by push_cast; rfl, by omega, by rw [List.length_set, hl], fun i hi => ?_⟩, by omega⟩
  rw [J7]
  by_cases hki : k = i
  . subst hki
    rw [if_pos ⟨rfl, by omega⟩, if_pos (by omega), Int.tmod_eq_emod_of_nonneg (by omega)]
    show _ = (-1 * dv p a k) % (p : Int)
    rw [show (p : Int) - dv p a k = -1 * dv p a k + p * 1 by omega, Int.add_mul_emod_self_left]
  . rw [if_neg (fun h => hki h.1), hv i hi]
    by_cases hik : i < k
    . rw [if_pos hik, if_pos (by omega)]
    . rw [if_neg hik, if_neg (by omega)]
end
section
variable {P M : Int} {mf : List Int} {p m v : Nat}
end
end Go.Proofs.Ytiboieijhehjnaa
set_option linter.unusedVariables false
set_option linter.unusedSimpArgs false
namespace Go.Proofs.Ytiboieijhehjnaa
/-! ### rows -/
section
variable (p m v : Nat)
end
theorem Jre {X : List (List Int)} {i j : Nat} (hi : i < X.length) (hj : j < X.length) : swp X i j = swp X j i := by
  refine QX (by rw [Jfc, Jfc]) fun t ht => ?_
  rw [Zs hi hj, Zs hj hi]
  by_cases h1 : t = j <;> by_cases h2 : t = i <;> simp_all
theorem Jrd {X : List (List Int)} {i : Nat} (hi : i < X.length) : swp X i i = X := by
  refine QX (Jfc _ _ _) fun t ht => ?_
  rw [Zs hi hi]
  by_cases h1 : t = i <;> simp_all
section
variable {p m v : Nat}
end
section
variable {F : GFv} {p m v g : Nat} {P M : Int} {mf : List Int} {X : List (List Int)}
theorem Jqo {x : Int} {l : List Int} {Q : List Int -> Prop} (hF : FV P M mf p m v) (hl : l.length <= 1000) (h : Q (sc p m v x l)) : Jdo P M mf x l Q := by
  refine ⟨⟨by omega, by omega, by omega⟩, fun y z => ∃ t : Nat, z = t /\ t <= l.length /\ y.length = l.length /\ ∀ k, k < t -> vo y k = vo (sc p m v x l) k, fun y z => (l.length - z).toNat, ⟨0, rfl, Nat.zero_le _, by simp, fun k h => by omega⟩, ?_⟩
  rintro y _ ⟨t, rfl, ht, hy, hk⟩
  dsimp only
  rw [JW]
  refine ⟨fun hlt => ⟨⟨by omega, by omega⟩, _, Jij hF rfl, ⟨by omega, by omega⟩, Jz (by omega) (by omega), ⟨t + 1, by push_cast; rfl, by omega, ?_, fun k hk' => ?_⟩, by omega⟩, fun hge => ?_⟩
  . rw [Qy, List.length_set]; exact hy
  . rw [Qy, J7]
    by_cases e : t = k
    . subst e; rw [if_pos ⟨rfl, by omega⟩, Jfx (by omega)]; rfl
    . rw [if_neg (fun h => e h.1)]; exact hk k (by omega)
  . rw [show y = sc p m v x l from YS (by rw [Jd0]; exact hy) fun i hi => hk i (by omega)]; exact h
theorem Jqp {a u : List Int} {x : Int} {Q : List Int -> Prop} (hF : FV P M mf p m v) (hl : a.length <= u.length) (ha : a.length <= 1000000) (h : Q (adm p m v a x u)) : Jdr P M mf a x u Q := by
  refine ⟨⟨by omega, by omega, by omega⟩, fun y z => ∃ t : Nat, z = t /\ t <= a.length /\ y.length = a.length /\ ∀ k, k < t -> vo y k = vo (adm p m v a x u) k, fun y z => (a.length - z).toNat, ⟨0, rfl, Nat.zero_le _, by simp, fun k h => by omega⟩, ?_⟩
  rintro y _ ⟨t, rfl, ht, hy, hk⟩
  dsimp only
  rw [JW, JW]
  refine ⟨fun hlt => ⟨fun y' => y'.length = a.length /\ ∀ k, k < t + 1 -> vo y' k = vo (adm p m v a x u) k, ⟨⟨by omega, by omega⟩, ⟨by omega, by omega⟩, ⟨by omega, by omega⟩, fun hne => ⟨⟨by omega, by omega⟩, ⟨by omega, by omega⟩, _, Jij hF rfl, _, Jq4 hF rfl, ⟨by omega, by omega⟩, ?_⟩, fun he => ?_⟩, ?_⟩, fun hge => ?_⟩
  . rw [Qy, Qy]
    refine ⟨by rw [List.length_set, List.length_set]; exact hy, fun k hk' => ?_⟩
    rw [J7, List.length_set]
    by_cases e : t = k
    . subst e
      rw [if_pos ⟨rfl, by omega⟩, Ja0 (by omega), if_neg hne]; rfl
    . rw [if_neg (fun h => e h.1), J7, if_neg (fun h => e h.1)]; exact hk k (by omega)
  . have he' : vo u t = 0 := Classical.not_not.1 he
    rw [Qy]
    refine ⟨by rw [List.length_set]; exact hy, fun k hk' => ?_⟩
    rw [J7]
    by_cases e : t = k
    . subst e
      rw [if_pos ⟨rfl, by omega⟩, Ja0 (by omega), if_pos he']
    . rw [if_neg (fun h => e h.1)]; exact hk k (by omega)
  . rintro y' ⟨h1, h2⟩
    exact ⟨Jz (by omega) (by omega), ⟨t + 1, by push_cast; rfl, by omega, h1, h2⟩, by omega⟩
  . rw [show y = adm p m v a x u from YS (by rw [Jdk]; exact hy) fun i hi => hk i (by omega)]; exact h
theorem Jub {Q : List (List Int) -> Prop} (hX : X.length <= 1000000) (hr : ∀ r ∈ X, r.length <= 1000000) (h : Q X) : Jfs X Q := by
  refine ⟨fun x z => ∃ t : Nat, z = t /\ t <= X.length /\ x = X.take t, fun x z => (X.length - z).toNat, ⟨0, rfl, Nat.zero_le _, rfl⟩, ?_⟩
  rintro _ _ ⟨t, rfl, ht, rfl⟩
  dsimp only
  refine ⟨fun hlt => ?_, fun hge => by rw [List.take_of_length_le (by omega)]; exact h⟩
  have h1 := hr _ (Z7 (t := t) (X := X) (by omega))
  refine ⟨⟨by omega, by omega⟩, ?_, ?_, Jz (by omega) (by omega), ⟨t + 1, by push_cast; rfl, by omega, ?_⟩, by omega⟩
  . show ((0 : Nat) + ((row X t).length : Nat) : Int) * 8 <= _; omega
  . rw [List.length_take]; omega
  . show X.take t ++ [[] ++ row X t] = _
    rw [List.take_add_one, Jah (d := []) (by omega)]; rfl
end
end Go.Proofs.Ytiboieijhehjnaa
set_option linter.unusedVariables false
set_option linter.unusedSimpArgs false
namespace Go.Proofs.Ytiboieijhehjnaa
section
variable {p m v n w wy : Nat}
end
section
variable {F : GFv} {p m v g : Nat} {P M : Int} {mf : List Int} {X Y : List (List Int)}
theorem Jut (hF : FV P M mf p m v) {x : Int} (h : El p m x) : Ng p m x = 0 ↔ x = 0 := by
  have R := hF.ring
  have hp := hF.p2
  have hx := J6 (q := p ^ m) (by have := R.q2; omega) x
  have h1 := Ze (p := p) (m := m) (by omega) hx
  constructor
  . intro h0
    have h2 : Q8 p m (inE (p ^ m) x) = 0 := Int.ofNat.inj h0
    rw [h2, R.Az hx] at h1
    rw [<- Jcn h, h1]; rfl
  . intro h0
    have h3 : inE (p ^ m) x = 0 := by rw [h0]; unfold inE; split <;> rfl
    rw [h3] at h1
    show ((Q8 p m (inE (p ^ m) x) : Nat) : Int) = 0
    rw [h3]
    have h4 : Q8 p m 0 < p ^ m := Y3 (by omega) 0
    have h5 : JX p m 0 (Q8 p m 0) = Q8 p m 0 := by rw [R.Ac, R.Az h4]
    rw [h5] at h1; rw [h1]; rfl
theorem ml_one (hF : FV P M mf p m v) {x : Int} (h : El p m x) : Ml p m v 1 x = x := by
  have R := hF.ring
  have hq := R.q2
  have hx := J6 (q := p ^ m) (by omega) x
  unfold Ml
  rw [show inE (p ^ m) (1 : Int) = 1 from Ql (x := 1) (by omega), R.Mc (by omega) hx, R.M1 hx]
  exact Jcn h
theorem iv_one (hF : FV P M mf p m v) : Iv p m v 1 = 1 := by
  have R := hF.ring
  have hq := R.q2
  have e1 : inE (p ^ m) (1 : Int) = 1 := Ql (x := 1) (by omega)
  exact Joz R (z := 1) (by rw [e1]; omega) (by omega) (by rw [e1]; exact R.M1 (by omega))
theorem sc_one (hF : FV P M mf p m v) {l : List Int} (h : Elr p m l) : sc p m v 1 l = l := YS (Jd0 _ _) fun i hi => by
  rw [Jd0] at hi
  rw [Jfx hi, ml_one hF (Jbe h hi)]
theorem w_rInv {x : Int} {Q : Int -> Prop} (hF : FV P M mf p m v) (h : Q (Iv p m v x)) : Jju P M mf x Q := by
  have hq := hF.q
  have R := hF.ring
  have hq2 := R.q2
  have hxl := J6 (q := p ^ m) (by omega) x
  refine ⟨fun z => ∃ n : Nat, z = n /\ 1 <= n /\ n <= p ^ m /\ ∀ k, k < n -> Ju p m (dv p v) (inE (p ^ m) x) k ≠ 1, fun z => (((p ^ m : Nat) : Int) - z).toNat, ⟨1, rfl, Nat.le_refl 1, by omega, fun k hk => by
    rw [show k = 0 by omega, R.M0 hxl]; omega⟩, ?_⟩
  rintro _ ⟨n, rfl, hn1, hn, hk⟩
  refine Jf1 ?_
  rw [hF.ord]
  dsimp only
  refine ⟨fun hlt => Jij hF ?_, fun hge => ?_⟩
  . have hnq : n < p ^ m := Int.ofNat_lt.1 hlt
    rw [Ql hnq]
    refine ⟨fun he => ?_, fun hne => ⟨Jz (by omega) (by omega), ⟨n + 1, by push_cast; rfl, by omega, by omega, fun k hk' => ?_⟩, by omega⟩⟩
    . have h1 : Ju p m (dv p v) (inE (p ^ m) x) n = 1 := Int.ofNat.inj he
      rw [<- Joz R hxl hnq (by rw [R.Mc hnq hxl]; exact h1)]; exact h
    . rcases Nat.lt_or_ge k n with h | h
      . exact hk k h
      . rw [show k = n by omega]; exact fun e => hne (by rw [e]; rfl)
  . have e : Iv p m v x = 0 := by
      unfold Iv
      cases hf : (List.range (p ^ m)).find? fun z => Ju p m (dv p v) z (inE (p ^ m) x) == 1 with
      | none => rfl
      | some y =>
        have h1 := List.find?_some hf
        have h2 := List.mem_range.1 (List.mem_of_find?_eq_some hf)
        have h1' : Ju p m (dv p v) y (inE (p ^ m) x) = 1 := by simpa using h1
        exact absurd (by rw [R.Mc hxl h2]; exact h1') (hk y (by omega))
    rw [e] at h; exact h
theorem Jih {cols wy : Nat} {d0 : Int} {Q : List (List Int) × List Int -> Prop} (hF : FV P M mf p m v) (hX : X.length <= 300) (hc : cols <= 300) (hS : Shp X.length cols wy ⟨X, Y, [], d0⟩) (hE : Els p m X)
    (h : Q ((elim p m v cols ⟨X, Y, [], d0⟩).X, (elim p m v cols ⟨X, Y, [], d0⟩).pv)) : Yz P M mf X cols Q := by
  have hp2 := hF.p2
  have hE0 : ∀ k, Els p m (elim p m v k ⟨X, Y, [], d0⟩).X := ZL (by omega) hE
  have hXr : ∀ r ∈ X, r.length <= 1000000 := fun r hr => by
    obtain ⟨t, ht, rfl⟩ := Jad hr
    have := hS.xr t ht; simp only at this; omega
  refine Jub (by omega) hXr ?_
  generalize hS0 : (⟨X, Y, [], d0⟩ : ES) = S0 at h hS hE0
  have hX0 : X = S0.X := by rw [<- hS0]
  have hP0 : ([] : List Int) = S0.pv := by rw [<- hS0]
  refine ⟨fun a c => a = (elim p m v cols S0).X /\ c = (elim p m v cols S0).pv, ⟨fun a c z y => ∃ k : Nat, y = k /\ k <= cols /\ a = (elim p m v k S0).X /\ c = (elim p m v k S0).pv /\ z = ((elim p m v k S0).pv.length : Nat), fun _ _ _ y => (cols - y).toNat, ⟨0, rfl, Nat.zero_le _, hX0, hP0, by show (0 : Int) = ((S0.pv.length : Nat) : Int); rw [<- hP0]; rfl⟩, ?_⟩, ?_⟩
  . rintro _ _ _ _ ⟨k, rfl, hk, rfl, rfl, rfl⟩
    have hs := QS (p := p) (m := m) (v := v) hS k
    have hstop := Jeg (p := p) (m := m) (v := v) (S := S0) (k := k)
    have hsucc := QE (p := p) (m := m) (v := v) k S0
    have hek := hE0 k
    generalize hSk : elim p m v k S0 = S at *
    have hal := hs.xl; have har := hs.xr; have hpl := hs.pl
    refine ⟨fun hlt => ⟨fun hlc => ?_, fun hge => ?_⟩, fun hge => ?_⟩
    . have hcur : S.pv.length < X.length := by omega
      have hkc : k < cols := by omega
      have hsp := Jac S.X k S.pv.length (by omega)
      refine ⟨fun pv x z _ _ _ _ => x = (elim p m v (k + 1) S0).X /\ pv = (elim p m v (k + 1) S0).pv /\ z = ((elim p m v (k + 1) S0).pv.length : Nat), ⟨fun r _ _ => r = ((nz S.X k S.pv.length : Nat) : Int), ⟨fun z _ => ∃ t : Nat, z = t /\ S.pv.length <= t /\ t <= X.length /\ ∀ s, S.pv.length <= s -> s < t -> vo (row S.X s) k = 0, fun z _ => (X.length - z).toNat, ⟨_, rfl, Nat.le_refl _, by omega, fun s h1 h2 => by omega⟩, ?_⟩, ?_⟩, ?_⟩
      . rintro _ _ ⟨t, rfl, h1, h2, h3⟩
        dsimp only
        refine ⟨fun hlt2 => ⟨⟨by omega, by omega⟩, ⟨by omega, by show (k : Int) < ((row S.X t).length : Nat); rw [har t (by omega)]; omega⟩, fun he => ⟨Jz (by omega) (by omega), ⟨t + 1, by push_cast; rfl, by omega, by omega, fun s hs1 hs2 => ?_⟩, by omega⟩, fun hne => ?_⟩, fun hge2 => ?_⟩
        . rcases Nat.lt_or_ge s t with h | h
          . exact h3 s hs1 h
          . rw [show s = t by omega]; exact he
        . exact congrArg _ (Jn8 h1 (by omega) h3 fun _ => hne)
        . exact congrArg _ (Jn8 h1 (by omega) h3 fun h => by omega)
      . rintro _ _ _ rfl
        refine ⟨fun heq => ?_, fun hne => ?_⟩
        . have e : elim p m v (k + 1) S0 = S := by
            rw [hsucc]; unfold QI; rw [if_neg (fun hh => by have := hh.2; omega)]
          rw [e]; exact ⟨rfl, rfl, rfl⟩
        . have hr : nz S.X k S.pv.length < X.length := by have := hsp.1; omega
          have hge := Jr6 S.X k S.pv.length
          generalize hrr : nz S.X k S.pv.length = r at hr hge hsp
          rw [show QI p m v S k = es1 p m v k r S.pv.length S by unfold QI; rw [if_pos ⟨by omega, by omega⟩, <- hrr]] at hsucc
          have hsw : sll (sll S.X ((S.pv.length : Nat) : Int) (gl S.X (r : Int))) (r : Int) (gl S.X ((S.pv.length : Nat) : Int)) = swq S.X r S.pv.length := by
            show swp S.X S.pv.length r = _
            unfold swq
            split
            . rename_i e; rw [e]; exact Jrd (by omega)
            . exact Jre (by omega) (by omega)
          refine ⟨True, ⟨⟨by omega, by omega⟩, ⟨by omega, by omega⟩, ⟨by omega, by omega⟩, ⟨by omega, by omega⟩, trivial⟩, fun _ => ?_⟩
          rw [hsw]
          have hx1 : ∀ t, t < X.length -> (row (swq S.X r S.pv.length) t).length = cols := fun t ht => QZ (by omega) (by omega) (fun t ht => har t (by omega)) (by omega)
          have hl1 := JR S.X r S.pv.length
          have hes : Els p m (es1 p m v k r S.pv.length S).X := Jjc (by omega) hek (by omega) (by omega)
          have hxs := ZK (p := p) (m := m) (v := v) k r S.pv.length S
          have hps : (es1 p m v k r S.pv.length S).pv = S.pv ++ [(k : Int)] := rfl
          have hel1 : Els p m (swq S.X r S.pv.length) := Zf fun t ht => by
            rw [JR] at ht
            unfold swq
            split
            . exact Qa hek t
            . rw [Zs (by omega) (by omega)]
              split
              . exact Qa hek _
              . split <;> exact Qa hek _
          generalize swq S.X r S.pv.length = x1 at *
          refine ⟨⟨by omega, by omega⟩, ⟨by omega, by show (k : Int) < ((row x1 S.pv.length).length : Nat); rw [hx1 _ hcur]; omega⟩, fun x => x = scq p m v x1 S.pv.length (vo (row x1 S.pv.length) k), ⟨fun hne1 => ⟨⟨by omega, by omega⟩, ⟨by omega, by show (k : Int) < ((row x1 S.pv.length).length : Nat); rw [hx1 _ hcur]; omega⟩, _, w_rInv hF rfl, ⟨by omega, by omega⟩, _, Jqo hF (by show (row x1 S.pv.length).length <= 1000; rw [hx1 _ hcur]; omega) rfl, ⟨by omega, by omega⟩, rfl⟩, fun he1 => ?_⟩, ?_⟩
          . have he2 : vo (row x1 S.pv.length) k = 1 := Classical.not_not.1 he1
            unfold scq
            rw [he2, iv_one hF, sc_one hF (Qa hel1 _)]
            refine (QX (by rw [List.length_set]) fun i hi => ?_).symm
            rw [Qp]
            split
            . rename_i h; rw [h.1]
            . rfl
          . rintro _ rfl
            have hx2 : ∀ t, t < X.length -> (row (scq p m v x1 S.pv.length (vo (row x1 S.pv.length) k)) t).length = cols := fun t ht => Q1 (by omega) (fun t ht => hx1 t (by omega)) (by omega)
            have hl3 := Qu (p := p) (m := m) (v := v) x1 S.pv.length (vo (row x1 S.pv.length) k)
            have hel2 : Els p m (scq p m v x1 S.pv.length (vo (row x1 S.pv.length) k)) := Zf fun t ht => by
              unfold scq; rw [Qp]
              split
              . exact Jl2 (by omega)
              . exact Qa hel1 t
            generalize scq p m v x1 S.pv.length (vo (row x1 S.pv.length) k) = x2 at *
            generalize hf : (fun t => Ng p m (vo (row x2 t) k)) = f at *
            refine ⟨fun x z => ∃ t : Nat, z = t /\ t <= X.length /\ x = prt p m v f S.pv.length t x2, fun x z => (X.length - z).toNat, ⟨0, rfl, Nat.zero_le _, (Jge _ _).symm⟩, ?_⟩
            rintro _ _ ⟨t, rfl, ht, rfl⟩
            refine ⟨fun hlt2 => ?_, fun hge2 => ?_⟩
            . have htX : t < X.length := by omega
              have hg1 : gl (prt p m v f S.pv.length t x2) (t : Int) = row x2 t := by
                show row (prt p m v f S.pv.length t x2) t = _
                rw [Q7 (by omega), if_neg (by omega)]
              have hg3 : gl (prt p m v f S.pv.length t x2) ((S.pv.length : Nat) : Int) = row x2 S.pv.length := by
                show row (prt p m v f S.pv.length t x2) S.pv.length = _
                rw [Q7 (by omega), if_neg (by omega)]
              rw [hg1, hg3]
              have hft : Ng p m (gi (row x2 t) (k : Int)) = f t := by rw [<- hf]; rfl
              have hent : El p m (vo (row x2 t) k) := Jbe (Qa hel2 t) (by rw [hx2 t htX]; exact hkc)
              have hz := Jut hF hent
              refine ⟨fun x _ => x = prt p m v f S.pv.length (t + 1) x2, ⟨fun hne2 => ?_, fun he2 => ?_⟩, ?_⟩
              . have hne3 : t ≠ S.pv.length := fun e => hne2 (by rw [e])
                refine ⟨⟨by omega, by omega⟩, ⟨by omega, by rw [hx2 t htX]; omega⟩, fun hnz => ?_, fun hnz => ?_⟩
                . refine ⟨⟨by omega, by omega⟩, ⟨by omega, by omega⟩, ⟨by omega, by rw [hx2 t htX]; omega⟩, _, Jq2 hF rfl, ⟨by omega, by omega⟩, _, Jqp hF (by rw [hx2 t htX, hx2 _ hcur]; exact Nat.le_refl _) (by rw [hx2 t htX]; omega) rfl, ⟨by omega, by omega⟩, ?_⟩
                  rw [<- Jc5 (by omega) hne3, <- hft]
                  show _ = (prt p m v f S.pv.length t x2).set t (adx p m v (row x2 t) (Ng p m (vo (row x2 t) k)) (row x2 S.pv.length))
                  unfold adx
                  rw [if_neg (fun h0 => hnz (hz.1 h0))]
                  rfl
                . have hnz' : vo (row x2 t) k = 0 := Classical.not_not.1 hnz
                  rw [<- Jc5 (by omega) hne3, <- hft]
                  show prt p m v f S.pv.length t x2 = (prt p m v f S.pv.length t x2).set t (adx p m v (row x2 t) (Ng p m (vo (row x2 t) k)) (row x2 S.pv.length))
                  unfold adx
                  rw [if_pos (hz.2 hnz')]
                  refine QX (by rw [List.length_set]) fun i hi => ?_
                  rw [Qp]
                  split
                  . rename_i hh; rw [<- hh.1]; exact hg1
                  . rfl
              . have he3 : t = S.pv.length := by have := Classical.not_not.1 he2; omega
                subst he3
                exact prt_same.symm
              . rintro _ _ rfl
                refine ⟨Jz (by omega) (by omega), ⟨t + 1, by push_cast; rfl, by omega, rfl⟩, ?_⟩
                show ((X.length : Int) - ((t : Int) + 1)).toNat < ((X.length : Int) - (t : Int)).toNat
                omega
            . have hte : t = X.length := by omega
              subst hte
              have e1 := Jis (p := p) (m := m) (v := v) (X := x2) f S.pv.length
              rw [show x2.length = X.length by omega] at e1
              refine ⟨by omega, Jz (by omega) (by omega), ?_⟩
              rw [hsucc, e1, hxs, hps]
              exact ⟨rfl, rfl, by rw [List.length_append]; simp⟩
      . rintro _ _ _ _ _ _ _ ⟨rfl, rfl, rfl⟩
        refine ⟨Jz (by omega) (by omega), ⟨k + 1, by push_cast; rfl, by omega, rfl, rfl, rfl⟩, ?_⟩
        show ((cols : Int) - ((k : Int) + 1)).toNat < ((cols : Int) - (k : Int)).toNat
        omega
    . have hst := hstop (by omega) (cols - k)
      rw [show k + (cols - k) = cols by omega] at hst
      rw [hst]; exact ⟨rfl, rfl⟩
    . have hkc : k = cols := by omega
      subst hkc
      exact ⟨by rw [hSk], by rw [hSk]⟩
  . rintro _ _ ⟨rfl, rfl⟩
    exact h
end
end Go.Proofs.Ytiboieijhehjnaa
set_option linter.unusedVariables false
set_option linter.unusedSimpArgs false
namespace Go.Proofs.Ytiboieijhehjnaa
section
variable {F : GFv} {p m v g : Nat} {P M : Int} {mf : List Int} {X Y : List (List Int)} {C : Int}
theorem Jjz {Q : List (List Int) × List Int -> Prop} (hF : FV P M mf p m v) (hs : shp C X) (he : Els p m X) (h : Q (J9 p m v C X, JL p m v C X)) : Jbl P M mf X C Q := by
  obtain ⟨h1, h2, h3⟩ := QW hs
  show Yz P M mf X C _
  rw [<- h3]
  refine Jih hF (by omega) (by omega) (Zr hs) he ?_
  have h4 := Jai (p := p) (m := m) (v := v) hs
  exact ⟨⟨by omega, by have := h4.pl; have := h4.xl; show ((ec p m v C X).pv.length : Int) <= ((ec p m v C X).X.length : Nat); omega⟩, h⟩
end
end Go.Proofs.Ytiboieijhehjnaa
set_option linter.unusedVariables false
set_option linter.unusedSimpArgs false
namespace Go.Proofs.Ytiboieijhehjnaa
/-! ### pivots ascend -/
section
variable {p m v : Nat}
end
section
variable {F : GFv} {p m v g : Nat} {P M : Int} {mf : List Int} {X Y : List (List Int)} {C : Int}
theorem Jj8 (hq : 1 < p ^ m) (hp : 0 < p) (C : Nat) (R : List (List Int)) (pv : List Int) (t : Nat) : ∀ k, Elr p m (YM p m C R pv t k)
  | 0 => fun x hx => by
    rcases List.mem_or_eq_of_mem_set hx with h | h
    . rw [List.eq_of_mem_replicate h]; exact Jco (q := 0) (by omega)
    . rw [h]; exact Jco (q := 1) (by omega)
  | k + 1 => fun x hx => by
    rw [YG] at hx
    rcases List.mem_or_eq_of_mem_set hx with h | h
    . exact Jj8 hq hp C R pv t k x h
    . rw [h]; exact Jco (Y3 hp _)
theorem Jg8 (hF : FV P M mf p m v) : Els p m (Jak p m v C X) := fun r hr => by
  obtain ⟨c, _, _, rfl⟩ := Jfm _ _ _ _ r hr
  exact Jj8 (by have := hF.ring.q2; omega) (by have := hF.p2; omega) _ _ _ _ _
end
end Go.Proofs.Ytiboieijhehjnaa
set_option linter.unusedVariables false
set_option linter.unusedSimpArgs false
namespace Go.Proofs.Ytiboieijhehjnaa
section
variable {p m v g : Nat} {P M : Int} {mf : List Int} {X Y : List (List Int)} {C : Int} {w : Nat}
theorem Jvb (hF : FV P M mf p m v) {c r : Nat} {pv nR : Nat -> Nat} (hc : c < w) (hpv : ∀ i, i < r -> pv i < w) (hn : ∀ i, nR i < p ^ m) : Lin p m v w (cof p m v c r pv nR) where
  lt a := hF.ring.Al _ _
  cg h := by
    unfold cof
    rw [h c hc, Yb r fun i hi => by rw [h _ (hpv i hi)]]
  ad {a b x} ha hb hx := by
    have R := hF.ring
    unfold cof
    have e : (fun i => Ju p m (dv p v) (nR i) (JX p m (a (pv i)) (Ju p m (dv p v) x (b (pv i))))) = fun i => JX p m (Ju p m (dv p v) (nR i) (a (pv i))) (Ju p m (dv p v) x (Ju p m (dv p v) (nR i) (b (pv i)))) := funext fun i => by
      rw [R.Md (hn i) (ha _) (R.Ml _ _), <- R.Ma (hn i) hx (hb _), R.Mc (hn i) hx, R.Ma hx (hn i) (hb _)]
    rw [e, Jgy hF (fun i => R.Ml _ _) (fun i => R.Ml _ _) hx, mix hF (ha c) (R.Ml _ _) (YD hF _ _) (R.Ml _ _), <- R.Md hx (hb c) (YD hF _ _)]
  ml {a x} ha hx := by
    have R := hF.ring
    unfold cof
    have e : (fun i => Ju p m (dv p v) (nR i) (Ju p m (dv p v) x (a (pv i)))) = fun i => Ju p m (dv p v) x (Ju p m (dv p v) (nR i) (a (pv i))) := funext fun i => by
      rw [<- R.Ma (hn i) hx (ha _), R.Mc (hn i) hx, R.Ma hx (hn i) (ha _)]
    rw [e, Jsj hF (fun i => R.Ml _ _) hx, <- R.Md hx (ha c) (YD hF _ _)]
end
end Go.Proofs.Ytiboieijhehjnaa
set_option linter.unusedVariables false
set_option linter.unusedSimpArgs false
namespace Go.Proofs.Ytiboieijhehjnaa
section
variable {p m v g : Nat} {P M : Int} {mf : List Int} {X Y : List (List Int)} {C : Int} {w : Nat}
/-- each row is the combination of the canonical rows by its entries at the pivots -/
theorem Jsy (hF : FV P M mf p m v) (hs : shp C X) (he : Els p m X) {t c : Nat} (ht : t < X.length) (hc : c < C.toNat) :
    en p m (row X t) c = fs p m (fun i => Ju p m (dv p v) (en p m (row X t) (vo (JL p m v C X) i).toNat) (en p m (row (J9 p m v C X) i) c)) (JL p m v C X).length := by
  have R := hF.ring
  have q1 : 1 < p ^ m := R.q2
  have hp : 0 < p := by have := hF.p2; omega
  obtain ⟨g, G⟩ := Jgx hF
  have hS := Jai (p := p) (m := m) (v := v) hs
  have red := Jjj hF hs he
  have hasc := Q2 (p := p) (m := m) (v := v) C X
  have hr : (JL p m v C X).length <= X.length := QT hs
  have hrow : ∀ i, i < (JL p m v C X).length -> row (J9 p m v C X) i = row (ec p m v C X).X i := fun i hi => Ja3 hi
  have hneg : ∀ y, y < p ^ m -> Q8 p m y < p ^ m := fun y _ => Y3 hp y
  have L := Jvb (w := C.toNat) hF (c := c) (r := (JL p m v C X).length) (pv := fun i => (vo (JL p m v C X) i).toNat) (nR := fun i => Q8 p m (en p m (row (ec p m v C X).X i) c)) hc (fun i hi => by have := hasc.1 i hi; show (vo (JL p m v C X) i).toNat < _; omega) (fun i => hneg _ (Qm hF _ _))
  have hann := Jg9 G hF L (Zr hs) he C.toNat (fun s hsl => by
    have hsl' : s < X.length := by have := hS.xl; exact Nat.lt_of_lt_of_eq hsl this
    show cof _ _ _ _ _ _ _ (en p m (row (ec p m v C X).X s)) = 0
    unfold cof
    by_cases hsr : s < (JL p m v C X).length
    . have hd : ∀ i, i < (JL p m v C X).length -> en p m (row (ec p m v C X).X s) (vo (JL p m v C X) i).toNat = if s = i then 1 else 0 := fun i hi => by
        have := red.one i hi s hsl
        by_cases e : s = i
        . rw [if_pos e] at this ⊢; exact YV hF q1 this
        . rw [if_neg e] at this ⊢; exact YV hF (by omega) this
      have h9 := Jed hF (f := fun i => Ju p m (dv p v) (Q8 p m (en p m (row (ec p m v C X).X i) c)) (en p m (row (ec p m v C X).X s) (vo (JL p m v C X) i).toNat)) (j := s) (R.Ml _ _) _ hsr fun i hi hne => by
        show Ju p m (dv p v) _ _ = 0
        rw [hd i hi, if_neg (fun e => hne e.symm), R.M0 (hneg _ (Qm hF _ _))]
      show JX p m _ (fs p m (fun i => Ju p m (dv p v) (Q8 p m (en p m (row (ec p m v C X).X i) c)) (en p m (row (ec p m v C X).X s) (vo (JL p m v C X) i).toNat)) (JL p m v C X).length) = 0
      rw [h9]
      show JX p m _ (Ju p m (dv p v) _ _) = 0
      rw [hd s hsr, if_pos rfl, R.M1 (hneg _ (Qm hF _ _))]
      exact Ze hp (Qm hF _ _)
    . have hz : ∀ d, d < C.toNat -> en p m (row (ec p m v C X).X s) d = 0 := fun d hd => YV hF (by omega) (red.lo s (by show (JL p m v C X).length <= s; omega) hsl d hd)
      rw [hz c hc, Y0 hF _ fun i hi => by
        show Ju p m (dv p v) _ _ = 0
        rw [hz (vo (JL p m v C X) i).toNat (by have := hasc.1 i hi; omega), R.M0 (hneg _ (Qm hF _ _))], R.Az (by omega)]) t ht
  unfold cof at hann
  have hG := YD hF (fun i => Ju p m (dv p v) (en p m (row X t) (vo (JL p m v C X) i).toNat) (en p m (row (J9 p m v C X) i) c)) (JL p m v C X).length
  have hN := YD hF (fun i => Ju p m (dv p v) (Q8 p m (en p m (row (ec p m v C X).X i) c)) (en p m (row X t) (vo (JL p m v C X) i).toNat)) (JL p m v C X).length
  have hGN : JX p m (fs p m (fun i => Ju p m (dv p v) (en p m (row X t) (vo (JL p m v C X) i).toNat) (en p m (row (J9 p m v C X) i) c)) (JL p m v C X).length) (fs p m (fun i => Ju p m (dv p v) (Q8 p m (en p m (row (ec p m v C X).X i) c)) (en p m (row X t) (vo (JL p m v C X) i).toNat)) (JL p m v C X).length) = 0 := by
    have h1 := Jgy hF (f := fun i => Ju p m (dv p v) (en p m (row X t) (vo (JL p m v C X) i).toNat) (en p m (row (J9 p m v C X) i) c)) (h := fun i => Ju p m (dv p v) (Q8 p m (en p m (row (ec p m v C X).X i) c)) (en p m (row X t) (vo (JL p m v C X) i).toNat)) (x := 1) (fun i => R.Ml _ _) (fun i => R.Ml _ _) q1 (JL p m v C X).length
    rw [R.Mc q1 hN, R.M1 hN] at h1
    rw [<- h1]
    refine Y0 hF _ fun i hi => ?_
    show JX p m (Ju p m (dv p v) _ _) (Ju p m (dv p v) 1 (Ju p m (dv p v) _ _)) = 0
    have ha := Qm hF (row X t) (vo (JL p m v C X) i).toNat
    have hb := Qm hF (row (ec p m v C X).X i) c
    rw [R.Mc q1 (R.Ml _ _), R.M1 (R.Ml _ _), hrow i hi, R.Mc (hneg _ hb) ha, <- R.Md ha hb (hneg _ hb), Ze hp hb, R.M0 ha]
  have hx := Qm hF (row X t) c
  generalize fs p m (fun i => Ju p m (dv p v) (en p m (row X t) (vo (JL p m v C X) i).toNat) (en p m (row (J9 p m v C X) i) c)) (JL p m v C X).length = G1 at *
  generalize fs p m (fun i => Ju p m (dv p v) (Q8 p m (en p m (row (ec p m v C X).X i) c)) (en p m (row X t) (vo (JL p m v C X) i).toNat)) (JL p m v C X).length = N1 at *
  generalize en p m (row X t) c = a at *
  calc a = JX p m a (JX p m G1 N1) := by rw [hGN, R.Az hx]
    _ = JX p m G1 (JX p m a N1) := by rw [<- R.Aa hx hG hN, R.Ac a G1, R.Aa hG hx hN]
    _ = G1 := by rw [hann, R.Az hG]
end
end Go.Proofs.Ytiboieijhehjnaa
set_option linter.unusedVariables false
set_option linter.unusedSimpArgs false
namespace Go.Proofs.Ytiboieijhehjnaa
section
variable {p m v : Nat} {P M : Int} {mf : List Int} {X Y : List (List Int)} {C : Int} {w : Nat}
/-- rows with columns of their own are independent -/
theorem Jsx (hF : FV P M mf p m v) {B : List (List Int)} (hs : shp C B) (he : Els p m B) (fc : Nat -> Nat) (hf : ∀ j, j < B.length -> fc j < C.toNat) (hu : ∀ i j, i < B.length -> j < B.length -> vo (row B i) (fc j) = if i = j then 1 else 0) : (JL p m v C B).length = B.length := by
  have R := hF.ring
  have q1 : 1 < p ^ m := R.q2
  have hle := QT (p := p) (m := m) (v := v) hs
  rcases Nat.lt_or_ge (JL p m v C B).length B.length with hlt | h
  . exfalso
    have hB := Yf hs
    -- the entries at the pivots, as a matrix of fewer rows than columns
    have hA : ∃ A : List (List Int), A = (List.range (JL p m v C B).length).map fun i => (List.range B.length).map fun j => vo (row B j) (vo (JL p m v C B) i).toNat := ⟨_, rfl⟩
    obtain ⟨A, hA⟩ := hA
    have hAl : A.length = (JL p m v C B).length := by rw [hA]; simp
    have hAr : ∀ i, i < A.length -> row A i = (List.range B.length).map fun j => vo (row B j) (vo (JL p m v C B) i).toNat := fun i hi => by rw [hA]; exact Z8 (by omega)
    have hAe : ∀ i, i < A.length -> ∀ j, j < B.length -> vo (row A i) j = vo (row B j) (vo (JL p m v C B) i).toNat := fun i hi j hj => by rw [hAr i hi]; exact Jfy hj
    have hAs : shp (B.length : Int) A := ⟨by omega, by omega, by omega, fun r hr => by
      obtain ⟨i, hi, rfl⟩ := Jad hr
      rw [hAr i hi]; simp⟩
    have hasc := Q2 (p := p) (m := m) (v := v) C B
    have hAE : Els p m A := Zf fun i hi => Jjd fun j hj => by
      rw [hAr i hi, List.length_map, List.length_range] at hj
      rw [hAe i hi j hj]
      have h5 := hasc.1 i (by omega)
      exact Qa he j _ (Jaz (by rw [Q6 hs hj]; omega))
    have hal := QT (p := p) (m := m) (v := v) hAs
    have hascA := Q2 (p := p) (m := m) (v := v) (B.length : Int) A
    have e0 : ((B.length : Nat) : Int).toNat = B.length := by omega
    have hbl := Jg7 (p := p) (m := m) (J9 p m v (B.length : Int) A) hascA
    obtain ⟨fa, h1, _⟩ := Jbk (p := p) (m := m) (n := ((B.length : Nat) : Int).toNat) (J9 p m v (B.length : Int) A) (JL p m v (B.length : Int) A) ((B.length : Nat) : Int).toNat
    obtain ⟨ht, hnp, _⟩ := h1 0 (by omega)
    generalize fa 0 = t at *
    have hnp' : ∀ i, i < (JL p m v (B.length : Int) A).length -> (vo (JL p m v (B.length : Int) A) i).toNat ≠ t := fun i hi => by
      have h5 := Jgu hnp i hi
      have h6 := hascA.1 i hi
      omega
    have hann := Jio hF hAs hAE ht hnp'
    have hut : en p m (YM p m ((B.length : Nat) : Int).toNat (J9 p m v (B.length : Int) A) (JL p m v (B.length : Int) A) t (JL p m v (B.length : Int) A).length) t = 1 := YV hF q1 (Jnv ht _ hnp')
    have hul := Qm hF (YM p m ((B.length : Nat) : Int).toNat (J9 p m v (B.length : Int) A) (JL p m v (B.length : Int) A) t (JL p m v (B.length : Int) A).length)
    generalize en p m (YM p m ((B.length : Nat) : Int).toNat (J9 p m v (B.length : Int) A) (JL p m v (B.length : Int) A) t (JL p m v (B.length : Int) A).length) = u at *
    rw [e0] at hann ht
    have hl := hf t ht
    -- the sum of the rows by u, at t's own column, in two ways
    have s1 : fs p m (fun j => Ju p m (dv p v) (u j) (en p m (row B j) (fc t))) B.length = 1 := by
      have h5 : ∀ j, j < B.length -> en p m (row B j) (fc t) = if j = t then 1 else 0 := fun j hj => by
        have := hu j t hj ht
        by_cases e : j = t
        . rw [if_pos e] at this ⊢; exact YV hF q1 this
        . rw [if_neg e] at this ⊢; exact YV hF (by omega) this
      rw [Jed hF (f := fun j => Ju p m (dv p v) (u j) (en p m (row B j) (fc t))) (j := t) (R.Ml _ _) _ ht fun j hj hne => by
        show Ju p m (dv p v) _ _ = 0
        rw [h5 j hj, if_neg hne, R.M0 (hul j)]]
      show Ju p m (dv p v) _ _ = 1
      rw [h5 t ht, if_pos rfl, hut, R.M1 q1]
    have s2 : fs p m (fun j => Ju p m (dv p v) (u j) (en p m (row B j) (fc t))) B.length = 0 := by
      rw [Yb (h := fun j => Ju p m (dv p v) (u j) (fs p m (fun i => Ju p m (dv p v) (en p m (row B j) (vo (JL p m v C B) i).toNat) (en p m (row (J9 p m v C B) i) (fc t))) (JL p m v C B).length)) B.length fun j hj => by rw [Jsy hF hs he hj hl]]
      rw [Jja hF (A := fun i j => en p m (row B j) (vo (JL p m v C B) i).toNat) (R' := fun i => en p m (row (J9 p m v C B) i) (fc t)) hul (fun i j => Qm hF _ _) (fun i => Qm hF _ _)]
      refine Y0 hF _ fun i hi => ?_
      show Ju p m (dv p v) _ _ = 0
      have h5 : fs p m (fun j => Ju p m (dv p v) (u j) (en p m (row B j) (vo (JL p m v C B) i).toNat)) B.length = 0 := by
        have h6 := hann i (by omega)
        unfold dt at h6
        rw [<- h6]
        refine Yb _ fun j hj => ?_
        show Ju p m (dv p v) _ _ = Ju p m (dv p v) _ _
        congr 1
        unfold en
        rw [hAe i (by omega) j hj]
      rw [h5, R.M0 (Qm hF _ _)]
    rw [s1] at s2; exact absurd s2 (by decide)
  . omega
/-- rank and nullity -/
theorem Js6 (hF : FV P M mf p m v) (hs : shp C X) (he : Els p m X) : (J9 p m v C (Jak p m v C X)).length + (JL p m v C X).length = C.toNat := by
  have hasc := Q2 (p := p) (m := m) (v := v) C X
  obtain ⟨fc, h1, h2⟩ := Jbk (p := p) (m := m) (n := C.toNat) (J9 p m v C X) (JL p m v C X) C.toNat
  have hb := Jg7 (p := p) (m := m) (J9 p m v C X) hasc
  have hnp : ∀ j, j < (Jak p m v C X).length -> ∀ i, i < (JL p m v C X).length -> (vo (JL p m v C X) i).toNat ≠ fc j := fun j hj i hi => by
    have h5 := Jgu (h1 j hj).2.1 i hi
    have h6 := hasc.1 i hi
    omega
  have h5 := Jsx hF (B := Jak p m v C X) (ZN hs) (Jg8 hF) fc (fun j hj => (h1 j hj).1) fun i j hi hj => by
    have e : row (Jak p m v C X) i = YM p m C.toNat (J9 p m v C X) (JL p m v C X) (fc i) (JL p m v C X).length := (h1 i hi).2.2
    rw [e]
    by_cases e2 : i = j
    . subst e2; rw [if_pos rfl]; exact Jnv (h1 i hi).1 _ (hnp i hi)
    . rw [if_neg e2]
      refine Jf9 ?_ _ (hnp j hj)
      rcases Nat.lt_or_ge i j with h | h
      . have := h2 i j h hj; omega
      . have := h2 j i (by omega) hi; omega
  rw [Yc (ZN hs), h5]
  exact hb
/-- a row of the kernel's basis is taken to 0 with each row -/
theorem Js7 (hF : FV P M mf p m v) (hs : shp C X) (he : Els p m X) {t : Nat} (ht : t < X.length) : Ann p m (dt p m v C.toNat (en p m (row X t))) (J9 p m v C (Jak p m v C X)) := by
  have R := hF.ring
  have hasc := Q2 (p := p) (m := m) (v := v) C X
  refine (Jdj hF (ZN hs) (Jg8 hF) (Jbg hF fun c => Qm hF _ c)).2 fun j hj => ?_
  obtain ⟨fc, h1, h2⟩ := Jbk (p := p) (m := m) (n := C.toNat) (J9 p m v C X) (JL p m v C X) C.toNat
  have e : row (Jak p m v C X) j = YM p m C.toNat (J9 p m v C X) (JL p m v C X) (fc j) (JL p m v C X).length := (h1 j hj).2.2
  rw [e]
  have := Jio hF hs he (h1 j hj).1 (fun i hi => by
    have h5 := Jgu (h1 j hj).2.1 i hi
    have h6 := hasc.1 i hi
    omega) t ht
  rw [<- this]
  refine Yb _ fun c _ => ?_
  exact R.Mc (Qm hF _ _) (Qm hF _ _)
end
end Go.Proofs.Ytiboieijhehjnaa
set_option linter.unusedVariables false
set_option linter.unusedSimpArgs false
namespace Go.Proofs.Ytiboieijhehjnaa
section
variable {p m v : Nat} {P M : Int} {mf : List Int} {X Y : List (List Int)} {C : Int} {w : Nat}
theorem Jua {Q : List (List Int) -> Prop} (hF : FV P M mf p m v) (hs : shp C X) (he : Els p m X) (h : Q (J9 p m v C (Jak p m v C X))) : Jfr P M mf X C Q := by
  obtain ⟨h1, h2, h3⟩ := QW hs
  have hpl := QT (p := p) (m := m) (v := v) hs
  have hcl := Yc (p := p) (m := m) (v := v) hs
  have hasc := Q2 (p := p) (m := m) (v := v) C X
  have hrow := fun i (hi : i < (J9 p m v C X).length) => Jg6 (p := p) (m := m) (v := v) hs hi
  have hfin := Jjz (Q := fun q => Q q.1) hF (ZN (p := p) (m := m) (v := v) hs) (Jg8 hF) h
  refine Jjz hF hs he ⟨⟨by omega, by omega, by omega⟩, fun x z => ∃ k : Nat, z = k /\ k <= C.toNat /\ x.length = C.toNat /\ ∀ j, j < k -> vo x j = -1, fun _ z => (C - z).toNat, ⟨0, rfl, Nat.zero_le _, by simp, fun j hj => by omega⟩, ?_⟩
  unfold Jak at hfin
  generalize J9 p m v C X = R at *
  generalize JL p m v C X = pv at *
  rintro x _ ⟨k, rfl, hk, hx, hk1⟩
  refine ⟨fun hlt => ⟨⟨by omega, by omega⟩, Jz (by omega) (by omega), ⟨k + 1, by push_cast; rfl, by omega, by rw [Qy, List.length_set]; exact hx, fun j hj => ?_⟩, by dsimp only; omega⟩, fun hge => ?_⟩
  . rw [Qy, J7]
    by_cases e : k = j
    . rw [if_pos ⟨e, by omega⟩]
    . rw [if_neg (fun hh => e hh.1)]; exact hk1 j (by omega)
  have hk1' : ∀ j, j < C.toNat -> vo x j = -1 := fun j hj => hk1 j (by omega)
  refine ⟨fun y z => ∃ i : Nat, z = i /\ i <= pv.length /\ y.length = C.toNat /\ ∀ d, d < C.toNat -> (0 <= vo y d ↔ ∃ j, j < i /\ vo pv j = (d : Int)), fun _ z => (pv.length - z).toNat, ⟨0, rfl, Nat.zero_le _, hx, fun d hd => ⟨fun hh => by rw [hk1' d hd] at hh; exact absurd hh (by decide), fun ⟨j, hj, _⟩ => absurd hj (Nat.not_lt_zero _)⟩⟩, ?_⟩
  rintro y _ ⟨i, rfl, hi, hy, hy1⟩
  refine ⟨fun hlt => ?_, fun hge => ?_⟩
  . have hpi := hasc.1 i (by omega)
    have hpi' : 0 <= gi pv (i : Int) /\ gi pv (i : Int) < ((C.toNat : Nat) : Int) := hpi
    refine ⟨⟨by omega, by omega⟩, hpi', Jz (by omega) (by omega), ⟨i + 1, by push_cast; rfl, by omega, ?_, fun d hd => ?_⟩, by dsimp only; omega⟩
    . show (y.set _ _).length = _
      rw [List.length_set]; exact hy
    . show 0 <= vo (y.set (vo pv i).toNat (i : Int)) d ↔ _
      rw [J7]
      by_cases e : (vo pv i).toNat = d
      . rw [if_pos ⟨e, by omega⟩]
        exact ⟨fun _ => ⟨i, by omega, by omega⟩, fun _ => by omega⟩
      . rw [if_neg (fun hh => e hh.1), hy1 d hd]
        refine ⟨fun ⟨j, hj, hj'⟩ => ⟨j, by omega, hj'⟩, fun ⟨j, hj, hj'⟩ => ⟨j, ?_, hj'⟩⟩
        rcases Nat.lt_or_ge j i with h5 | h5
        . exact h5
        . rw [show j = i by omega] at hj'; omega
  have hy2 : ∀ d, d < C.toNat -> (0 <= vo y d ↔ inP pv d = true) := fun d hd => by
    rw [hy1 d hd, Jde, show i = pv.length by omega]
  refine ⟨fun x z => ∃ k : Nat, z = k /\ k <= C.toNat /\ x = bas p m C.toNat R pv k, fun _ z => (C - z).toNat, ⟨0, rfl, Nat.zero_le _, rfl⟩, ?_⟩
  rintro _ _ ⟨k, rfl, hk, rfl⟩
  have hbl := Jfn (p := p) (m := m) C.toNat R pv k
  refine ⟨fun hlt => ⟨fun x => x = bas p m C.toNat R pv (k + 1), ⟨⟨by omega, by omega⟩, fun hin => ?_, fun hin => ?_⟩, ?_⟩, fun hge => ?_⟩
  . rw [YQ, if_pos ((hy2 k (by omega)).1 hin)]
  . refine ⟨⟨by omega, by omega, by omega⟩, ⟨by omega, by omega⟩, fun x z => ∃ i : Nat, z = i /\ i <= pv.length /\ x = YM p m C.toNat R pv k i, fun _ z => (pv.length - z).toNat, ⟨0, rfl, Nat.zero_le _, rfl⟩, ?_⟩
    rintro _ _ ⟨i, rfl, hi', rfl⟩
    refine ⟨fun hlt2 => ?_, fun hge2 => ⟨by omega, ?_⟩⟩
    . have hpi := hasc.1 i (by omega)
      have hpi' : 0 <= gi pv (i : Int) /\ gi pv (i : Int) < ((C.toNat : Nat) : Int) := hpi
      refine ⟨⟨by omega, by omega⟩, ⟨by omega, by omega⟩, ⟨by omega, by show (k : Int) < ((row R i).length : Int); rw [hrow i (by omega)]; omega⟩, _, Jq2 hF rfl, hpi', Jz (by omega) (by omega), ⟨i + 1, by push_cast; rfl, by omega, ?_⟩, by dsimp only; omega⟩
      rw [YG]; rfl
    . rw [YQ, if_neg (fun hh => hin ((hy2 k (by omega)).2 hh)), show i = pv.length by omega]
  . rintro _ rfl
    exact ⟨Jz (by omega) (by omega), ⟨k + 1, by push_cast; rfl, by omega, rfl⟩, by dsimp only; omega⟩
  . rw [show k = C.toNat by omega]; exact hfin
theorem Jhr {Q : Int × List (List Int) × Int -> Prop} (hb : mck P M mf C X ≠ 0 -> Q (0, [], mck P M mf C X))
    (h : ∀ p m v, FV P M mf p m v -> shp C X -> Els p m X -> mck P M mf C X = 0 -> Q (C, J9 p m v C (Jak p m v C X), 0)) : ZS P M mf C X Q := by
  refine Jhq ⟨fun h0 => hb h0, fun h0 => ?_⟩
  have h0' : mck P M mf C X = 0 := Classical.not_not.1 h0
  obtain ⟨⟨p, m, v, hF⟩, h2, h3⟩ := Ja9 h0'
  exact ⟨_, Jua hF h2 ((QR hF).1 h3) rfl, h p m v hF h2 ((QR hF).1 h3) h0'⟩
end
theorem Jeb (P M : Int) (mf : List Int) (C : Int) (X : List (List Int)) : Jem P M mf C X (fun b => b = true) := by
  refine YW ⟨fun h => absurd h (by decide), fun _ => Jig ⟨by omega, by omega⟩ (fun h1 h2 h3 => ⟨fun h => absurd h (by decide), fun _ => ⟨fun _ => ⟨fun _ => YW rfl, fun _ => ?_⟩, fun _ => ?_⟩⟩) ⟨fun _ => YW rfl, fun h => absurd h (by decide)⟩⟩
  all_goals
    refine Jj1 (fun h0 => Jhr (fun _ => ⟨fun h => absurd rfl h, fun _ => Z1 (by simp) (by simp) ⟨fun h => absurd h (by decide), fun _ => ⟨fun _ => rfl, fun h => absurd h0 h⟩⟩⟩) fun p m v hF _ _ h4 => absurd h4 h0) fun p m v hF hs he h0 => Jhr (fun h4 => absurd h0 h4) fun p' m' v' hF' _ _ _ => ?_
    obtain ⟨rfl, rfl, rfl⟩ := hF.uniq3 hF'
    have hks := Jg5 (p := p) (m := m) (v := v) (ZN (p := p) (m := m) (v := v) hs)
    have hkl := Yf hks
    have hbl := Js6 hF hs he
    obtain ⟨hX, hC, hC'⟩ := QW hs
    have hpl := QT (p := p) (m := m) (v := v) hs
    refine ⟨fun h => absurd rfl h, fun _ => Z1 (by omega) (Y9 hks) ⟨fun h => absurd h (by decide), fun _ => ⟨fun h => absurd rfl h, fun _ => ⟨fun z => ∃ s : Nat, z = s /\ s <= (J9 p m v C (Jak p m v C X)).length, fun z => ((J9 p m v C (Jak p m v C X)).length - z).toNat, ⟨0, rfl, Nat.zero_le _⟩, ?_⟩⟩⟩⟩
    rintro _ ⟨s, rfl, hsl⟩
    refine ⟨fun hlt => ⟨⟨by omega, by omega⟩, fun z => ∃ t : Nat, z = t /\ t <= X.length, fun z => (X.length - z).toNat, ⟨0, rfl, Nat.zero_le _⟩, ?_⟩, fun hge => Jfw (fun h4 => absurd h0 h4) fun p' m' v' hF' _ _ _ => ?_⟩
    . rintro _ ⟨t, rfl, ht⟩
      refine ⟨fun hlt2 => ⟨⟨by omega, by omega⟩, ?_⟩, fun hge2 => ⟨Jz (by omega) (by omega), ⟨s + 1, by push_cast; rfl, by omega⟩, by dsimp only; omega⟩⟩
      have hd := Js7 hF hs he (t := t) (by omega) s (by omega)
      have hd' : dt p m v C.toNat (en p m (row (J9 p m v C (Jak p m v C X)) s)) (en p m (row X t)) = 0 := by
        rw [<- hd]
        exact Yb _ fun c _ => hF.ring.Mc (Qm hF _ _) (Qm hF _ _)
      refine Jln hF (w := C.toNat) (Q6 hks (by omega)) (Q6 hs (by omega)) (by omega) ?_
      show (((dt p m v C.toNat (en p m (row (J9 p m v C (Jak p m v C X)) s)) (en p m (row X t)) : Nat) : Int) ≠ 0 -> _) /\ _
      rw [hd']
      exact ⟨fun h => absurd rfl h, fun _ => ⟨Jz (by omega) (by omega), ⟨t + 1, by push_cast; rfl, by omega⟩, by dsimp only; omega⟩⟩
    . obtain ⟨rfl, rfl, rfl⟩ := hF.uniq3 hF'
      exact ⟨fun _ => ⟨Jz (by omega) (by omega), by simp only [decide_eq_true_eq]; omega⟩, fun h => absurd rfl h⟩
end Go.Proofs.Ytiboieijhehjnaa
