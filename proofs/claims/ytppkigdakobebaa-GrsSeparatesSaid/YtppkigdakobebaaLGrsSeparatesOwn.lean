/- What only this law leans on. -/
import Derived.Test.YtppkigdakobebaaGrsChecksG7
namespace Go.Proofs.Ytppkigdakobebaa
open Go.RowKit
abbrev XF13 := Try.func13
end Go.Proofs.Ytppkigdakobebaa
set_option linter.unusedSectionVars false
namespace Go.Proofs.Ytppkigdakobebaa
/-! ### counting: how many of the numbers below n have a property -/
section
open Classical
end
section
variable {α : Type} [Cr α] [Fd α]
/-- so at least n - k + 1 of its values at n places are not 0 -/
theorem Jm2 {f : Pl α} {k n : Nat} (hf : Su f k) (h0 : f ≠ 0) (x : Nat -> α) (hx : ∀ i j, i < j -> j < n -> x i ≠ x j) : n + 1 <= ctp (fun i => vl_ f (x i) ≠ 0) n + k := by
  have h1 := Jfi hf h0 x hx
  have h2 := Jg1 (fun i => vl_ f (x i) = 0) n
  have h3 : ctp (fun i => vl_ f (x i) ≠ 0) n = ctp (fun i => ¬ vl_ f (x i) = 0) n := rfl
  omega
end
end Go.Proofs.Ytppkigdakobebaa
set_option linter.unusedSimpArgs false
set_option linter.unusedVariables false
set_option maxRecDepth 4000
set_option maxHeartbeats 4000000
namespace Go.Proofs.Ytppkigdakobebaa
open Go.RowKit
def Zk (Pd : Int) (Md : Int) (md : List Int) (Kd : Int) (da : List Int) (db : List Int) (y : List Int) (Q : Bool -> Prop) : Prop :=
  QV  (fun r14 => (((!r14) = true) -> Q false) /\ ((!r14) = false -> (Jca Pd Md md Kd da db (fun r17 => (((!r17) = true) -> Q true) /\ ((!r17) = false -> (Qe Pd Md md y Kd (3 : Int) (fun r20 => ((r20 ≠ 0) -> Q true) /\ (¬ (r20 ≠ 0) -> (Q4 y (fun r23 => ((r23 = 0) -> Q true) /\ (¬ (r23 = 0) -> (QC Pd Md md Kd da db y (fun (x26, r27) => ((r27 = 0) -> ((((x26.length : Int) = (da.length : Int)) -> (∃ (r46 : Int), Q4 x26 (fun q => q = r46) /\ ((I64 ((x26.length : Int) - Kd)) /\ ((I64 (((x26.length : Int) - Kd) + (1 : Int))) /\ (Q (decide ((((x26.length : Int) - Kd) + (1 : Int)) <= r46))))))) /\ (¬ ((x26.length : Int) = (da.length : Int)) -> Q false))) /\ (¬ (r27 = 0) -> Q false))))))))))))))
theorem Jew {w : World} {Q : Bool -> Prop} {Pd : Int} {Md : Int} {md : List Int} {Kd : Int} {da : List Int} {db : List Int} {y : List Int} {Bd : Nat} {Ad : Option Addr} {nd kd : Nat} (hd : Rd Bd w 1 Ad nd kd (is md)) {Bda : Nat} {Ada : Option Addr} {nda kda : Nat} (hda : Rd Bda w 1 Ada nda kda (is da)) {Bdb : Nat} {Adb : Option Addr} {ndb kdb : Nat} (hdb : Rd Bdb w 1 Adb ndb kdb (is db)) {By : Nat} {Ay : Option Addr} {ny ky : Nat} (hy : Rd By w 1 Ay ny ky (is y)) (hv : Zk Pd Md md Kd da db y Q) :
    Calls Try.prog 13 #[.agg #[.int .i64 Pd, .int .i64 Md, .slice Ad nd kd, .int .i64 Kd, .slice Ada nda kda, .slice Adb ndb kdb], .slice Ay ny ky] w <| Rt w fun v Qr => ∃ (r0 : Bool), v = .bool r0 /\ Qr = [] /\ Q r0 := by
  have hnd := hd.ilen
  subst hnd
  have hnda := hda.ilen
  subst hnda
  have hndb := hdb.ilen
  subst hndb
  have hny := hy.ilen
  subst hny
  refine Jn <| Jl (vs := [.agg #[nI Pd, nI Md, nS Ad md kd, nI Kd, nS Ada da kda, nS Adb db kdb], nS Ay y ky]) [4] XF13 rfl rfl rfl rfl ?_
  have hS := Jt w
  unfold Zk at hv
  refine Jd 2 <| JH (z := 6) (cs := [nI Pd, nI Md, nS Ad md kd, nI Kd, nS Ada da kda, nS Adb db kdb]) hS rfl rfl rfl rfl ?_
  intro g11 w12 hS
  refine Jc 2 <| Jd 3 <| SL.call hS (Yu  hv) Ji6 rfl Jld rfl rfl ?_
  rintro _ _ w13 ⟨r14, rfl, rfl, hv⟩ hGw13 hS
  have hS := hS.n0
  refine Jc 2 <| Jj rfl (fun c15 => ?_) (fun c15 => ?_)
  .have hv := hv.1 (c15)
   refine Jd 4 <| W.ret <| ⟨_, rfl, Fin.nil ?_⟩
   exact (hS.pick [] rfl).fin rfl ⟨false, rfl, rfl, hv⟩
  have hv := hv.2 (c15)
  refine Jr <| Jd 3 <| JD 0 JQ J7 hS rfl ⟨rfl, rfl⟩ rfl <| SL.call hS (Jgb (hS.ro hd) (hS.ro hda) (hS.ro hdb) hv) XF43 rfl XN43 rfl rfl ?_
  rintro _ _ w16 ⟨r17, rfl, rfl, hv⟩ hGw16 hS
  have hS := hS.n0
  refine Yf rfl rfl <| Jq rfl rfl ?_
  rcases g18 : (!r17) with _ | _
  .have hv := hv.2 g18
   refine WL.take rfl <| Jb (off := 0) Qf rfl rfl <| WL.take rfl <| J4 (cs := [nI Pd, nI Md, nS Ad md kd]) JW J0 rfl rfl (QE (hS.rd (i := 0) rfl) 0 rfl) rfl <| Jc 3 <| Jb (off := 3) Qm rfl rfl <| WL.take rfl <| Jp 0 3 XU3 hS rfl rfl rfl ⟨rfl, rfl⟩ <| WL.take rfl <| SL.call hS (Q6 (hS.ro hd) (hS.ro hy) hv) XF38 rfl XN38 rfl rfl ?_
   rintro _ _ w19 ⟨r20, rfl, rfl, hv⟩ hGw19 hS
   have hS := hS.n0
   refine Jc 3 <| Jq rfl rfl ?_
   by_cases g21 : r20 ≠ 0
   .have hv := hv.1 g21
    rw [decide_eq_true g21]
    refine Jc 5 <| JP rfl <| Jd 4 <| W.ret <| ⟨_, rfl, Fin.nil ?_⟩
    exact (hS.pick [] rfl).fin rfl ⟨true, rfl, rfl, hv⟩
   have hv := hv.2 g21
   rw [decide_eq_false g21]
   refine Jc 3 <| SL.call hS (Zo (hS.ro hy) hv) XF45 rfl XN45 rfl rfl ?_
   rintro _ _ w22 ⟨r23, rfl, rfl, hv⟩ hGw22 hS
   have hS := hS.n0
   refine Jc 4 <| Jj rfl (fun c24 => ?_) (fun c24 => ?_)
   .have hv := hv.1 (oT c24)
    refine Jd 4 <| W.ret <| ⟨_, rfl, Fin.nil ?_⟩
    exact (hS.pick [] rfl).fin rfl ⟨true, rfl, rfl, hv⟩
   have hv := hv.2 (oF c24)
   refine Jr <| Jd 2 <| JD 0 JQ J7 hS rfl ⟨rfl, rfl⟩ rfl <| Jq rfl rfl <| SL.call hS (Q2 (hS.ro hd) (hS.ro hda) (hS.ro hdb) (hS.ro hy) hv) Jle rfl Joa rfl rfl ?_
   rintro _ _ w25 ⟨x26, r27, A28, k29, rfl, rfl, hv⟩ hGw25 hS
   have hS := hS.n1
   refine Jc 6 <| JA ?_
   by_cases g31 : r27 = 0
   .have hv := hv.1 g31
    by_cases g32 : (x26.length : Int) = (da.length : Int)
    .have hv := hv.1 g32
     obtain ⟨r46, o48, hv⟩ := hv
     obtain ⟨o54, hv⟩ := hv
     obtain ⟨o56, hv⟩ := hv
     refine JK 22 [⟨[], [6], true⟩, ⟨[0], [], true⟩, ⟨[1], [], true⟩, ⟨[2], [5], true⟩, ⟨[2, 3], [], true⟩, ⟨[2], [2], true⟩, ⟨[2, 5], [], false⟩, ⟨[2, 6], [], true⟩, ⟨[2, 4, 7], [], true⟩, ⟨[2, 8], [], true⟩, ⟨[9], [], true⟩, ⟨[10], [5], true⟩, ⟨[10, 11], [], false⟩, ⟨[10], [5], true⟩, ⟨[10, 13], [], true⟩, ⟨[10], [2], true⟩, ⟨[10, 15], [], false⟩, ⟨[10, 14, 16], [], true⟩, ⟨[10, 17], [], true⟩, ⟨[10, 12, 18], [], true⟩, ⟨[10, 19], [], true⟩, ⟨[20], [], true⟩] [(32, nI r27), (33, .bool true), (34, .bool true), (35, nS A28 x26 k29), (36, nI (x26.length : Int)), (37, .pointer (some ((⟨g11, 0, none⟩ : Addr).add 4))), (38, nS Ada da kda), (39, nI (da.length : Int)), (40, .bool true), (41, .bool true), (42, .bool true), (43, nS A28 x26 k29), (44, nI r46), (45, nS A28 x26 k29), (46, nI (x26.length : Int)), (47, .pointer (some ((⟨g11, 0, none⟩ : Addr).add 3))), (48, nI Kd), (49, nI ((x26.length : Int) - Kd)), (50, nI (((x26.length : Int) - Kd) + (1 : Int))), (51, .bool (decide ((((x26.length : Int) - Kd) + (1 : Int)) <= r46))), (52, .bool (decide ((((x26.length : Int) - Kd) + (1 : Int)) <= r46))), (4, .bool (decide ((((x26.length : Int) - Kd) + (1 : Int)) <= r46)))] Try.mixed (by kernel_rfl) rfl rfl ?_ ?_
     . refine ⟨oD, ?_, oD, oD, fun _ _ _ => WL.take rfl <| WL.len Jh rfl rfl <| Ja ⟨rfl, rfl⟩, fun _ _ _ => WL.take rfl <| Jb (off := 4) Ju rfl rfl <| Ja ⟨rfl, rfl⟩, og hS fun _ _ hS => WL.take rfl <| Jp 1 4 Jh hS rfl rfl rfl ⟨rfl, rfl⟩ <| Ja ⟨rfl, Jg _⟩, fun _ _ _ => WL.take rfl <| WL.len Jh rfl rfl <| Ja ⟨rfl, rfl⟩, ?_, oD, oD, oD, ?_, oD, fun _ _ _ => WL.take rfl <| WL.len Jh rfl rfl <| Ja ⟨rfl, rfl⟩, fun _ _ _ => WL.take rfl <| Jb (off := 3) Qm rfl rfl <| Ja ⟨rfl, rfl⟩, og hS fun _ _ hS => WL.take rfl <| Jp 1 3 XU3 hS rfl rfl rfl ⟨rfl, rfl⟩ <| Ja ⟨rfl, Jg _⟩, fun _ _ _ => WL.take rfl <| WL.sub (r := ((x26.length : Int) - Kd)) rfl rfl (wr o54) rfl <| Ja ⟨rfl, rfl⟩, fun _ _ _ => WL.take rfl <| WL.add (r := (((x26.length : Int) - Kd) + (1 : Int))) rfl rfl (wr o56) rfl <| Ja ⟨rfl, rfl⟩, oD, oD, oD, trivial⟩
       . intro w34 hE RR
         refine Qn rfl rfl rfl ?_; rw [decide_eq_true g31]
         exact Ja ⟨rfl, rfl⟩
       . intro w41 hE RR
         refine WL.take rfl <| Qn rfl rfl rfl ?_; rw [decide_eq_true g32]
         exact Ja ⟨rfl, rfl⟩
       intro w45 hE RR
       have hS := hS.grow (hE rfl)
       refine WL.take rfl <| WL.call XF45 rfl XN45 rfl rfl (JF (Zo (hS.rd (i := 0) rfl) o48)) ?_
       rintro _ w47 ⟨_, hGw47, hRww47, hNww47, r46q, rfl, rfl, he⟩
       subst he
       exact Ja ⟨rfl, hGw47⟩
     intro w60 hT
     have hS := hS.grow hT
     refine JC <| W.ret <| ⟨_, rfl, Fin.nil ?_⟩
     exact (hS.pick [] rfl).fin rfl ⟨(decide ((((x26.length : Int) - Kd) + (1 : Int)) <= r46)), rfl, rfl, hv⟩
    have hv := hv.2 g32
    refine JK 22 [⟨[], [6], true⟩, ⟨[0], [], true⟩, ⟨[1], [], true⟩, ⟨[2], [5], true⟩, ⟨[2, 3], [], true⟩, ⟨[2], [2], true⟩, ⟨[2, 5], [], false⟩, ⟨[2, 6], [], true⟩, ⟨[2, 4, 7], [], true⟩, ⟨[2, 8], [], true⟩, ⟨[9], [], true⟩, ⟨[10], [5], true⟩, ⟨[10, 11], [], false⟩, ⟨[10], [5], true⟩, ⟨[10, 13], [], true⟩, ⟨[10], [2], true⟩, ⟨[10, 15], [], false⟩, ⟨[10, 14, 16], [], true⟩, ⟨[10, 17], [], true⟩, ⟨[10, 12, 18], [], true⟩, ⟨[10, 19], [], true⟩, ⟨[20], [], true⟩] [(32, nI r27), (33, .bool true), (34, .bool true), (35, nS A28 x26 k29), (36, nI (x26.length : Int)), (37, .pointer (some ((⟨g11, 0, none⟩ : Addr).add 4))), (38, nS Ada da kda), (39, nI (da.length : Int)), (40, .bool false), (41, .bool false), (42, .bool false), (43, undef), (44, undef), (45, undef), (46, undef), (47, undef), (48, undef), (49, undef), (50, undef), (51, undef), (52, .bool false), (4, .bool false)] Try.mixed (by kernel_rfl) rfl rfl ?_ ?_
    . refine ⟨oD, ?_, oD, oD, fun _ _ _ => WL.take rfl <| WL.len Jh rfl rfl <| Ja ⟨rfl, rfl⟩, fun _ _ _ => WL.take rfl <| Jb (off := 4) Ju rfl rfl <| Ja ⟨rfl, rfl⟩, og hS fun _ _ hS => WL.take rfl <| Jp 1 4 Jh hS rfl rfl rfl ⟨rfl, rfl⟩ <| Ja ⟨rfl, Jg _⟩, fun _ _ _ => WL.take rfl <| WL.len Jh rfl rfl <| Ja ⟨rfl, rfl⟩, ?_, oD, oD, oD, oD, oD, oD, oD, oD, oD, oD, oD, oD, oD, trivial⟩
      . intro w62 hE RR
        refine Qn rfl rfl rfl ?_; rw [decide_eq_true g31]
        exact Ja ⟨rfl, rfl⟩
      intro w69 hE RR
      refine WL.take rfl <| Qn rfl rfl rfl ?_; rw [decide_eq_false g32]
      exact Ja ⟨rfl, rfl⟩
    intro w83 hT
    have hS := hS.grow hT
    refine JC <| W.ret <| ⟨_, rfl, Fin.nil ?_⟩
    exact (hS.pick [] rfl).fin rfl ⟨false, rfl, rfl, hv⟩
   have hv := hv.2 g31
   refine JK 22 [⟨[], [6], true⟩, ⟨[0], [], true⟩, ⟨[1], [], true⟩, ⟨[2], [5], true⟩, ⟨[2, 3], [], true⟩, ⟨[2], [2], true⟩, ⟨[2, 5], [], false⟩, ⟨[2, 6], [], true⟩, ⟨[2, 4, 7], [], true⟩, ⟨[2, 8], [], true⟩, ⟨[9], [], true⟩, ⟨[10], [5], true⟩, ⟨[10, 11], [], false⟩, ⟨[10], [5], true⟩, ⟨[10, 13], [], true⟩, ⟨[10], [2], true⟩, ⟨[10, 15], [], false⟩, ⟨[10, 14, 16], [], true⟩, ⟨[10, 17], [], true⟩, ⟨[10, 12, 18], [], true⟩, ⟨[10, 19], [], true⟩, ⟨[20], [], true⟩] [(32, nI r27), (33, .bool false), (34, .bool false), (35, undef), (36, undef), (37, undef), (38, undef), (39, undef), (40, undef), (41, .bool false), (42, .bool false), (43, undef), (44, undef), (45, undef), (46, undef), (47, undef), (48, undef), (49, undef), (50, undef), (51, undef), (52, .bool false), (4, .bool false)] Try.mixed (by kernel_rfl) rfl rfl ?_ ?_
   . refine ⟨oD, ?_, oD, oD, oD, oD, oD, oD, oD, oD, oD, oD, oD, oD, oD, oD, oD, oD, oD, oD, oD, oD, trivial⟩
     intro w85 hE RR
     refine Qn rfl rfl rfl ?_; rw [decide_eq_false g31]
     exact Ja ⟨rfl, rfl⟩
   intro w106 hT
   have hS := hS.grow hT
   refine JC <| W.ret <| ⟨_, rfl, Fin.nil ?_⟩
   exact (hS.pick [] rfl).fin rfl ⟨false, rfl, rfl, hv⟩
  have hv := hv.1 g18
  refine Jc 14 <| JP rfl <| Jd 4 <| W.ret <| ⟨_, rfl, Fin.nil ?_⟩
  exact (hS.pick [] rfl).fin rfl ⟨true, rfl, rfl, hv⟩
end Go.Proofs.Ytppkigdakobebaa
set_option linter.unusedVariables false
set_option linter.unusedSimpArgs false
namespace Go.Proofs.Ytppkigdakobebaa
open Ks
/-! ### generalized Reed-Solomon codes: the laws -/
section
variable {P M : Int} {mf : List Int} {k k' : Ks} {F : GFv} {K : Int} {da db : List Int}
theorem Jij {p : Nat -> Prop} : ∀ {n : Nat}, (∀ i, i < n -> ¬ p i) -> ctp p n = 0
  | 0, _ => rfl
  | n + 1, h => by rw [Jmj (h n (by omega)), Jij fun i hi => h i (by omega)]
theorem Jbq (P M : Int) (mf : List Int) (K : Int) (da db y : List Int) : Zk P M mf K da db y (fun b => b = true) := by
  refine YG (zT (Jjj (fun h24 hz => zT ?_) fun _ => zF rfl))
  obtain ⟨k, hF⟩ := Jh5 (Qs hz)
  have G := Jes hF hz
  have hV := Qs hz
  have k0 := G.k0; have kn := G.kn; have hlen := G.len; have n1 := G.n1
  have ho := hF.ord
  refine Je4 hV (by omega) (fun _ => tq (by decide) rfl) (fun _ _ => tq (by decide) rfl) fun hl hb => tn (by decide) (Z5 (by omega) ⟨fun _ => rfl, fun hw => ?_⟩)
  refine Ym (by omega) (fun c => absurd hz c) (fun _ c => absurd hl c) (fun _ _ c => absurd hb c) fun k2 hF2 G2 _ _ => ?_
  rw [GW_k y hF2 hF]
  refine tq rfl (tq (by rw [QW]) ⟨_, Z5 (by rw [QW]; omega) rfl, ?_⟩)
  rw [QW, GW_wt G]
  have h0 : k.pol y ≠ 0 := fun e => hw ?_
  . have := Jm2 (f := k.pol y) (Yq y) h0 (fun i => k.el (vo da i)) (n := da.length) fun i j hij hj => G.el_ne (by omega) (by omega) (by omega)
    have hle := Jkr (fun i => vl_ (k.pol y) (k.el (vo da i)) ≠ 0) da.length
    exact ⟨Jw (by omega) (by omega), Jw (by omega) (by omega), decide_eq_true (by omega)⟩
  . have z : ctp (fun i => vo y i ≠ 0) y.length = 0 := Jij fun i hi hne => by
      have h1 : k.el (vo y i) = 0 := congrFun e i
      have h2 : vo y i = k.co (k.el (vo y i)) := (Zw (by have := hb _ (Ql.2 ⟨i, hi, rfl⟩); rwa [ho] at this)).symm
      exact hne (by rw [h2, h1]; rfl)
    rw [z]; rfl
end
end Go.Proofs.Ytppkigdakobebaa
