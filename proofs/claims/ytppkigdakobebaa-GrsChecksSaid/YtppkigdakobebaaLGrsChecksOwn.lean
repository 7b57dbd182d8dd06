/- What only this law leans on. -/
import Derived.Test.YtppkigdakobebaaGrsChecksG7
set_option linter.unusedVariables false
namespace Go.Proofs.Ytppkigdakobebaa
open Go.RowKit
theorem Try.nm30 : (Try.f30.name == "runtime.NumGoroutine") = false := by kernel_rfl
end Go.Proofs.Ytppkigdakobebaa
namespace Go.Proofs.Ytppkigdakobebaa
open Go.RowKit
abbrev XF30 := Try.func30
abbrev XF8 := Try.func8
abbrev XN30 := Try.nm30
end Go.Proofs.Ytppkigdakobebaa
set_option linter.unusedSimpArgs false
set_option linter.unusedVariables false
set_option maxRecDepth 4000
set_option maxHeartbeats 4000000
namespace Go.Proofs.Ytppkigdakobebaa
open Go.RowKit
def Jbd (Pd : Int) (Md : Int) (md : List Int) (Kd : Int) (da : List Int) (db : List Int) (Q : Int -> Prop) : Prop :=
  ZX Pd Md md Kd da db (fun q => match q with | (none, r15) => (r15 ≠ 0) -> Q r15 | (some F16, _) => Q 0)
theorem Jng {w : World} {Q : Int -> Prop} {Pd : Int} {Md : Int} {md : List Int} {Kd : Int} {da : List Int} {db : List Int} {Bd : Nat} {Ad : Option Addr} {nd kd : Nat} (hd : Rd Bd w 1 Ad nd kd (is md)) {Bda : Nat} {Ada : Option Addr} {nda kda : Nat} (hda : Rd Bda w 1 Ada nda kda (is da)) {Bdb : Nat} {Adb : Option Addr} {ndb kdb : Nat} (hdb : Rd Bdb w 1 Adb ndb kdb (is db)) (hv : Jbd Pd Md md Kd da db Q) :
    Calls Try.prog 30 #[.agg #[.int .i64 Pd, .int .i64 Md, .slice Ad nd kd, .int .i64 Kd, .slice Ada nda kda, .slice Adb ndb kdb]] w <| Rt w fun v Qr => ∃ (r0 : Int), v = .int .i64 r0 /\ Qr = [] /\ Q r0 := by
  have hnd := hd.ilen
  subst hnd
  have hnda := hda.ilen
  subst hnda
  have hndb := hdb.ilen
  subst hndb
  refine Jn <| Jl (vs := [.agg #[nI Pd, nI Md, nS Ad md kd, nI Kd, nS Ada da kda, nS Adb db kdb]]) [2] XF30 rfl rfl rfl rfl ?_
  have hS := Jt w
  unfold Jbd at hv
  refine Jd 2 <| JH (z := 6) (cs := [nI Pd, nI Md, nS Ad md kd, nI Kd, nS Ada da kda, nS Adb db kdb]) hS rfl rfl rfl rfl ?_
  intro g11 w12 hS
  refine Jc 2 <| Jd 2 <| JD 0 JQ J7 hS rfl ⟨rfl, rfl⟩ rfl <| SL.call hS (Jdy (hS.ro hd) (hS.ro hda) (hS.ro hdb) hv) XF71 rfl XN71 rfl rfl ?_
  rintro _ _ w14 ⟨o, r15, hv, hK⟩ hGw14 hS
  cases o with
  | none =>
   obtain ⟨hn22, rfl, rfl⟩ := hK
   have hv := hv hn22
   have hS := hS.n0
   refine Jc 6 <| Jd 5 <| W.ret <| ⟨_, rfl, Fin.nil ?_⟩
   exact (hS.pick [] rfl).fin rfl ⟨r15, rfl, rfl, hv⟩
  | some F16 =>
   obtain ⟨rfl, ad17, lo18, hi19, rfl, rfl⟩ := hK
   have hS := hS.n1
   refine Jc 6 <| Jd 5 <| W.ret <| ⟨_, rfl, Fin.nil ?_⟩
   exact (hS.pick [] rfl).fin rfl ⟨(0 : Int), rfl, rfl, hv⟩
end Go.Proofs.Ytppkigdakobebaa
set_option linter.unusedVariables false
set_option linter.unusedSimpArgs false
namespace Go.Proofs.Ytppkigdakobebaa
open Ks
section
variable {P M : Int} {mf : List Int} {k : Ks} {F : GFv}
variable {K : Int} {da db : List Int}
theorem Jos {Q : Int -> Prop} (h : Q (gck P M mf K da db)) : Jbd P M mf K da db Q := by
  refine Jfu (fun hn _ => h) fun F k KF hF _ _ _ G => ?_
  rw [G.ck hF] at h; exact h
end
end Go.Proofs.Ytppkigdakobebaa
set_option linter.unusedSimpArgs false
set_option linter.unusedVariables false
set_option maxRecDepth 4000
set_option maxHeartbeats 4000000
namespace Go.Proofs.Ytppkigdakobebaa
open Go.RowKit
def Jcb (Pd : Int) (Md : Int) (md : List Int) (Kd : Int) (da : List Int) (db : List Int) (Q : Bool -> Prop) : Prop :=
  QV  (fun r14 => (((!r14) = true) -> Q false) /\ ((!r14) = false -> ((((300 : Int) < (da.length : Int)) -> Q true) /\ (¬ ((300 : Int) < (da.length : Int)) -> (∃ (r19 : Int), Jbd Pd Md md Kd da db (fun q => q = r19) /\ (∃ (r24 : Int), QO Pd Md md Kd da db (fun q => q = r24) /\ (Q (decide (r19 = r24)))))))))
theorem Jj7 {w : World} {Q : Bool -> Prop} {Pd : Int} {Md : Int} {md : List Int} {Kd : Int} {da : List Int} {db : List Int} {Bd : Nat} {Ad : Option Addr} {nd kd : Nat} (hd : Rd Bd w 1 Ad nd kd (is md)) {Bda : Nat} {Ada : Option Addr} {nda kda : Nat} (hda : Rd Bda w 1 Ada nda kda (is da)) {Bdb : Nat} {Adb : Option Addr} {ndb kdb : Nat} (hdb : Rd Bdb w 1 Adb ndb kdb (is db)) (hv : Jcb Pd Md md Kd da db Q) :
    Calls Try.prog 8 #[.agg #[.int .i64 Pd, .int .i64 Md, .slice Ad nd kd, .int .i64 Kd, .slice Ada nda kda, .slice Adb ndb kdb]] w <| Rt w fun v Qr => ∃ (r0 : Bool), v = .bool r0 /\ Qr = [] /\ Q r0 := by
  have hnd := hd.ilen
  subst hnd
  have hnda := hda.ilen
  subst hnda
  have hndb := hdb.ilen
  subst hndb
  refine Jn <| Jl (vs := [.agg #[nI Pd, nI Md, nS Ad md kd, nI Kd, nS Ada da kda, nS Adb db kdb]]) [2] XF8 rfl rfl rfl rfl ?_
  have hS := Jt w
  unfold Jcb at hv
  refine Jd 2 <| JH (z := 6) (cs := [nI Pd, nI Md, nS Ad md kd, nI Kd, nS Ada da kda, nS Adb db kdb]) hS rfl rfl rfl rfl ?_
  intro g11 w12 hS
  refine Jc 2 <| Jd 3 <| SL.call hS (Yu  hv) Ji6 rfl Jld rfl rfl ?_
  rintro _ _ w13 ⟨r14, rfl, rfl, hv⟩ hGw13 hS
  have hS := hS.n0
  refine Jc 2 <| Jj rfl (fun c15 => ?_) (fun c15 => ?_)
  .have hv := hv.1 (c15)
   refine Jd 4 <| W.ret <| ⟨_, rfl, Fin.nil ?_⟩
   exact (hS.pick [] rfl).fin rfl ⟨false, rfl, rfl, hv⟩
  have hv := hv.2 (c15)
  refine Jr <| Jd 3 <| Jb (off := 4) Ju rfl rfl <| Jp 0 4 Jh hS rfl rfl rfl ⟨rfl, rfl⟩ <| WL.len Jh rfl rfl <| Jc 2 <| Jj rfl (fun c16 => ?_) (fun c16 => ?_)
  .have hv := hv.1 (oT c16)
   refine Jd 4 <| W.ret <| ⟨_, rfl, Fin.nil ?_⟩
   exact (hS.pick [] rfl).fin rfl ⟨true, rfl, rfl, hv⟩
  have hv := hv.2 (oF c16)
  refine Jr <| JA ?_
  obtain ⟨r19, o21, hv⟩ := hv
  obtain ⟨r24, o26, hv⟩ := hv
  refine JK 6 [⟨[], [1], false⟩, ⟨[0], [], false⟩, ⟨[], [1], false⟩, ⟨[2], [], false⟩, ⟨[1, 3], [], true⟩, ⟨[4], [], true⟩] [(9, .agg #[nI Pd, nI Md, nS Ad md kd, nI Kd, nS Ada da kda, nS Adb db kdb]), (10, nI r19), (11, .agg #[nI Pd, nI Md, nS Ad md kd, nI Kd, nS Ada da kda, nS Adb db kdb]), (12, nI r24), (13, .bool (decide (r19 = r24))), (2, .bool (decide (r19 = r24)))] Try.mixed (by kernel_rfl) rfl rfl ?_ ?_
  . refine ⟨og hS fun _ _ hS => JD 0 JQ J7 hS rfl ⟨rfl, rfl⟩ rfl <| Ja ⟨rfl, Jg _⟩, ?_, og hS fun _ _ hS => JD 0 JQ J7 hS rfl ⟨rfl, rfl⟩ rfl <| Ja ⟨rfl, Jg _⟩, ?_, oD, oD, trivial⟩
    . intro w18 hE RR
      have hS := hS.grow (hE rfl)
      refine WL.call XF30 rfl XN30 rfl rfl (JF (Jng (hS.ro hd) (hS.ro hda) (hS.ro hdb) o21)) ?_
      rintro _ w20 ⟨_, hGw20, hRww20, hNww20, r19q, rfl, rfl, he⟩
      subst he
      exact Ja ⟨rfl, hGw20⟩
    intro w23 hE RR
    have hS := hS.grow (hE rfl)
    refine WL.call Joe rfl XN31 rfl rfl (JF (Yr (hS.ro hd) (hS.ro hda) (hS.ro hdb) o26)) ?_
    rintro _ w25 ⟨_, hGw25, hRww25, hNww25, r24q, rfl, rfl, he⟩
    subst he
    exact Ja ⟨rfl, hGw25⟩
  intro w29 hT
  have hS := hS.grow hT
  refine JC <| W.ret <| ⟨_, rfl, Fin.nil ?_⟩
  exact (hS.pick [] rfl).fin rfl ⟨(decide (r19 = r24)), rfl, rfl, hv⟩
end Go.Proofs.Ytppkigdakobebaa
set_option linter.unusedVariables false
set_option linter.unusedSimpArgs false
namespace Go.Proofs.Ytppkigdakobebaa
open Ks
/-! ### generalized Reed-Solomon codes: the laws -/
section
variable {P M : Int} {mf : List Int} {k k' : Ks} {F : GFv} {K : Int} {da db : List Int}
/-- the checks of a description -/
theorem Jex (P M : Int) (mf : List Int) (K : Int) (da db : List Int) : Jcb P M mf K da db (fun b => b = true) :=
  YG (zT ⟨fun _ => rfl, fun _ => ⟨_, Jos rfl, _, Qz rfl, decide_eq_true rfl⟩⟩)
end
end Go.Proofs.Ytppkigdakobebaa
