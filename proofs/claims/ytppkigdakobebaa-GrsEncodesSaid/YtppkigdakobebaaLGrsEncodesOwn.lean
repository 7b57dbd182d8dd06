/- What only this law leans on. -/
import Derived.Test.YtppkigdakobebaaGrsChecksG7
set_option linter.unusedVariables false
namespace Go.Proofs.Ytppkigdakobebaa
open Go.RowKit
theorem Try.nm40 : (Try.f40.name == "runtime.NumGoroutine") = false := by kernel_rfl
theorem Try.nm82 : (Try.f82.name == "runtime.NumGoroutine") = false := by kernel_rfl
end Go.Proofs.Ytppkigdakobebaa
namespace Go.Proofs.Ytppkigdakobebaa
open Go.RowKit
abbrev XF10 := Try.func10
abbrev XF40 := Try.func40
abbrev XF82 := Try.func82
abbrev XN40 := Try.nm40
abbrev XN82 := Try.nm82
end Go.Proofs.Ytppkigdakobebaa
set_option linter.unusedSimpArgs false
set_option linter.unusedVariables false
set_option maxRecDepth 4000
set_option maxHeartbeats 4000000
namespace Go.Proofs.Ytppkigdakobebaa
open Go.RowKit
def Jdd (Pf : Int) (Mf : Int) (mf : List Int) (p : List Int) (x : Int) (Q : Int -> Prop) : Prop :=
  ∃ (I22 : Int -> Int -> Int -> Prop) (μ23 : Int -> Int -> Int -> Nat), I22 0 (1 : Int) (0 : Int) /\ ∀ (z19 : Int) (z20 : Int) (z21 : Int), (I22 z19 z20 z21 -> (((z21 < (p.length : Int)) -> ((0 <= z21 /\ z21 < (p.length : Nat)) /\ (∃ (r36 : Int), YC Pf Mf mf (gi p z21) z20 (fun q => q = r36) /\ (∃ (r40 : Int), ZC Pf Mf mf z19 r36 (fun q => q = r40) /\ (YC Pf Mf mf z20 x (fun r46 => (I64 (z21 + 1)) /\ (I22 r40 r46 (z21 + 1) /\ μ23 r40 r46 (z21 + 1) < μ23 z19 z20 z21))))))) /\ (¬ (z21 < (p.length : Int)) -> Q z19)))
theorem Jpy {w : World} {Q : Int -> Prop} {Pf : Int} {Mf : Int} {mf : List Int} {p : List Int} {x : Int} {Bf : Nat} {Af : Option Addr} {nf kf : Nat} (hf : Rd Bf w 1 Af nf kf (is mf)) {Bp : Nat} {Ap : Option Addr} {np kp : Nat} (hp : Rd Bp w 1 Ap np kp (is p)) (hv : Jdd Pf Mf mf p x Q) :
    Calls Try.prog 82 #[.agg #[.int .i64 Pf, .int .i64 Mf, .slice Af nf kf], .slice Ap np kp, .int .i64 x] w <| Rt w fun v Qr => ∃ (r0 : Int), v = .int .i64 r0 /\ Qr = [] /\ Q r0 := by
  have hnf := hf.ilen
  subst hnf
  have hnp := hp.ilen
  subst hnp
  refine Jn <| Jl (vs := [.agg #[nI Pf, nI Mf, nS Af mf kf], nS Ap p kp, nI x]) [6] XF82 rfl rfl rfl rfl ?_
  have hS := Jt w
  unfold Jdd at hv
  refine Jd 2 <| JH (z := 3) (cs := [nI Pf, nI Mf, nS Af mf kf]) hS rfl rfl rfl rfl ?_
  intro g11 w12 hS
  refine Jc 2 <| Jd 13 <| W.block ?_
  obtain ⟨I22, μ23, hv, hk48⟩ := hv
  refine JE (σ := Int × Int × Int) (fun q w1 => match q with | (z19, z20, z21) => I22 z19 z20 z21 /\ St TT w none w1 [.row 24 3 (nA g11) 1 1 [nI Pf, nI Mf, nS Af mf kf]]) (fun (z19, z20, z21) => [(1, nS Ap p kp), (2, nI x), (3, nP g11), (6, nI 0), (7, nI z19), (8, nI z20), (9, nI z21)]) (fun (z19, z20, z21) => μ23 z19 z20 z21) ((0 : Int), (1 : Int), (0 : Int)) ⟨hv, hS⟩ ⟨rfl, rfl, rfl, rfl, rfl, rfl, rfl, trivial⟩ ?_
  rintro ⟨z19, z20, z21⟩ w24 ⟨hv, hS⟩
  have hv := hk48 z19 z20 z21 hv
  refine Jd 5 <| WL.len Jh rfl rfl <| Jc 2 <| Jj rfl (fun c25 => ?_) (fun c25 => ?_)
  .have hv := hv.1 (oT c25)
   refine Jr <| JA <| W.block <| JA ?_
   obtain ⟨o32, hv⟩ := hv
   obtain ⟨r36, o38, hv⟩ := hv
   obtain ⟨r40, o42, hv⟩ := hv
   refine JK 11 [⟨[], [3], false⟩, ⟨[], [7], true⟩, ⟨[], [3], false⟩, ⟨[], [1], true⟩, ⟨[], [9], true⟩, ⟨[3, 4], [], true⟩, ⟨[5], [], false⟩, ⟨[], [8], true⟩, ⟨[2, 6, 7], [], false⟩, ⟨[0, 1, 8], [], false⟩, ⟨[9], [], true⟩] [(16, .agg #[nI Pf, nI Mf, nS Af mf kf]), (17, nI z19), (18, .agg #[nI Pf, nI Mf, nS Af mf kf]), (19, nS Ap p kp), (20, nI z21), (21, .pointer (some ((JU Ap).add z21.toNat))), (22, nI (gi p z21)), (23, nI z20), (24, nI r36), (25, nI r40), (7, nI r40)] Try.mixed (by kernel_rfl) rfl rfl ?_ ?_
   . refine ⟨og hS fun _ _ hS => JD 0 JW J0 hS rfl ⟨rfl, rfl⟩ rfl <| Ja ⟨rfl, Jg _⟩, oD, og hS fun _ _ hS => JD 0 JW J0 hS rfl ⟨rfl, rfl⟩ rfl <| Ja ⟨rfl, Jg _⟩, oD, oD, fun _ _ _ => Jo Jh XE3 (hS.ro hp) rfl rfl o32 rfl <| Ja ⟨rfl, rfl⟩, og hS fun _ _ hS => Js XU3 rfl rfl (JJ (hS.ro hp) o32) rfl <| Ja ⟨rfl, Jg _⟩, oD, ?_, ?_, oD, trivial⟩
     . intro w35 hE RR
       have hS := hS.grow (hE rfl)
       refine WL.call Ji5 rfl Jlc rfl rfl (JF (Zb (hS.ro hf) o38)) ?_
       rintro _ w37 ⟨_, hGw37, hRww37, hNww37, r36q, rfl, rfl, he⟩
       subst he
       exact Ja ⟨rfl, hGw37⟩
     intro w39 hE RR
     have hS := hS.grow (hE rfl)
     refine WL.call XF89 rfl XN89 rfl rfl (JF (Jc7 (hS.ro hf) o42)) ?_
     rintro _ w41 ⟨_, hGw41, hRww41, hNww41, r40q, rfl, rfl, he⟩
     subst he
     exact Ja ⟨rfl, hGw41⟩
   intro w44 hT
   have hS := hS.grow hT
   refine JC <| JI <| JD 0 JW J0 hS rfl ⟨rfl, rfl⟩ rfl <| Jc 2 <| SL.call hS (Zb (hS.ro hf) hv) Ji5 rfl Jlc rfl rfl ?_
   rintro _ _ w45 ⟨r46, rfl, rfl, hv⟩ hGw45 hS
   have hS := hS.n0
   refine Jc 2 <| Jd 2 ?_
   obtain ⟨o47, hv⟩ := hv
   refine WL.add (r := (z21 + 1)) rfl rfl (wr o47) rfl <| Jc 2 ?_
   exact ⟨(r40, r46, (z21 + 1)), sp rfl, hv.2, rfl, hv.1, hS⟩
  have hv := hv.2 (oF c25)
  refine JB <| Jd 5 <| W.ret <| ⟨_, rfl, Fin.nil ?_⟩
  exact (hS.pick [] rfl).fin rfl ⟨z19, rfl, rfl, hv⟩
end Go.Proofs.Ytppkigdakobebaa
set_option linter.unusedVariables false
set_option linter.unusedSimpArgs false
namespace Go.Proofs.Ytppkigdakobebaa
open Ks
/-! ### the reference's quotients, values; what the laws ask first -/
section
variable {k : Ks} {F : GFv} {P M : Int} {mf : List Int}
theorem Jr5 {p : List Int} {x : Int} {Q : Int -> Prop} (hF : FV P M mf k.p k.m k.v) (hp : p.length <= 100000) (h : Q (k.co (vl_ (k.pol p) (k.el x)))) : Jdd P M mf p x Q := by
  refine ⟨fun a b z => ∃ j : Nat, z = j /\ j <= p.length /\ a = k.co (evp (k.pol p) j (k.el x)) /\ b = k.co (pwr (k.el x) j), fun a b z => (p.length - z).toNat, ⟨0, rfl, Nat.zero_le _, rfl, rfl⟩, ?_⟩
  rintro _ _ _ ⟨j, rfl, hj, rfl, rfl⟩
  dsimp only
  refine ⟨fun hz => ⟨⟨by omega, by omega⟩, _, Jbg hF rfl, _, Jor hF rfl, Jbg hF ⟨Jw (by omega) (by omega), ⟨j + 1, by push_cast; rfl, by omega, ?_, ?_⟩, by omega⟩⟩, fun hz => ?_⟩
  . rw [Qx, Qx, Qx]; rfl
  . rw [Qx]; rfl
  . rw [show j = p.length by omega, <- YH (Yq p)]; exact h
end
end Go.Proofs.Ytppkigdakobebaa
set_option linter.unusedSimpArgs false
set_option linter.unusedVariables false
set_option maxRecDepth 4000
set_option maxHeartbeats 4000000
namespace Go.Proofs.Ytppkigdakobebaa
open Go.RowKit
def Zz (Pd : Int) (Md : Int) (md : List Int) (Kd : Int) (da : List Int) (db : List Int) (y : List Int) (Q : List Int -> Prop) : Prop :=
  (0 <= (da.length : Int) /\ (da.length : Int) * 8 <= 281474976710656 /\ (da.length : Int) <= 281474976710656) /\ (∃ (I23 : List Int -> Int -> Prop) (μ24 : List Int -> Int -> Nat), I23 (List.replicate (da.length : Int).toNat (0 : Int)) (0 : Int) /\ ∀ (x21 : List Int) (z22 : Int), (I23 x21 z22 -> (((z22 < (((da.length : Int).toNat : Nat) : Int)) -> ((0 <= z22 /\ z22 < (db.length : Nat)) /\ ((0 <= z22 /\ z22 < (da.length : Nat)) /\ (∃ (r47 : Int), Jdd Pd Md md y (gi da z22) (fun q => q = r47) /\ (∃ (r51 : Int), YC Pd Md md (gi db z22) r47 (fun q => q = r51) /\ ((0 <= z22 /\ z22 < ((da.length : Int).toNat : Nat)) /\ ((I64 (z22 + 1)) /\ (I23 (si x21 z22 r51) (z22 + 1) /\ μ24 (si x21 z22 r51) (z22 + 1) < μ24 x21 z22)))))))) /\ (¬ (z22 < (((da.length : Int).toNat : Nat) : Int)) -> Q x21))))
theorem Jnb {w : World} {Q : List Int -> Prop} {Pd : Int} {Md : Int} {md : List Int} {Kd : Int} {da : List Int} {db : List Int} {y : List Int} {Bd : Nat} {Ad : Option Addr} {nd kd : Nat} (hd : Rd Bd w 1 Ad nd kd (is md)) {Bda : Nat} {Ada : Option Addr} {nda kda : Nat} (hda : Rd Bda w 1 Ada nda kda (is da)) {Bdb : Nat} {Adb : Option Addr} {ndb kdb : Nat} (hdb : Rd Bdb w 1 Adb ndb kdb (is db)) {By : Nat} {Ay : Option Addr} {ny ky : Nat} (hy : Rd By w 1 Ay ny ky (is y)) (hv : Zz Pd Md md Kd da db y Q) :
    Calls Try.prog 40 #[.agg #[.int .i64 Pd, .int .i64 Md, .slice Ad nd kd, .int .i64 Kd, .slice Ada nda kda, .slice Adb ndb kdb], .slice Ay ny ky] w <| Rt w fun v Qr => ∃ (x : List Int)  (A : Option Addr) (c : Nat), v = .slice A x.length c /\ Qr = [.row 3 1 A x.length c (is x)] /\ Q x := by
  have hnd := hd.ilen
  subst hnd
  have hnda := hda.ilen
  subst hnda
  have hndb := hdb.ilen
  subst hndb
  have hny := hy.ilen
  subst hny
  refine Jn <| Jl (vs := [.agg #[nI Pd, nI Md, nS Ad md kd, nI Kd, nS Ada da kda, nS Adb db kdb], nS Ay y ky]) [4] XF40 rfl rfl rfl rfl ?_
  have hS := Jt w
  unfold Zz at hv
  refine Jd 2 <| JH (z := 6) (cs := [nI Pd, nI Md, nS Ad md kd, nI Kd, nS Ada da kda, nS Adb db kdb]) hS rfl rfl rfl rfl ?_
  intro g11 w12 hS
  refine Jc 2 <| Jd 2 <| Jb (off := 4) Ju rfl rfl <| Jp 0 4 Jh hS rfl rfl rfl ⟨rfl, rfl⟩ <| WL.len Jh rfl rfl ?_
  obtain ⟨o13, hv⟩ := hv
  refine QI (J := (da.length : Int)) hS Jh XE3 rfl rfl o13 (QG _) rfl ?_
  intro A14 w15 hS
  refine Jc 2 <| Jd 5 <| W.block ?_
  obtain ⟨I23, μ24, hv, hk58⟩ := hv
  refine JE (σ := List Int × Int) (fun q w1 => match q with | (x21, z22) => I23 x21 z22 /\ St TT w none w1 [.row 3 1 A14 ((da.length : Int).toNat) ((da.length : Int).toNat) (is x21), .row 48 6 (nA g11) 1 1 [nI Pd, nI Md, nS Ad md kd, nI Kd, nS Ada da kda, nS Adb db kdb]]) (fun (x21, z22) => [(1, nS Ay y ky), (2, nP g11), (4, .slice none 0 0), (5, .slice A14 ((da.length : Int).toNat) ((da.length : Int).toNat)), (6, nI z22)]) (fun (x21, z22) => μ24 x21 z22) (List.replicate (da.length : Int).toNat (0 : Int), (0 : Int)) ⟨hv, hS⟩ ⟨rfl, rfl, rfl, rfl, rfl, trivial⟩ ?_
  rintro ⟨x21, z22⟩ w25 ⟨hv, hS⟩
  have hv := hk58 x21 z22 hv
  refine Jd 5 <| WL.len Jh rfl rfl <| Jc 2 <| Jj rfl (fun c26 => ?_) (fun c26 => ?_)
  .have hv := hv.1 (oT c26)
   refine Jr <| JA <| W.block ?_
   obtain ⟨o35, hv⟩ := hv
   obtain ⟨o44, hv⟩ := hv
   obtain ⟨r47, o49, hv⟩ := hv
   obtain ⟨r51, o53, hv⟩ := hv
   refine JK 19 [⟨[], [5], true⟩, ⟨[], [6], true⟩, ⟨[], [2], true⟩, ⟨[2], [], false⟩, ⟨[], [2], true⟩, ⟨[4], [], false⟩, ⟨[], [6], true⟩, ⟨[5, 6], [], true⟩, ⟨[7], [], false⟩, ⟨[], [2], true⟩, ⟨[9], [], false⟩, ⟨[], [1], true⟩, ⟨[], [2], true⟩, ⟨[12], [], false⟩, ⟨[], [6], true⟩, ⟨[13, 14], [], true⟩, ⟨[15], [], false⟩, ⟨[10, 11, 16], [], false⟩, ⟨[3, 8, 17], [], false⟩] [(17, .slice A14 ((da.length : Int).toNat) ((da.length : Int).toNat)), (18, nI z22), (19, nP g11), (20, .agg #[nI Pd, nI Md, nS Ad md kd]), (21, .pointer (some ((⟨g11, 0, none⟩ : Addr).add 5))), (22, nS Adb db kdb), (23, nI z22), (24, .pointer (some ((JU Adb).add z22.toNat))), (25, nI (gi db z22)), (26, nP g11), (27, .agg #[nI Pd, nI Md, nS Ad md kd]), (28, nS Ay y ky), (29, .pointer (some ((⟨g11, 0, none⟩ : Addr).add 4))), (30, nS Ada da kda), (31, nI z22), (32, .pointer (some ((JU Ada).add z22.toNat))), (33, nI (gi da z22)), (34, nI r47), (35, nI r51)] Try.mixed (by kernel_rfl) rfl rfl ?_ ?_
   . refine ⟨oD, oD, fun _ _ _ => Jb (off := 0) Qf rfl rfl <| Ja ⟨rfl, rfl⟩, og hS fun _ _ hS => J4 (cs := [nI Pd, nI Md, nS Ad md kd]) JW J0 rfl rfl (QE (hS.rd (i := 1) rfl) 0 rfl) rfl <| Ja ⟨rfl, Jg _⟩, fun _ _ _ => Jb (off := 5) Jv rfl rfl <| Ja ⟨rfl, rfl⟩, og hS fun _ _ hS => Jp 1 5 Jh hS rfl rfl rfl ⟨rfl, rfl⟩ <| Ja ⟨rfl, Jg _⟩, oD, fun _ _ _ => Jo Jh XE3 (hS.ro hdb) rfl rfl o35 rfl <| Ja ⟨rfl, rfl⟩, og hS fun _ _ hS => Js XU3 rfl rfl (JJ (hS.ro hdb) o35) rfl <| Ja ⟨rfl, Jg _⟩, fun _ _ _ => Jb (off := 0) Qf rfl rfl <| Ja ⟨rfl, rfl⟩, og hS fun _ _ hS => J4 (cs := [nI Pd, nI Md, nS Ad md kd]) JW J0 rfl rfl (QE (hS.rd (i := 1) rfl) 0 rfl) rfl <| Ja ⟨rfl, Jg _⟩, oD, fun _ _ _ => Jb (off := 4) Ju rfl rfl <| Ja ⟨rfl, rfl⟩, og hS fun _ _ hS => Jp 1 4 Jh hS rfl rfl rfl ⟨rfl, rfl⟩ <| Ja ⟨rfl, Jg _⟩, oD, fun _ _ _ => Jo Jh XE3 (hS.ro hda) rfl rfl o44 rfl <| Ja ⟨rfl, rfl⟩, og hS fun _ _ hS => Js XU3 rfl rfl (JJ (hS.ro hda) o44) rfl <| Ja ⟨rfl, Jg _⟩, ?_, ?_, trivial⟩
     . intro w46 hE RR
       have hS := hS.grow (hE rfl)
       refine WL.call XF82 rfl XN82 rfl rfl (JF (Jpy (hS.ro hd) (hS.ro hy) o49)) ?_
       rintro _ w48 ⟨_, hGw48, hRww48, hNww48, r47q, rfl, rfl, he⟩
       subst he
       exact Ja ⟨rfl, hGw48⟩
     intro w50 hE RR
     have hS := hS.grow (hE rfl)
     refine WL.call Ji5 rfl Jlc rfl rfl (JF (Zb (hS.ro hd) o53)) ?_
     rintro _ w52 ⟨_, hGw52, hRww52, hNww52, r51q, rfl, rfl, he⟩
     subst he
     exact Ja ⟨rfl, hGw52⟩
   intro w54 hT
   have hS := hS.grow hT
   refine Je 19 rfl ?_
   obtain ⟨o55, hv⟩ := hv
   refine Jo Jh XE3 (hS.rd (i := 0) rfl) rfl rfl o55 rfl <| Ja <| Je 20 rfl <| Jf (cs' := is (si x21 z22 r51)) 0 z22.toNat hS rfl XE3 rfl rfl rfl (Qu (hS.rd (i := 0) rfl) o55) (Qb _ _ _) ?_
   intro w56 hS
   refine Ja <| JC <| Jd 2 ?_
   obtain ⟨o57, hv⟩ := hv
   refine WL.add (r := (z22 + 1)) rfl rfl (wr o57) rfl <| Jc 2 ?_
   exact ⟨(si x21 z22 r51, (z22 + 1)), sp rfl, hv.2, rfl, hv.1, hS⟩
  have hv := hv.2 (oF c26)
  refine JB <| Jd 5 <| W.ret ?_
  have hm := (hS.rd (i := 0) rfl).ilen
  have hS := hS.relen (i := 0) rfl hm.symm
  refine ⟨_, rfl, Fin.nil ?_⟩
  exact ⟨_, hS.ext, (hS.pick [0] rfl).rows, Yl (hS.pick [0] rfl).rows rfl, ⟨x21, A14, (da.length : Int).toNat, (by rw [hm]), rfl, hv⟩⟩
end Go.Proofs.Ytppkigdakobebaa
set_option linter.unusedVariables false
set_option linter.unusedSimpArgs false
namespace Go.Proofs.Ytppkigdakobebaa
open Ks
section
variable {P M : Int} {mf : List Int} {k : Ks} {F : GFv} {K : Int} {da db : List Int}
theorem Joo {y : List Int} {Q : List Int -> Prop} (hF : FV P M mf k.p k.m k.v) (G : GsD k K da db) (hy : y.length <= 100000) (h : Q (GW k da db (k.pol y))) : Zz P M mf K da db y Q := by
  have n64 := G.n64; have hlen := G.len
  unfold Zz
  rw [Int.toNat_natCast]
  refine ⟨by omega, fun x z => Fill (fun i => k.co (k.el (vo db i) * vl_ (k.pol y) (k.el (vo da i)))) da.length x z, fun _ z => ((da.length : Nat) - z : Int).toNat, YF _ _, ?_⟩
  rintro x z hf
  obtain ⟨j, rfl, hj, hx, hv⟩ := hf
  refine ⟨fun hlt => ⟨⟨by omega, by omega⟩, ⟨by omega, by omega⟩, _, Jr5 hF hy rfl, _, Jbg hF rfl, ⟨by omega, by omega⟩, Jw (by omega) (by omega), Fill.step ⟨j, rfl, hj, hx, hv⟩ (by omega) (by rw [Qx]; rfl), by show ((da.length : Nat) - ((j : Int) + 1) : Int).toNat < ((da.length : Nat) - (j : Int) : Int).toNat; omega⟩, fun hge => ?_⟩
  have : j = da.length := by omega
  subst this
  rw [Jgh (f := fun i => k.co (k.el (vo db i) * vl_ (k.pol y) (k.el (vo da i)))) ⟨_, rfl, hj, hx, hv⟩]; exact h
end
end Go.Proofs.Ytppkigdakobebaa
set_option linter.unusedSimpArgs false
set_option linter.unusedVariables false
set_option maxRecDepth 4000
set_option maxHeartbeats 4000000
namespace Go.Proofs.Ytppkigdakobebaa
open Go.RowKit
def Jak (Pd : Int) (Md : Int) (md : List Int) (Kd : Int) (da : List Int) (db : List Int) (y : List Int) (Q : Bool -> Prop) : Prop :=
  QV  (fun r14 => (((!r14) = true) -> Q false) /\ ((!r14) = false -> ((((24 : Int) < (da.length : Int)) -> Q true) /\ (¬ ((24 : Int) < (da.length : Int)) -> ((((300 : Int) < (y.length : Int)) -> Q true) /\ (¬ ((300 : Int) < (y.length : Int)) -> (QC Pd Md md Kd da db y (fun (x19, r20) => QO Pd Md md Kd da db (fun r25 => ∃ J27 : Int -> Prop, (((r25 = 0) -> (Qe Pd Md md y Kd (3 : Int) (fun r30 => J27 r30))) /\ (¬ (r25 = 0) -> J27 r25)) /\ ∀ (z26 : Int), (J27 z26 -> (((z26 ≠ 0) -> (((r20 = z26) -> (Q (decide ((x19.length : Int) = (0 : Int))))) /\ (¬ (r20 = z26) -> Q false))) /\ (¬ (z26 ≠ 0) -> (((r20 = 0) -> (Zz Pd Md md Kd da db y (fun x36 => ZV x19 x36 (fun r41 => Q r41)))) /\ (¬ (r20 = 0) -> Q false))))))))))))))
theorem Jh1 {w : World} {Q : Bool -> Prop} {Pd : Int} {Md : Int} {md : List Int} {Kd : Int} {da : List Int} {db : List Int} {y : List Int} {Bd : Nat} {Ad : Option Addr} {nd kd : Nat} (hd : Rd Bd w 1 Ad nd kd (is md)) {Bda : Nat} {Ada : Option Addr} {nda kda : Nat} (hda : Rd Bda w 1 Ada nda kda (is da)) {Bdb : Nat} {Adb : Option Addr} {ndb kdb : Nat} (hdb : Rd Bdb w 1 Adb ndb kdb (is db)) {By : Nat} {Ay : Option Addr} {ny ky : Nat} (hy : Rd By w 1 Ay ny ky (is y)) (hv : Jak Pd Md md Kd da db y Q) :
    Calls Try.prog 10 #[.agg #[.int .i64 Pd, .int .i64 Md, .slice Ad nd kd, .int .i64 Kd, .slice Ada nda kda, .slice Adb ndb kdb], .slice Ay ny ky] w <| Rt w fun v Qr => ∃ (r0 : Bool), v = .bool r0 /\ Qr = [] /\ Q r0 := by
  have hnd := hd.ilen
  subst hnd
  have hnda := hda.ilen
  subst hnda
  have hndb := hdb.ilen
  subst hndb
  have hny := hy.ilen
  subst hny
  refine Jn <| Jl (vs := [.agg #[nI Pd, nI Md, nS Ad md kd, nI Kd, nS Ada da kda, nS Adb db kdb], nS Ay y ky]) [4] XF10 rfl rfl rfl rfl ?_
  have hS := Jt w
  unfold Jak at hv
  refine Jd 2 <| JH (z := 6) (cs := [nI Pd, nI Md, nS Ad md kd, nI Kd, nS Ada da kda, nS Adb db kdb]) hS rfl rfl rfl rfl ?_
  intro g11 w12 hS
  refine Jc 2 <| Jd 3 <| SL.call hS (Yu  hv) Ji6 rfl Jld rfl rfl ?_
  rintro _ _ w13 ⟨r14, rfl, rfl, hv⟩ hGw13 hS
  have hS := hS.n0
  refine Jc 2 <| Jj rfl (fun c15 => ?_) (fun c15 => ?_)
  .have hv := hv.1 (c15)
   refine Jd 4 <| W.ret <| ⟨_, rfl, Fin.nil ?_⟩
   exact (hS.pick [] rfl).fin rfl ⟨false, rfl, rfl, hv⟩
  have hv := hv.2 (c15)
  refine Jr <| Jd 3 <| Jb (off := 4) Ju rfl rfl <| Jp 0 4 Jh hS rfl rfl rfl ⟨rfl, rfl⟩ <| WL.len Jh rfl rfl <| Jg7 rfl rfl rfl <| Jq rfl rfl ?_
  by_cases g16 : (24 : Int) < (da.length : Int)
  .have hv := hv.1 g16
   rw [decide_eq_true g16]
   refine Jc 5 <| JP rfl <| Jd 4 <| W.ret <| ⟨_, rfl, Fin.nil ?_⟩
   exact (hS.pick [] rfl).fin rfl ⟨true, rfl, rfl, hv⟩
  have hv := hv.2 g16
  rw [decide_eq_false g16]
  refine Jc 3 <| WL.len Jh rfl rfl <| Jc 4 <| Jj rfl (fun c17 => ?_) (fun c17 => ?_)
  .have hv := hv.1 (oT c17)
   refine Jd 4 <| W.ret <| ⟨_, rfl, Fin.nil ?_⟩
   exact (hS.pick [] rfl).fin rfl ⟨true, rfl, rfl, hv⟩
  have hv := hv.2 (oF c17)
  refine Jr <| Jd 2 <| JD 0 JQ J7 hS rfl ⟨rfl, rfl⟩ rfl <| Jq rfl rfl <| SL.call hS (Q2 (hS.ro hd) (hS.ro hda) (hS.ro hdb) (hS.ro hy) hv) Jle rfl Joa rfl rfl ?_
  rintro _ _ w18 ⟨x19, r20, A21, k22, rfl, rfl, hv⟩ hGw18 hS
  have hS := hS.n1
  refine Jc 6 <| Jd 2 <| JD 1 JQ J7 hS rfl ⟨rfl, rfl⟩ rfl <| SL.call hS (Yr (hS.ro hd) (hS.ro hda) (hS.ro hdb) hv) Joe rfl XN31 rfl rfl ?_
  rintro _ _ w24 ⟨r25, rfl, rfl, hv⟩ hGw24 hS
  have hS := hS.n0
  refine Jc 2 <| Jd 6 ?_
  obtain ⟨J27, hv, hk42⟩ := hv
  refine QT (σ := Int) (fun z26 w1 => J27 z26 /\ St TT w none w1 [nR 3 A21 x19 k22, .row 48 6 (nA g11) 1 1 [nI Pd, nI Md, nS Ad md kd, nI Kd, nS Ada da kda, nS Adb db kdb]]) (fun z26 => [(1, nS Ay y ky), (2, nP g11), (4, .bool false), (5, nS A21 x19 k22), (6, nI r20), (7, nI z26)]) ?_ ?_
  .refine Jj rfl (fun c28 => ?_) (fun c28 => ?_)
   .have hv := hv.1 (oT c28)
    refine JI <| Jb (off := 0) Qf rfl rfl <| J4 (cs := [nI Pd, nI Md, nS Ad md kd]) JW J0 rfl rfl (QE (hS.rd (i := 1) rfl) 0 rfl) rfl <| Jq rfl rfl <| Jb (off := 3) Qm rfl rfl <| Jp 1 3 XU3 hS rfl rfl rfl ⟨rfl, rfl⟩ <| SL.call hS (Q6 (hS.ro hd) (hS.ro hy) hv) XF38 rfl XN38 rfl rfl ?_
    rintro _ _ w29 ⟨r30, rfl, rfl, hv⟩ hGw29 hS
    have hS := hS.n0
    refine Jc 2 ?_
    exact ⟨r30, sp rfl, rfl, hv, hS⟩
   have hv := hv.2 (oF c28)
   refine Jr ?_
   exact ⟨r25, sp rfl, rfl, hv, hS⟩
  rintro z26 w31 ⟨hv, hS⟩
  have hv := hk42 z26 hv
  refine Jd 6 <| Jj rfl (fun c32 => ?_) (fun c32 => ?_)
  .have hv := hv.1 (oT c32)
   refine Jd 5 <| Jq rfl rfl ?_
   by_cases g33 : r20 = z26
   .have hv := hv.1 g33
    rw [decide_eq_true g33]
    refine Jc 3 <| WL.len Jh rfl rfl <| Jc 5 <| W.ret <| ⟨_, rfl, Fin.nil ?_⟩
    exact (hS.pick [] rfl).fin rfl ⟨(decide ((x19.length : Int) = (0 : Int))), rfl, rfl, hv⟩
   have hv := hv.2 g33
   rw [decide_eq_false g33]
   refine Jc 6 <| W.ret <| ⟨_, rfl, Fin.nil ?_⟩
   exact (hS.pick [] rfl).fin rfl ⟨false, rfl, rfl, hv⟩
  have hv := hv.2 (oF c32)
  refine Jr <| Jd 4 <| Jq rfl rfl ?_
  by_cases g34 : r20 = 0
  .have hv := hv.1 g34
   rw [decide_eq_true g34]
   refine Jc 3 <| JD 1 JQ J7 hS rfl ⟨rfl, rfl⟩ rfl <| Jc 3 <| SL.call hS (Jnb (hS.ro hd) (hS.ro hda) (hS.ro hdb) (hS.ro hy) hv) XF40 rfl XN40 rfl rfl ?_
   rintro _ _ w35 ⟨x36, A37, k38, rfl, rfl, hv⟩ hGw35 hS
   have hS := hS.n1
   refine WL.take rfl <| SL.call hS (Jdx (hS.rd (i := 1) rfl) (hS.rd (i := 0) rfl) hv) XF39 rfl XN39 rfl rfl ?_
   rintro _ _ w40 ⟨r41, rfl, rfl, hv⟩ hGw40 hS
   have hS := hS.n0
   refine Jc 3 <| W.ret <| ⟨_, rfl, Fin.nil ?_⟩
   exact (hS.pick [] rfl).fin rfl ⟨r41, rfl, rfl, hv⟩
  have hv := hv.2 g34
  rw [decide_eq_false g34]
  refine Jc 8 <| W.ret <| ⟨_, rfl, Fin.nil ?_⟩
  exact (hS.pick [] rfl).fin rfl ⟨false, rfl, rfl, hv⟩
end Go.Proofs.Ytppkigdakobebaa
set_option linter.unusedVariables false
set_option linter.unusedSimpArgs false
namespace Go.Proofs.Ytppkigdakobebaa
open Ks
/-! ### generalized Reed-Solomon codes: the laws -/
section
variable {P M : Int} {mf : List Int} {k k' : Ks} {F : GFv} {K : Int} {da db : List Int}
theorem Jqg (h : gck P M mf K da db = 0) : 0 <= K /\ K <= 64 := by
  obtain ⟨k, hF⟩ := Jh5 (Qs h)
  have G := Jes hF h
  have k0 := G.k0; have kn := G.kn; have := G.n64
  omega
theorem Jd5 (P M : Int) (mf : List Int) (K : Int) (da db y : List Int) : Jak P M mf K da db y (fun b => b = true) := by
  refine YG (zT ⟨fun _ => rfl, fun c1 => ⟨fun _ => rfl, fun c2 => ?_⟩⟩)
  have one : ∀ {A B : Prop} {a : Int}, A -> ((a = a -> A) /\ (¬ (a = a) -> B)) := fun h => ⟨fun _ => h, fun c => absurd rfl c⟩
  refine Ym (by omega) (fun hn => ?_) (fun hz hl => ?_) (fun hz hl hb => ?_) fun k hF G hl hb => ?_
  . refine Qz ⟨fun z => z = gck P M mf K da db, ⟨fun c => absurd c hn, fun _ => rfl⟩, ?_⟩
    rintro _ rfl
    exact ⟨fun _ => one (decide_eq_true rfl), fun c => absurd hn c⟩
  . refine Qz ⟨fun z => z = 3, ⟨fun _ => Je4 (Qs hz) (by have := Jqg hz; omega) (fun _ => rfl) (fun e => absurd e hl) (fun e => absurd e hl), fun c => absurd hz c⟩, ?_⟩
    rintro _ rfl
    exact ⟨fun _ => one (decide_eq_true rfl), fun c => absurd (by decide) c⟩
  . refine Qz ⟨fun z => z = 2, ⟨fun _ => Je4 (Qs hz) (by have := Jqg hz; omega) (fun e => absurd hl e) (fun _ _ => rfl) (fun _ e => absurd e hb), fun c => absurd hz c⟩, ?_⟩
    rintro _ rfl
    exact ⟨fun _ => one (decide_eq_true rfl), fun c => absurd (by decide) c⟩
  . have hz := G.ck hF
    refine Qz ⟨fun z => z = 0, ⟨fun _ => Je4 (Qs hz) (by have := Jqg hz; omega) (fun e => absurd hl e) (fun _ e => absurd (by rw [hF.ord]; exact hb) e) (fun _ _ => rfl), fun c => absurd hz c⟩, ?_⟩
    rintro _ rfl
    refine ⟨fun c => absurd rfl c, fun _ => one (Joo hF G (by omega) (Jft ?_ (decide_eq_true rfl)))⟩
    rw [QW]; omega
end
end Go.Proofs.Ytppkigdakobebaa
